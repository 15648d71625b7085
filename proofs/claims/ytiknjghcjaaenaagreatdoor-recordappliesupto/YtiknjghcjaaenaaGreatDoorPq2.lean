import Derived.Test.YtiknjghcjaaenaaGreatDoorPq1
import Derived.Test.YtiknjghcjaaenaaGreatDoorKOap
import Derived.Test.YtiknjghcjaaenaaGreatDoorCards
import Derived.Test.YtiknjghcjaaenaaGreatDoorTie
import Derived.WalkKit
import Derived.ProofKit
import Derived.OpenShut
import Derived.LaidLaws
import Derived.Deep.DeepHandedRow
import Derived.Deep.DeepWitnessRowRef
import Derived.Test.YtiknjghcjaaenaaGreatDoorRows
import Derived.SizedLaws
import Derived.JoinedCond
import Derived.Deep.Slices
import Derived.Test.YtiknjghcjaaenaaGreatDoorKOab
import Derived.Lib.Strings
import Derived.BigQuiet
import Derived.Laws.BitsAllLaws
import Derived.Test.YtiknjghcjaaenaaGreatDoorKOai
import Derived.Test.YtiknjghcjaaenaaGreatDoorKOca
import Derived.Test.YtiknjghcjaaenaaGreatDoorKOar
namespace Go.Proofs.YtiknjghcjaaenaaGreatDoor
open Go.RowKit Go.Shelf
theorem Us.frS {w w' : World} {x : Value} {l : List Nat} {S : Nat → Prop} (h : Us w x l) (hf : Fr S w w') (hS : ∀ g o n c, x = .slice (some ⟨g, o, none⟩) n c → 0 < n → ¬ S g) : Us w' x l := by
 rcases h with h | ⟨g, o, c, h1, h2⟩
 ·exact .inl h
 ·exact .inr ⟨g, o, c, h1, fun j hj => (hf.cell (p := ⟨g, _, none⟩) (lt_of_cell (h2 j hj)) (hS g o _ c h1 (by omega))).trans (h2 j hj)⟩
structure RF (w wr : World) (bs bz : Nat) (Ts Tz : Nat → Prop) (ss sz : RM) (sv rv pv : Value) (l : List (RQ × List F5)) (pl : List Nat) : Prop where
 rs : RsB wr bs Ts ss
 rz : RsB wr bz Tz sz
 ts : ∀ k, Ts k → w.heap.size + 1 ≤ k ∧ k < wr.heap.size
 tz : ∀ k, Tz k → w.heap.size + 1 ≤ k ∧ k < wr.heap.size
 dj : ∀ k, Ts k → ¬ Tz k
 b : wr.heap[w.heap.size]? = some (.cells #[sv, rv, pv] 26)
 q : Rqs wr rv l
 lo : ∀ k, Rqb rv l k → k < w.heap.size
 p : Us wr pv pl
 po : ∀ g o n c, pv = .slice (some ⟨g, o, none⟩) n c → 0 < n → g < w.heap.size
 u : GU wr
 uv : 1 < w.heap.size
 f : Fr (fun _ => False) w wr
theorem RF.fr {w wr W : World} {bs bz : Nat} {Ts Tz : Nat → Prop} {ss sz : RM} {sv rv pv : Value} {l : List (RQ × List F5)} {pl : List Nat} (h : RF w wr bs bz Ts Tz ss sz sv rv pv l pl) (hf : Fr (fun _ => False) wr W) : RF w W bs bz Ts Tz ss sz sv rv pv l pl :=
 ⟨h.rs.fr hf, h.rz.fr hf, fun k hk => ⟨(h.ts k hk).1, Nat.lt_of_lt_of_le (h.ts k hk).2 hf.size⟩, fun k hk => ⟨(h.tz k hk).1, Nat.lt_of_lt_of_le (h.tz k hk).2 hf.size⟩, h.dj, (hf.block _ (lt_of_block h.b) (fun h => h)).trans h.b, h.q.fr hf, h.lo, h.p.fr hf, h.po, h.u.fr hf, h.uv, h.f.trans hf (fun _ _ h => h)⟩
theorem RF.goS {w W W' : World} {bs bz : Nat} {Ts Tz T' : Nat → Prop} {ss sz s' : RM} {sv rv pv : Value} {l : List (RQ × List F5)} {pl : List Nat} (h : RF w W bs bz Ts Tz ss sz sv rv pv l pl) (hf : Fr Ts W W') (hr : RsB W' bs T' s') (k2 : ∀ k, T' k → Ts k ∨ W.heap.size ≤ k) (k3 : ∀ k, T' k → k < W'.heap.size) : RF w W' bs bz T' Tz s' sz sv rv pv l pl := by
 have hb := lt_of_block h.b
 have hs := hf.size
 have hlow : ∀ k, k ≤ w.heap.size → ¬ Ts k := fun k hk hT => by have := (h.ts k hT).1; omega
 refine ⟨hr, h.rz.frS hf (fun k hk => h.dj k hk), fun k hk => ⟨?_, k3 k hk⟩, fun k hk => ⟨(h.tz k hk).1, Nat.lt_of_lt_of_le (h.tz k hk).2 hs⟩, fun k hk hz => ?_, (hf.block _ hb (hlow _ (Nat.le_refl _))).trans h.b, h.q.frS hf (fun k hk => hlow k (by have := h.lo k hk; omega)), h.lo, h.p.frS hf (fun g o n c e h0 => hlow g (by have := h.po g o n c e h0; omega)), h.po, h.u.frT hf (hlow _ (by have := h.uv; omega)), h.uv, h.f.absorb hf (fun k hk => by have := (h.ts k hk).1; omega)⟩
 ·rcases k2 k hk with h1 | h1
  ·exact (h.ts k h1).1
  ·omega
 ·rcases k2 k hk with h1 | h1
  ·exact h.dj k h1 hz
  ·have := (h.tz k hz).2; omega
theorem RF.swap {w wr : World} {bs bz : Nat} {Ts Tz : Nat → Prop} {ss sz : RM} {sv rv pv : Value} {l : List (RQ × List F5)} {pl : List Nat} (h : RF w wr bs bz Ts Tz ss sz sv rv pv l pl) : RF w wr bz bs Tz Ts sz ss sv rv pv l pl :=
 ⟨h.rz, h.rs, h.tz, h.ts, fun k hk hs => h.dj k hs hk, h.b, h.q, h.lo, h.p, h.po, h.u, h.uv, h.f⟩
theorem OwS.frS {w w' : World} {base : Nat} {v : Value} {l : List SM} {S : Nat → Prop} (h : OwS w base v l) (hf : Fr S w w') (hS : ∀ g, v.ownBlock = some g → ¬ S g) : OwS w' base v l :=
 ownsRow_of_block h (fun g hg => hf.block g (h.lt g hg).2 (hS g hg))
theorem RF.frS {w W W' : World} {bs bz : Nat} {Ts Tz S : Nat → Prop} {ss sz : RM} {sv rv pv : Value} {l : List (RQ × List F5)} {pl : List Nat} (h : RF w W bs bz Ts Tz ss sz sv rv pv l pl) (hf : Fr S W W') (h1 : ∀ k, S k → w.heap.size < k ∧ ¬ Ts k ∧ ¬ Tz k) : RF w W' bs bz Ts Tz ss sz sv rv pv l pl := by
 have hs := hf.size
 have hlow : ∀ k, k ≤ w.heap.size → ¬ S k := fun k hk hS => by have := (h1 k hS).1; omega
 exact ⟨h.rs.frS hf (fun k hk => (h1 k hk).2.1), h.rz.frS hf (fun k hk => (h1 k hk).2.2), fun k hk => ⟨(h.ts k hk).1, Nat.lt_of_lt_of_le (h.ts k hk).2 hs⟩, fun k hk => ⟨(h.tz k hk).1, Nat.lt_of_lt_of_le (h.tz k hk).2 hs⟩, h.dj, (hf.block _ (lt_of_block h.b) (hlow _ (Nat.le_refl _))).trans h.b, h.q.frS hf (fun k hk => hlow k (by have := h.lo k hk; omega)), h.lo, h.p.frS hf (fun g o n c e h0 => hlow g (by have := h.po g o n c e h0; omega)), h.po, h.u.frT hf (hlow _ (by have := h.uv; omega)), h.uv, h.f.absorb hf (fun k hk => by have := (h1 k hk).1; omega)⟩
theorem RF.apply {w W : World} {bs bz : Nat} {Ts Tz : Nat → Prop} {ss sz : RM} {sv rv pv : Value} {l : List (RQ × List F5)} {pl : List Nat} (h : RF w W bs bz Ts Tz ss sz sv rv pv l pl) {p : RQ × List F5} (hp : p ∈ l) (hok : ss.Ok) (hg : PGood p) (n : Nat) (X : RM × RA) (hX : ss.step p.1 p.2 n = X) :
  Calls Tryz.prog 10 #[.pointer (some ⟨bs, 0, none⟩), p.1.v, .int .u32 (n : Nat)] W fun e w' => ∃ fo fn fc ho hn hc, e = .returned (.agg #[.int .u32 (p.1.cl : Nat), .int .u32 (p.1.nu : Nat), .int .u8 (X.2.co : Nat), .int .u32 (X.2.rc : Nat), .int .u32 (X.2.ve : Nat), .slice fo fn fc, .slice ho hn hc]) ∧ ∃ T', RF w w' bs bz T' Tz X.1 sz sv rv pv l pl ∧ Fr Ts W w' ∧ (∀ k, T' k → Ts k ∨ W.heap.size ≤ k) ∧ OwF w' W.heap.size (.slice fo fn fc) X.2.F ∧ OwS w' W.heap.size (.slice ho hn hc) X.2.H := by
 refine (apply_C bs Ts ss p.1 p.2 n W h.rs (fun k hk => (h.ts k hk).2) hok (h.q.d p hp) hg.2.1 hg.2.2 h.u X hX).mono ?_
 rintro e w' ⟨fo, fn, fc, ho, hn, hc, he, o1, o2, hf, T', k1, k2, k3, k4, k5⟩
 exact ⟨fo, fn, fc, ho, hn, hc, he, T', h.goS hf k1 k2 k3, hf, k2, o1, o2⟩
structure RG (w W : World) (bs bz : Nat) (Ts Tz : Nat → Prop) (ss sz : RM) (sv rv pv : Value) (l : List (RQ × List F5)) (pl : List Nat) (ba : Nat) (blk : Array Value) (base : Nat) (fv hv : Value) (a : RA) : Prop where
 rf : RF w W bs bz Ts Tz ss sz sv rv pv l pl
 bk : W.heap[ba]? = some (.cells blk 45)
 hi : w.heap.size < ba
 ns : ¬ Ts ba
 nz : ¬ Tz ba
 f : OwF W base fv a.F
 h : OwS W base hv a.H
 ap : ∀ k, Tz k → k < base
 nf : fv.ownBlock ≠ some ba
 nh : hv.ownBlock ≠ some ba
theorem RG.fr {w W W' : World} {bs bz : Nat} {Ts Tz : Nat → Prop} {ss sz : RM} {sv rv pv : Value} {l : List (RQ × List F5)} {pl : List Nat} {ba base : Nat} {blk : Array Value} {fv hv : Value} {a : RA} (h : RG w W bs bz Ts Tz ss sz sv rv pv l pl ba blk base fv hv a) (hf : Fr (fun _ => False) W W') : RG w W' bs bz Ts Tz ss sz sv rv pv l pl ba blk base fv hv a :=
 ⟨h.rf.fr hf, (hf.block _ (lt_of_block h.bk) (fun h => h)).trans h.bk, h.hi, h.ns, h.nz, h.f.fr hf (fun _ _ h => h), h.h.frS hf (fun _ _ h => h), h.ap, h.nf, h.nh⟩
theorem RG.put {w W : World} {bs bz : Nat} {Ts Tz : Nat → Prop} {ss sz : RM} {sv rv pv : Value} {l : List (RQ × List F5)} {pl : List Nat} {ba base : Nat} {a0 a1 a2 a3 a4 a5 a6 : Value} {fv hv : Value} {a : RA} (h : RG w W bs bz Ts Tz ss sz sv rv pv l pl ba #[a0, a1, a2, a3, a4, a5, a6] base fv hv a) (c0 c1 c2 c3 c4 c5 c6 : Value) (h1 : ∀ v ∈ [c0, c1, c2, c3, c4, c5, c6], v.oneCell' = true) :
  ∃ W8, (Instr.storeAt 45 (.pointer (some ⟨ba, 0, none⟩)) (.agg #[c0, c1, c2, c3, c4, c5, c6])).run Tryz.prog W = .ok () W8 ∧ RG w W8 bs bz Ts Tz ss sz sv rv pv l pl ba #[c0, c1, c2, c3, c4, c5, c6] base fv hv a := by
 obtain ⟨W8, h2, h3, h4⟩ := ans_put h.bk c0 c1 c2 c3 c4 c5 c6 h1
 exact ⟨W8, h2, h.rf.frS h4 (fun k hk => by rw [hk]; exact ⟨h.hi, h.ns, h.nz⟩), h3, h.hi, h.ns, h.nz, h.f.fr h4 (fun g hg e => h.nf (by rw [hg, e])), h.h.frS h4 (fun g hg e => h.nh (by rw [hg, e])), h.ap, h.nf, h.nh⟩
theorem RF.cells {w W : World} {bs bz : Nat} {Ts Tz : Nat → Prop} {ss sz : RM} {sv pv : Value} {g o n c : Nat} {l : List (RQ × List F5)} {pl : List Nat} (h : RF w W bs bz Ts Tz ss sz sv (.slice (some ⟨g, o, none⟩) n c) pv l pl) {j : Nat} {p : RQ × List F5} (hj : l[j]? = some p) : (W.cell? ⟨w.heap.size, 0, none⟩ = some sv ∧ W.cell? ⟨w.heap.size, 1, none⟩ = some (.slice (some ⟨g, o, none⟩) n c) ∧ W.cell? ⟨w.heap.size, 2, none⟩ = some pv) ∧ R10 W g (o + j * 10) p.1 := by
 refine ⟨⟨by simp [World.cell?, h.b], by simp [World.cell?, h.b], by simp [World.cell?, h.b]⟩, ?_⟩
 obtain ⟨hl, hp⟩ := List.getElem?_eq_some_iff.1 hj
 obtain ⟨g', o', e, r⟩ := h.q.at_ j hl
 cases e
 rw [← hp]
 exact r
theorem RG.other {w W w' : World} {bs bz : Nat} {Ts Tz T' : Nat → Prop} {ss sz s' : RM} {sv rv pv : Value} {l : List (RQ × List F5)} {pl : List Nat} {ba base : Nat} {blk : Array Value} {fv hv : Value} {a : RA} (h : RG w W bs bz Ts Tz ss sz sv rv pv l pl ba blk base fv hv a) (h' : RF w w' bz bs T' Ts s' ss sv rv pv l pl) (hf : Fr Tz W w') : RF w w' bs bz Ts T' ss s' sv rv pv l pl ∧ w'.heap[ba]? = some (.cells blk 45) ∧ OwF w' base fv a.F ∧ OwS w' base hv a.H :=
 ⟨h'.swap, (hf.block ba (lt_of_block h.bk) h.nz).trans h.bk, h.f.fr hf (fun g hg ht => by have := (h.f.lt g hg).1; have := h.ap g ht; omega), h.h.frS hf (fun g hg ht => by have := (h.h.lt g hg).1; have := h.ap g ht; omega)⟩
theorem step_short {s : RM} (h : s.Ok) (r : RQ) (F : List F5) (pl : Nat) : (s.step r F pl).2.F.length ≤ 32 ∧ (s.step r F pl).2.H.length ≤ 64 := by
 have hn : ∀ c : Nat, (RA.no c).F.length ≤ 32 ∧ (RA.no c).H.length ≤ 64 := fun c => ⟨by simp [RA.no], by simp [RA.no]⟩
 unfold RM.step
 split
 ·exact hn _
 split
 ·exact hn _
 split
 ·unfold RM.create
  repeat' split
  all_goals first | exact hn _ | exact ⟨by simp, by simp⟩
 split
 ·exact hn _
 cases hc : s.C[r.rc - 1]? with
 | none => exact hn _
 | some c =>
  have hco := h.c c (List.mem_of_getElem? hc)
  simp only
  unfold RM.op
  split
  ·unfold RM.amend
   repeat' split
   all_goals first | exact hn _ | exact ⟨by simp, by simp⟩
  split
  ·unfold RM.read
   split
   ·exact hn _
   split
   ·exact hn _
   cases hv : c.V[r.vn c - 1]? with
   | none => exact hn _
   | some v =>
    simp only
    split
    ·exact hn _
    ·exact ⟨(hco.F v (List.mem_of_getElem? hv)).1, by simp⟩
  split
  ·unfold RM.redact
   split
   ·exact hn _
   split
   ·exact hn _
   cases hv : c.V[r.ve - 1]? with
   | none => exact hn _
   | some v =>
    simp only
    split
    ·exact hn _
    ·exact ⟨by simp, by simp⟩
  split
  ·unfold RM.history
   split
   ·exact hn _
   ·exact ⟨by simp, by simpa using hco.V⟩
  split
  ·unfold RM.seal
   split
   ·exact hn _
   ·exact ⟨by simp, by simp⟩
  ·unfold RM.break
   split
   ·exact hn _
   ·exact ⟨by simp, by simp⟩
theorem OwF.len {w : World} {base n c : Nat} {a : Option Addr} {l : List F5} (h : OwF w base (.slice a n c) l) : n = l.length := by
 obtain ⟨a', c', e⟩ := own_formX h
 cases e
 rfl
theorem OwS.len {w : World} {base n c : Nat} {a : Option Addr} {l : List SM} (h : OwS w base (.slice a n c) l) : n = l.length := by
 obtain ⟨a', c', e⟩ := own_formX h
 cases e
 rfl
def ada : F5 := fT ⟨#[65, 100, 97]⟩
def S1 : RM := ⟨kn, [⟨7, 6, false, [], [⟨1, 0, [ada], false⟩]⟩]⟩
def S2 : RM := ⟨kn, [⟨7, 6, false, [], [⟨1, 0, [ada], false⟩, ⟨2, 1, [ada, fQ 1108606976], false⟩]⟩]⟩
theorem st0 (v : Value) : RM.step ⟨kn, []⟩ ⟨0, 0, 1, 1, 0, 0, 7, 6, v, ⟨#[]⟩⟩ [ada] 0 = (S1, ⟨0, 1, 1, [], []⟩) := by kernel_rfl
theorem st1 (v : Value) : S1.step ⟨0, 0, 2, 2, 1, 1, 0, 0, v, ⟨#[]⟩⟩ [fQ 1108606976] 1 = (S2, ⟨0, 1, 2, [], []⟩) := by kernel_rfl
theorem st2 (v : Value) : S2.step ⟨0, 0, 1, 2, 1, 2, 0, 0, v, ⟨#[]⟩⟩ [fQ 1108869120] 2 = (S2, ⟨5, 0, 0, [], []⟩) := by kernel_rfl
theorem ok0 : RM.Ok ⟨kn, []⟩ := ⟨by decide, by decide, fun c hc => by cases hc⟩
theorem okF {f : F5} (h : f.v < 4294967296 ∧ f.u < 256) : ∀ x ∈ [f], x.v < 4294967296 ∧ x.u < 256 := fun x hx => by rw [List.mem_singleton] at hx; subst hx; exact h
theorem ok1 : S1.Ok := by
 have h := ok0.step ⟨0, 0, 1, 1, 0, 0, 7, 6, .slice none 0 0, ⟨#[]⟩⟩ [ada] 0 (okF (by decide)) (by decide)
 rw [st0] at h
 exact h
theorem ok2 : S2.Ok := by
 have h := ok1.step ⟨0, 0, 2, 2, 1, 1, 0, 0, .slice none 0 0, ⟨#[]⟩⟩ [fQ 1108606976] 1 (okF (by decide)) (by decide)
 rw [st1] at h
 exact h
structure AW (w W : World) (b g z0 z1 z2 z3 z4 z5 N0 N1 : Nat) (T : Nat → Prop) (s : RM) : Prop where
 r : RsB W b T s
 q : Rqs W (.slice (some ⟨g, 0, none⟩) 20 20) (stL z0 z1 z2 z3 z4 z5)
 u : GU W
 f : Fr (fun _ => False) w W
 t : ∀ k, T k → w.heap.size ≤ k ∧ k < W.heap.size ∧ (k < N0 ∨ N1 ≤ k)
 l : ∀ k, Rqb (.slice (some ⟨g, 0, none⟩) 20 20) (stL z0 z1 z2 z3 z4 z5) k → N0 ≤ k ∧ k < N1
 n : N1 ≤ W.heap.size
 v : 1 < w.heap.size
theorem AW.fr {w W W' : World} {b g z0 z1 z2 z3 z4 z5 N0 N1 : Nat} {T : Nat → Prop} {s : RM} (h : AW w W b g z0 z1 z2 z3 z4 z5 N0 N1 T s) (hf : Fr (fun _ => False) W W') : AW w W' b g z0 z1 z2 z3 z4 z5 N0 N1 T s :=
 ⟨h.r.fr hf, h.q.fr hf, h.u.fr hf, h.f.trans hf (fun _ _ h => h), fun k hk => ⟨(h.t k hk).1, Nat.lt_of_lt_of_le (h.t k hk).2.1 hf.size, (h.t k hk).2.2⟩, h.l, Nat.le_trans h.n hf.size, h.v⟩
theorem AW.go {w W W' : World} {b g z0 z1 z2 z3 z4 z5 N0 N1 : Nat} {T : Nat → Prop} {s s' : RM} (h : AW w W b g z0 z1 z2 z3 z4 z5 N0 N1 T s) (hr : RsB W' b (fun k => T k ∨ (W.heap.size ≤ k ∧ k < W'.heap.size)) s') (hf : Fr T W W') : AW w W' b g z0 z1 z2 z3 z4 z5 N0 N1 (fun k => T k ∨ (W.heap.size ≤ k ∧ k < W'.heap.size)) s' :=
 ⟨hr, h.q.frS hf (fun k hk hT => by have := h.l k hk; have := (h.t k hT).2.2; omega), h.u.frT hf (fun hT => by have := (h.t _ hT).1; have := h.v; omega), h.f.absorb hf (fun k hk => (h.t k hk).1), fun k hk => by
  have hn := h.n
  have hs := h.f.size
  have hs2 := hf.size
  rcases hk with hk | hk
  ·have := h.t k hk; omega
  ·omega, h.l, Nat.le_trans h.n hf.size, h.v⟩
theorem AW.at0 {w W : World} {b g z0 z1 z2 z3 z4 z5 N0 N1 : Nat} {T : Nat → Prop} (h : AW w W b g z0 z1 z2 z3 z4 z5 N0 N1 T ⟨kn, []⟩) :
  (W.cell? ⟨g, 0, none⟩ = some (.int .u32 0) ∧ W.cell? ⟨g, 1, none⟩ = some (.int .u32 0) ∧ W.cell? ⟨g, 2, none⟩ = some (.int .u32 1) ∧ W.cell? ⟨g, 3, none⟩ = some (.int .u8 1) ∧ W.cell? ⟨g, 4, none⟩ = some (.int .u32 0) ∧ W.cell? ⟨g, 5, none⟩ = some (.int .u32 0) ∧ W.cell? ⟨g, 6, none⟩ = some (.int .u32 7) ∧ W.cell? ⟨g, 7, none⟩ = some (.int .u32 6) ∧ W.cell? ⟨g, 8, none⟩ = some (.slice (some ⟨z0, 0, none⟩) 1 1) ∧ W.cell? ⟨g, 9, none⟩ = some (.string ⟨#[]⟩)) ∧ Calls Tryz.prog 10 #[.pointer (some ⟨b, 0, none⟩), .agg #[.int .u32 0, .int .u32 0, .int .u32 1, .int .u8 1, .int .u32 0, .int .u32 0, .int .u32 7, .int .u32 6, .slice (some ⟨z0, 0, none⟩) 1 1, .string ⟨#[]⟩], .int .u32 0] W fun e w' => ∃ fo fn fc ho hn hc, e = .returned (.agg #[.int .u32 0, .int .u32 0, .int .u8 0, .int .u32 1, .int .u32 1, .slice fo fn fc, .slice ho hn hc]) ∧ Fr T W w' ∧ AW w w' b g z0 z1 z2 z3 z4 z5 N0 N1 (fun k => T k ∨ (W.heap.size ≤ k ∧ k < w'.heap.size)) S1 := by
 refine ⟨?_, ?_⟩
 ·obtain ⟨g', o', e, c⟩ := h.q.at_ 0 (by show _ < 20; omega)
  cases e
  exact c
 ·refine (apply_B b T ⟨kn, []⟩ ⟨0, 0, 1, 1, 0, 0, 7, 6, .slice (some ⟨z0, 0, none⟩) 1 1, ⟨#[]⟩⟩ [ada] 0 W h.r ok0 (h.q.d (⟨0, 0, 1, 1, 0, 0, 7, 6, .slice (some ⟨z0, 0, none⟩) 1 1, ⟨#[]⟩⟩, [ada]) (by simp [stL, ada])) (by decide) (okF (by decide)) h.u _ (st0 _)).mono ?_
  rintro e w' ⟨fo, fn, fc, ho, hn, hc, he, hr, _, _, hf⟩
  exact ⟨fo, fn, fc, ho, hn, hc, he, hf, h.go hr hf⟩
theorem AW.at1 {w W : World} {b g z0 z1 z2 z3 z4 z5 N0 N1 : Nat} {T : Nat → Prop} (h : AW w W b g z0 z1 z2 z3 z4 z5 N0 N1 T S1) :
  (W.cell? ⟨g, 10, none⟩ = some (.int .u32 0) ∧ W.cell? ⟨g, 11, none⟩ = some (.int .u32 0) ∧ W.cell? ⟨g, 12, none⟩ = some (.int .u32 2) ∧ W.cell? ⟨g, 13, none⟩ = some (.int .u8 2) ∧ W.cell? ⟨g, 14, none⟩ = some (.int .u32 1) ∧ W.cell? ⟨g, 15, none⟩ = some (.int .u32 1) ∧ W.cell? ⟨g, 16, none⟩ = some (.int .u32 0) ∧ W.cell? ⟨g, 17, none⟩ = some (.int .u32 0) ∧ W.cell? ⟨g, 18, none⟩ = some (.slice (some ⟨z1, 0, none⟩) 1 1) ∧ W.cell? ⟨g, 19, none⟩ = some (.string ⟨#[]⟩)) ∧ Calls Tryz.prog 10 #[.pointer (some ⟨b, 0, none⟩), .agg #[.int .u32 0, .int .u32 0, .int .u32 2, .int .u8 2, .int .u32 1, .int .u32 1, .int .u32 0, .int .u32 0, .slice (some ⟨z1, 0, none⟩) 1 1, .string ⟨#[]⟩], .int .u32 1] W fun e w' => ∃ fo fn fc ho hn hc, e = .returned (.agg #[.int .u32 0, .int .u32 0, .int .u8 0, .int .u32 1, .int .u32 2, .slice fo fn fc, .slice ho hn hc]) ∧ Fr T W w' ∧ AW w w' b g z0 z1 z2 z3 z4 z5 N0 N1 (fun k => T k ∨ (W.heap.size ≤ k ∧ k < w'.heap.size)) S2 := by
 refine ⟨?_, ?_⟩
 ·obtain ⟨g', o', e, c⟩ := h.q.at_ 1 (by show _ < 20; omega)
  cases e
  exact c
 ·refine (apply_B b T S1 ⟨0, 0, 2, 2, 1, 1, 0, 0, .slice (some ⟨z1, 0, none⟩) 1 1, ⟨#[]⟩⟩ [fQ 1108606976] 1 W h.r ok1 (h.q.d (⟨0, 0, 2, 2, 1, 1, 0, 0, .slice (some ⟨z1, 0, none⟩) 1 1, ⟨#[]⟩⟩, [fQ 1108606976]) (by simp [stL])) (by decide) (okF (by decide)) h.u _ (st1 _)).mono ?_
  rintro e w' ⟨fo, fn, fc, ho, hn, hc, he, hr, _, _, hf⟩
  exact ⟨fo, fn, fc, ho, hn, hc, he, hf, h.go hr hf⟩
theorem AW.at2 {w W : World} {b g z0 z1 z2 z3 z4 z5 N0 N1 : Nat} {T : Nat → Prop} (h : AW w W b g z0 z1 z2 z3 z4 z5 N0 N1 T S2) :
  (W.cell? ⟨g, 20, none⟩ = some (.int .u32 0) ∧ W.cell? ⟨g, 21, none⟩ = some (.int .u32 0) ∧ W.cell? ⟨g, 22, none⟩ = some (.int .u32 1) ∧ W.cell? ⟨g, 23, none⟩ = some (.int .u8 2) ∧ W.cell? ⟨g, 24, none⟩ = some (.int .u32 1) ∧ W.cell? ⟨g, 25, none⟩ = some (.int .u32 2) ∧ W.cell? ⟨g, 26, none⟩ = some (.int .u32 0) ∧ W.cell? ⟨g, 27, none⟩ = some (.int .u32 0) ∧ W.cell? ⟨g, 28, none⟩ = some (.slice (some ⟨z2, 0, none⟩) 1 1) ∧ W.cell? ⟨g, 29, none⟩ = some (.string ⟨#[]⟩)) ∧ Calls Tryz.prog 10 #[.pointer (some ⟨b, 0, none⟩), .agg #[.int .u32 0, .int .u32 0, .int .u32 1, .int .u8 2, .int .u32 1, .int .u32 2, .int .u32 0, .int .u32 0, .slice (some ⟨z2, 0, none⟩) 1 1, .string ⟨#[]⟩], .int .u32 2] W fun e w' => ∃ fo fn fc ho hn hc, e = .returned (.agg #[.int .u32 0, .int .u32 0, .int .u8 5, .int .u32 0, .int .u32 0, .slice fo fn fc, .slice ho hn hc]) ∧ Fr T W w' ∧ AW w w' b g z0 z1 z2 z3 z4 z5 N0 N1 (fun k => T k ∨ (W.heap.size ≤ k ∧ k < w'.heap.size)) S2 := by
 refine ⟨?_, ?_⟩
 ·obtain ⟨g', o', e, c⟩ := h.q.at_ 2 (by show _ < 20; omega)
  cases e
  exact c
 ·refine (apply_B b T S2 ⟨0, 0, 1, 2, 1, 2, 0, 0, .slice (some ⟨z2, 0, none⟩) 1 1, ⟨#[]⟩⟩ [fQ 1108869120] 2 W h.r ok2 (h.q.d (⟨0, 0, 1, 2, 1, 2, 0, 0, .slice (some ⟨z2, 0, none⟩) 1 1, ⟨#[]⟩⟩, [fQ 1108869120]) (by simp [stL])) (by decide) (okF (by decide)) h.u _ (st2 _)).mono ?_
  rintro e w' ⟨fo, fn, fc, ho, hn, hc, he, hr, _, _, hf⟩
  exact ⟨fo, fn, fc, ho, hn, hc, he, hf, h.go hr hf⟩
set_option maxHeartbeats 4000000 in
set_option maxRecDepth 100000 in
theorem awake11 (w : World) (hg : GU w) : Calls Tryz.prog 6 #[] w fun e w' => e = .returned (.bool true) ∧ Fr (fun _ => False) w w' := by
 have HG := hide hg
 clear hg
 go_enter Tryz.func6, Tryz.ntmps6
 go_wp2_with fail
 refine (known_any _).mono ?_
 rintro e w1 ⟨ao, rfl, hs1, hf1⟩
 have H1 := hide (And.intro hs1 hf1)
 clear hs1 hf1
 go_wp2_with fail
 refine (new_B _ kn w1 (unhide H1).1 (fun n c e => (by cases e)) (by decide)).mono ?_
 rintro e w2 ⟨b, rfl, hb2, hf2⟩
 have H2 := hide hb2
 have F2 := hide hf2
 clear hb2 hf2
 go_wp2_with fail
 refine (records_B b _ _ _ (unhide H2)).mono ?_
 rintro e w' ⟨rfl, hw⟩
 obtain rfl := hw.symm
 clear hw
 go_wp2_with fail
 refine (story_any _).mono ?_
 rintro e w3 ⟨g, z0, z1, z2, z3, z4, z5, rfl, hq, hlow, hf3⟩
 have A0 : Hid (AW w w3 b g z0 z1 z2 z3 z4 z5 w2.heap.size w3.heap.size (fun k => w1.heap.size ≤ k ∧ k < w2.heap.size) ⟨kn, []⟩) := by
  have f1 := (unhide H1).2
  have f2 := unhide F2
  have f13 := (f1.trans f2 (fun _ _ h => h)).trans hf3 (fun _ _ h => h)
  have hs1 := f1.size
  have hs3 := hf3.size
  exact ⟨(unhide H2).fr hf3, hq, (unhide HG).fr f13, f13, fun k hk => ⟨by omega, by omega, .inl hk.2⟩, fun k hk => ⟨hlow k hk, hq.lt hk⟩, Nat.le_refl _, lt_of_cell ((unhide HG) 0 (by omega))⟩
 clear hq hlow hf3 H1 H2 F2 HG
 obtain ⟨⟨c0, c1, c2, c3, c4, c5, c6, c7, c8, c9⟩, hap⟩ := (unhide A0).at0
 have HAP := hide hap
 clear hap
 go_wp2_with fail
 refine (unhide HAP).mono ?_
 rintro e v0 ⟨fo0, fn0, fc0, ho0, hn0, hc0, rfl, hf, ha⟩
 have G0 := hide hf
 have B0 := hide ha
 clear HAP hf ha c0 c1 c2 c3 c4 c5 c6 c7 c8 c9
 have A1 := hide ((unhide B0).fr (box1 v0 (.cells #[.int .u32 0, .int .u32 0, .int .u8 0, .int .u32 1, .int .u32 1, .slice fo0 fn0 fc0, .slice ho0 hn0 hc0] 45)))
 obtain ⟨c0, c1, c2, c3, c4, c5, c6, c7, c8, c9⟩ := (unhide B0).at1.1
 have HAP := hide (unhide A1).at1.2
 have hgl : g < v0.heap.size := lt_of_cell c0
 go_wp2_with fail
 refine (unhide HAP).mono ?_
 rintro e v1 ⟨fo1, fn1, fc1, ho1, hn1, hc1, rfl, hf, ha⟩
 have G1 := hide hf
 have B1 := hide ha
 clear HAP hf ha c0 c1 c2 c3 c4 c5 c6 c7 c8 c9 hgl
 have A2 := hide ((unhide B1).fr (box1 v1 (.cells #[.int .u32 0, .int .u32 0, .int .u8 0, .int .u32 1, .int .u32 2, .slice fo1 fn1 fc1, .slice ho1 hn1 hc1] 45)))
 obtain ⟨c0, c1, c2, c3, c4, c5, c6, c7, c8, c9⟩ := (unhide B1).at2.1
 have HAP := hide (unhide A2).at2.2
 have hgl : g < v1.heap.size := lt_of_cell c0
 go_wp2_with fail
 refine (unhide HAP).mono ?_
 rintro e v2 ⟨fo2, fn2, fc2, ho2, hn2, hc2, rfl, hf, ha⟩
 have G2 := hide hf
 have B2 := hide ha
 clear HAP hf ha c0 c1 c2 c3 c4 c5 c6 c7 c8 c9 hgl
 have t0 := fun k => ((unhide B0).t k)
 have t1 := fun k => ((unhide B1).t k)
 have p01 : v1.heap[v0.heap.size]? = some (.cells #[.int .u32 0, .int .u32 0, .int .u8 0, .int .u32 1, .int .u32 1, .slice fo0 fn0 fc0, .slice ho0 hn0 hc0] 45) := ((unhide G1).block v0.heap.size (by simp) (fun hT => by have := (t0 _ hT).2.1; omega)).trans Array.getElem?_push_size
 have p0 : v2.heap[v0.heap.size]? = some (.cells #[.int .u32 0, .int .u32 0, .int .u8 0, .int .u32 1, .int .u32 1, .slice fo0 fn0 fc0, .slice ho0 hn0 hc0] 45) := ((unhide G2).block v0.heap.size (by have := lt_of_block p01; simp; omega) (fun hT => by
  have h1 := lt_of_block p01
  rcases hT with hT | hT
  ·have := (t0 _ hT).2.1; omega
  ·simp at hT; omega)).trans (((box1 v1 (.cells #[.int .u32 0, .int .u32 0, .int .u8 0, .int .u32 1, .int .u32 2, .slice fo1 fn1 fc1, .slice ho1 hn1 hc1] 45)).block _ (lt_of_block p01) (fun h => h)).trans p01)
 have p1 : v2.heap[v1.heap.size]? = some (.cells #[.int .u32 0, .int .u32 0, .int .u8 0, .int .u32 1, .int .u32 2, .slice fo1 fn1 fc1, .slice ho1 hn1 hc1] 45) := ((unhide G2).block v1.heap.size (by simp) (fun hT => by have := (t1 _ hT).2.1; omega)).trans Array.getElem?_push_size
 obtain ⟨_, _, a2, a3, a4, _, _⟩ := blk7 p0
 obtain ⟨_, _, b2, b3, b4, _, _⟩ := blk7 p1
 have hl0 := lt_of_block p0
 have hl1 := lt_of_block p1
 have HRc := hide (records_B b _ _ _ ((unhide B2).fr (box1 v2 (.cells #[.int .u32 0, .int .u32 0, .int .u8 5, .int .u32 0, .int .u32 0, .slice fo2 fn2 fc2, .slice ho2 hn2 hc2] 45))).r)
 have HF := hide ((unhide B2).f)
 clear t0 t1 p01 p0 p1 A0 A1 A2 B0 B1 B2 G0 G1 G2
 go_wp2_with fail
 refine (unhide HRc).mono ?_
 rintro e w' ⟨rfl, rfl⟩
 go_wp2_with fail
 go_ret
 exact ⟨rfl, (unhide HF).trans (box1 v2 _) (fun _ _ h => h)⟩
theorem own_z {w : World} {base e size n : Nat} {v : Value} {xs : List Value} (h : w.ownsRow base e size v n xs) : ∀ n c, v = .slice none n c → c = 0 := by
 rcases h.2 with ⟨rfl, rfl⟩ | ⟨g, cap, cur, rfl, _⟩
 ·intro n c e; cases e; rfl
 ·intro n c e; cases e
theorem Us.lt {w : World} {x : Value} {l : List Nat} (h : Us w x l) : ∀ g o n c, x = .slice (some ⟨g, o, none⟩) n c → 0 < n → g < w.heap.size := by
 intro g o n c e h0
 rcases h with ⟨a, c', e2, _⟩ | ⟨g', o', c', e2, h2⟩
 ·rw [e] at e2; cases e2; omega
 ·rw [e] at e2; cases e2; exact lt_of_cell (h2 0 h0)
end Go.Proofs.YtiknjghcjaaenaaGreatDoor
namespace Go.Proofs.YtiknjghcjaaenaaGreatDoor
open Go.ChangeShapes Go.WideShapes Go.ChangeAt Go.RowKit
set_option maxRecDepth 100000
theorem Tryz.ownKnob : ownKnob Tryz.prog.godebug = none := by kernel_rfl
theorem Fr.below {w w' : World} (h : Fr (fun _ => False) w w') : Below w.heap.size w w' := ⟨h.os, h.tape, h.output, h.size, fun k hk => h.block k hk (fun x => x)⟩
theorem laid_in {W : World} : ∀ {l : List (String × DataW Unit)} {ps : List MemPlace}, DataW.LaidVars Tryz.prog W l ps → ∀ {nm : String} {d : DataW Unit}, (nm, d) ∈ l →
  ∃ g t cs fuel p, Tryz.prog.globalNamed nm = some g ∧ (Tryz.prog.globals[g]?).map (·.type) = some t ∧ W.var? Tryz.prog nm = some cs ∧ DataW.trod (H := Unit) (fun _ => ()) Tryz.prog W 0 (fun _ => true) false fuel t cs.toList = some (d, p) ∧ ∀ x ∈ MemPlace.row ⟨g, 0, none⟩ cs.size, x ∈ ps := by
 intro l
 induction l with
 | nil => intro ps _ nm d hm; cases hm
 | cons y r ih =>
  intro ps h nm d hm
  obtain ⟨n, dd⟩ := y
  obtain ⟨g, t, cs, fuel, p, q, hg, ht, hv, hd, hr, rfl⟩ := h
  rcases List.mem_cons.1 hm with e | hm
  ·cases e
   exact ⟨g, t, cs, fuel, p, hg, ht, hv, hd, fun x hx => by simp [hx]⟩
  ·obtain ⟨g', t', cs', fuel', p', a1, a2, a3, a4, a5⟩ := ih hr hm
   exact ⟨g', t', cs', fuel', p', a1, a2, a3, a4, fun x hx => by simp [a5 x hx]⟩
def aggL : DataW Unit → List (DataW Unit)
 | .agg l => l
 | _ => []
def mOf : DataW Unit → Option Int
 | .agg (_ :: .lit (.int .u8 z) :: _) => some z
 | _ => none
def lit1 : DataW Unit → Value
 | .lit (.string l) => .string ⟨l.toArray⟩
 | .lit (.int k z) => .int k z
 | _ => undef
theorem units_m : (aggL Rows.laid_almoner_quant_units).map mOf = measL.map (fun m : Nat => some (m : Int)) := by kernel_rfl
theorem Tryz.cellsRow : Tryz.prog.cellsOf 157 = 5 := by kernel_rfl
theorem Tryz.cellsU8 : Tryz.prog.cellsOf 5 = 1 := by kernel_rfl
theorem gu_of_laid {W : World} {laid : List (String × DataW Unit)} (hL : laidMet Tryz.prog laid W) (hm : ("almoner/quant.units", Rows.laid_almoner_quant_units) ∈ laid) : GU W := by
 intro i hi
 obtain ⟨ps, hv, _, _⟩ := hL
 obtain ⟨g', t', cs, fuel, p, a1, a2, a3, a4, _⟩ := laid_in hv hm
 have hg : Tryz.prog.globalNamed "almoner/quant.units" = some 1 := by kernel_rfl
 obtain rfl := Option.some.inj (hg.symm.trans a1)
 obtain rfl := Option.some.inj ((show (Tryz.prog.globals[1]?).map (·.type) = some 158 by kernel_rfl).symm.trans a2)
 obtain ⟨xs, m, _, hx, _, hlen, hall⟩ := DataW.trod_array Tryz.underlying158 a4
 simp only [Prod.mk.injEq] at hx
 have h1 := hall i hi
 obtain ⟨y, hy⟩ : ∃ y, xs[i]? = some y := ⟨xs[i], List.getElem?_eq_getElem (by omega)⟩
 have hmi : mOf y.1 = some ((measL.getD i 0 : Nat) : Int) := by
  have e := units_m
  rw [hx.1] at e
  have e2 := congrArg (fun l => l[i]?) e
  have hml : i < measL.length := hi
  simp only [aggL, List.getElem?_map, hy, Option.map_some, List.getElem?_eq_getElem hml, Option.some.injEq] at e2
  rw [e2, List.getD, List.getElem?_eq_getElem hml, Option.getD_some]
 rw [Tryz.cellsRow, hy] at h1
 obtain ⟨ys, n, _, hy2, _, hlen2, hf⟩ := DataW.trod_struct Tryz.underlying157 h1
 have h2 := hf 1 _ rfl
 rw [hy2] at hmi
 have hl5 : ys.length = 5 := hlen2
 rcases ys with _ | ⟨y0, _ | ⟨y1, r⟩⟩
 ·simp at hl5
 ·simp at hl5
 ·obtain ⟨v, e1, e2, _⟩ := DataW.trod_int Tryz.underlying5 h2
  rw [e2] at hmi
  simp only [List.map_cons, mOf, Option.some.injEq] at hmi
  subst hmi
  have e1' : ((((cs.toList.drop (i * 5)).take 5).drop 1).take (Tryz.prog.cellsOf 5)) = [.int .u8 ((measL.getD i 0 : Nat) : Int)] := e1
  rw [Tryz.cellsU8] at e1'
  have e3 := congrArg List.head? e1'
  simp only [List.head?_eq_getElem?, List.getElem?_take, List.getElem?_drop] at e3
  rw [World.var?_cell hg a3 (i * 5 + 1)]
  simpa using e3
noncomputable def uWorld (os : Os) : World :=
 let w0 := World.holding Tryz.prog os ⟨#[], #[], []⟩
 { w0 with heap := w0.heap.modify 1 fun
   | .cells _ t frozen => .cells ((aggL Rows.laid_almoner_quant_units).flatMap fun d => (aggL d).map lit1).toArray t frozen
   | o => o }
end Go.Proofs.YtiknjghcjaaenaaGreatDoor
namespace Go.Proofs.YtiknjghcjaaenaaGreatDoor
open Go.ChangeShapes Go.WideShapes Go.ChangeAt Go.RowKit Go.Deep
set_option maxRecDepth 100000
theorem nat_u32 {a : Int} (h : (Lit.int .u32 a).wf = true) : ∃ n : Nat, a = n ∧ n < 4294967296 := ⟨a.toNat, by have := bounds_u32 h; omega, by have := bounds_u32 h; omega⟩
theorem nat_u8 {a : Int} (h : (Lit.int .u8 a).wf = true) : ∃ n : Nat, a = n ∧ n < 256 := ⟨a.toNat, by have := bounds_u8 h; omega, by have := bounds_u8 h; omega⟩
theorem bulk_pos {H : Type} (d : DataW H) : 1 ≤ Rows.uptoBulk d := by
 unfold Rows.uptoBulk
 split <;> omega
theorem bulk_len {H : Type} : ∀ l : List (DataW H), l.length ≤ Rows.uptoBulkAll l
 | [] => Nat.zero_le _
 | d :: r => by
  have h1 := bulk_pos d
  have h2 := bulk_len r
  simp only [Rows.uptoBulkAll, List.length_cons]
  omega
theorem bulk_in {H : Type} : ∀ (l : List (DataW H)) (d : DataW H), d ∈ l → Rows.uptoBulk d ≤ Rows.uptoBulkAll l
 | [], d, h => by cases h
 | x :: r, d, h => by
  simp only [Rows.uptoBulkAll]
  rcases List.mem_cons.1 h with rfl | h
  ·omega
  ·have := bulk_in r d h
   omega
theorem Tryz.cellsU32 : Tryz.prog.cellsOf 31 = 1 := by kernel_rfl
theorem Tryz.cellsF32 : Tryz.prog.cellsOf 53 = 1 := by kernel_rfl
theorem Tryz.cellsStr : Tryz.prog.cellsOf 9 = 1 := by kernel_rfl
theorem Tryz.cellsSt : Tryz.prog.cellsOf 33 = 3 := by kernel_rfl
theorem Tryz.cellsFd : Tryz.prog.cellsOf 55 = 5 := by kernel_rfl
theorem p3_of_trod {H : Type} {enc : TypeId × Value → H} {W : World} {fuel : Nat} {cs : List Value} {x : DataW H × List MemPlace} (h : DataW.trod enc Tryz.prog W 0 (fun _ => true) true fuel 33 cs = some x) :
  ∃ s : P3, cs = [.int .u32 (s.a : Nat), .int .u32 (s.r : Nat), .int .u32 (s.w : Nat)] := by
 obtain ⟨xs, n, _, rfl, hl, hlen, hf⟩ := DataW.trod_struct Tryz.underlying33 h
 rw [Tryz.cellsSt] at hl
 have h0 := hf 0 _ rfl
 have h1 := hf 1 _ rfl
 have h2 := hf 2 _ rfl
 match cs, hl with
 | [c0, c1, c2], _ =>
  match xs, hlen with
  | [y0, y1, y2], _ =>
   simp [Tryz.cellsU32] at h0 h1 h2
   obtain ⟨a, e0, rfl, wa⟩ := DataW.trod_int Tryz.underlying31 h0
   obtain ⟨b, e1, rfl, wb⟩ := DataW.trod_int Tryz.underlying31 h1
   obtain ⟨c, e2, rfl, wc⟩ := DataW.trod_int Tryz.underlying31 h2
   simp only [List.cons.injEq, and_true] at e0 e1 e2
   subst e0 e1 e2
   obtain ⟨a, rfl, _⟩ := nat_u32 wa
   obtain ⟨b, rfl, _⟩ := nat_u32 wb
   obtain ⟨c, rfl, _⟩ := nat_u32 wc
   exact ⟨⟨a, b, c⟩, rfl⟩
theorem stf_of_trod {H : Type} {enc : TypeId × Value → H} {W : World} {fuel : Nat} {v : Value} {x : DataW H × List MemPlace} (hf : DataW.trod enc Tryz.prog W 0 (fun _ => true) true fuel 22 [v] = some x) :
  ∃ A : List P3, Stf W v A ∧ A.length + 1 ≤ Rows.uptoBulk x.1 := by
 rcases open_slice Tryz.underlying22 hf with ⟨hcs, hx⟩ | ⟨a, len', cap', m, n, D, Pl, hcs, _, hl, hm, hmm, hx, hel⟩
 ·simp only [List.cons.injEq, and_true] at hcs
  subst hcs
  exact ⟨[], .inl ⟨none, 0, rfl, rfl⟩, bulk_pos _⟩
 ·simp only [List.cons.injEq, and_true] at hcs
  subst hcs
  subst hx
  simp only [if_true] at hmm
  subst hmm
  have hp : ∀ i, ∃ s : P3, i < m → ∀ j, j < 3 → W.cell? ((a.add (i * 3)).add j) = [Value.int .u32 (s.a : Nat), .int .u32 (s.r : Nat), .int .u32 (s.w : Nat)][j]? := fun i => by
   by_cases hi : i < m
   ·obtain ⟨cs', h1, h2⟩ := hel i hi
    rw [Tryz.cellsSt] at h1
    obtain ⟨_, hlen, hcell⟩ := World.cells?_some h1
    obtain ⟨s, rfl⟩ := p3_of_trod h2
    exact ⟨s, fun _ => hcell⟩
   ·exact ⟨⟨0, 0, 0⟩, fun h => absurd h hi⟩
  obtain ⟨Q, hQ⟩ : ∃ Q : Nat → P3, ∀ i, i < m → ∀ j, j < 3 → W.cell? ((a.add (i * 3)).add j) = [Value.int .u32 ((Q i).a : Nat), .int .u32 ((Q i).r : Nat), .int .u32 ((Q i).w : Nat)][j]? := ⟨fun i => Classical.choose (hp i), fun i => Classical.choose_spec (hp i)⟩
  have hbulk := bulk_len ((List.range len').map D)
  have hd : Rows.uptoBulkAll ((List.range len').map D) + 1 ≤ Rows.uptoBulk (DataW.slice ((List.range len').map D) ((List.range (m - len')).map fun j => D (len' + j)) : DataW H) := by
   simp only [Rows.uptoBulk]; omega
  refine ⟨(List.range len').map Q, ?_, by simp at hbulk ⊢; omega⟩
  by_cases h0 : len' = 0
  ·subst h0
   exact .inl ⟨some a, m, by simp, by simp⟩
  ·have hc0 := hQ 0 (by omega) 0 (by decide)
   obtain ⟨g, o, sp⟩ := a
   have hsp : sp = none := by simpa [Addr.add] using World.cell?_spot hc0
   subst hsp
   refine .inr ⟨g, o, m, by simp, fun j hj => ?_⟩
   have hj' : j < len' := by simpa using hj
   have hq := hQ j (by omega)
   have e : ∀ i, ((⟨g, o, none⟩ : Addr).add (j * 3)).add i = ⟨g, o + j * 3 + i, none⟩ := fun i => by rw [addr_add, addr_add]
   have q0 := hq 0 (by decide)
   have q1 := hq 1 (by decide)
   have q2 := hq 2 (by decide)
   rw [e] at q0 q1 q2
   simp at q0 q1 q2
   simp only [List.getElem_map, List.getElem_range]
   exact ⟨q0, q1, q2⟩
theorem us_of_trod {H : Type} {enc : TypeId × Value → H} {W : World} {fuel : Nat} {v : Value} {x : DataW H × List MemPlace} (hf : DataW.trod enc Tryz.prog W 0 (fun _ => true) true fuel 24 [v] = some x) :
  ∃ l : List Nat, Us W v l ∧ l.length + 1 ≤ Rows.uptoBulk x.1 := by
 rcases open_ints Tryz.underlying24 Tryz.underlying31 Tryz.cellsU32 hf with ⟨hcs, hx⟩ | ⟨a, len, cap, zs, hcs, _, hl, hm, hz, hx, hcell, hwz⟩
 ·simp only [List.cons.injEq, and_true] at hcs
  subst hcs
  exact ⟨[], .inl ⟨none, 0, rfl, rfl⟩, bulk_pos _⟩
 ·simp only [List.cons.injEq, and_true] at hcs
  subst hcs
  subst hx
  simp only [if_true] at hz
  have hlen : ((zs.take len).map Int.toNat).length = len := by simp; omega
  have hbulk : len + 1 ≤ Rows.uptoBulk (DataW.slice (lits .u32 (zs.take len)) (lits .u32 (zs.drop len)) : DataW H) := by
   have h1 := bulk_len (lits .u32 (zs.take len) : List (DataW H))
   have h2 : (lits .u32 (zs.take len) : List (DataW H)).length = len := by simp [lits]; omega
   simp only [Rows.uptoBulk]
   omega
  by_cases h0 : len = 0
  ·subst h0
   exact ⟨[], .inl ⟨some a, cap, rfl, rfl⟩, bulk_pos _⟩
  ·obtain ⟨b, off, rfl, hc⟩ := ints_at hcell (show 0 < zs.length by omega)
   refine ⟨(zs.take len).map Int.toNat, .inr ⟨b, off, cap, by rw [hlen], fun j hj => ?_⟩, by rw [hlen]; exact hbulk⟩
   have hj' : j < len := by rw [hlen] at hj; exact hj
   rw [hc j (by omega)]
   have hw := bounds_u32 (hwz (zs.getD j 0) (by simp [List.getD, show j < zs.length by omega]))
   simp [show j < zs.length by omega] at hw ⊢
   omega
theorem trod_floatw {H : Type} {enc : TypeId × Value → H} {P : Program} {w : World} {base : Nat} {spare : Nat → Bool} {held : Bool} {fuel : Nat} {t : TypeId} {cs : List Value} {x : DataW H × List MemPlace} (ht : P.underlying t = some (.float .f32)) (h : DataW.trod enc P w base spare held fuel t cs = some x) : ∃ b, cs = [.float .f32 b] ∧ b < 4294967296 := by
 cases fuel with
 | zero => simp [DataW.trod] at h
 | succ n =>
  unfold DataW.trod at h
  rw [ht] at h
  split at h <;> simp_all [Lit.wf]
  rename_i k' b hk
  subst hk
  by_cases hh : k' = FloatKind.f32 ∧ decide (b < 4294967296) = true
  ·exact ⟨_, ⟨hh.1, rfl⟩, of_decide_eq_true hh.2⟩
  ·exact absurd ((if_neg hh).symm.trans h) (by simp)
theorem f5_of_trod {H : Type} {enc : TypeId × Value → H} {W : World} {fuel : Nat} {cs : List Value} {x : DataW H × List MemPlace} (h : DataW.trod enc Tryz.prog W 0 (fun _ => true) true fuel 55 cs = some x) :
  ∃ s : F5, (s.v < 4294967296 ∧ s.u < 256) ∧ cs = [.string s.n, .int .u8 (s.k : Nat), .string s.t, .float .f32 s.v, .int .u8 (s.u : Nat)] := by
 obtain ⟨xs, n, _, rfl, hl, hlen, hf⟩ := DataW.trod_struct Tryz.underlying55 h
 rw [Tryz.cellsFd] at hl
 have h0 := hf 0 _ rfl
 have h1 := hf 1 _ rfl
 have h2 := hf 2 _ rfl
 have h3 := hf 3 _ rfl
 have h4 := hf 4 _ rfl
 match cs, hl with
 | [c0, c1, c2, c3, c4], _ =>
  match xs, hlen with
  | [y0, y1, y2, y3, y4], _ =>
   simp [Tryz.cellsU8, Tryz.cellsStr, Tryz.cellsF32] at h0 h1 h2 h3 h4
   obtain ⟨a, e0, rfl, _⟩ := DataW.trod_string Tryz.underlying9 h0
   obtain ⟨b, e1, rfl, wb⟩ := DataW.trod_int Tryz.underlying5 h1
   obtain ⟨c, e2, rfl, _⟩ := DataW.trod_string Tryz.underlying9 h2
   obtain ⟨d, e3, wd⟩ := trod_floatw Tryz.underlying53 h3
   obtain ⟨e, e4, rfl, we⟩ := DataW.trod_int Tryz.underlying5 h4
   simp only [List.cons.injEq, and_true] at e0 e1 e2 e3 e4
   subst e0 e1 e2 e3 e4
   obtain ⟨b, rfl, _⟩ := nat_u8 wb
   obtain ⟨e, rfl, he⟩ := nat_u8 we
   exact ⟨⟨a, b, c, d, e⟩, ⟨wd, he⟩, rfl⟩
theorem fdc_of_trod {H : Type} {enc : TypeId × Value → H} {W : World} {fuel : Nat} {v : Value} {x : DataW H × List MemPlace} (hf : DataW.trod enc Tryz.prog W 0 (fun _ => true) true fuel 39 [v] = some x) :
  ∃ A : List F5, FdC W W.heap.size v A ∧ (∀ f ∈ A, f.v < 4294967296 ∧ f.u < 256) ∧ A.length + 1 ≤ Rows.uptoBulk x.1 := by
 rcases open_slice Tryz.underlying39 hf with ⟨hcs, hx⟩ | ⟨a, len', cap', m, n, D, Pl, hcs, _, hl, hm, hmm, hx, hel⟩
 ·simp only [List.cons.injEq, and_true] at hcs
  subst hcs
  exact ⟨[], ⟨.inl ⟨none, 0, rfl, rfl⟩, fun g o n c e => by (cases e), fun xo n c e => by (cases e; omega), fun n c e => by (cases e; rfl)⟩, fun f hf => (by cases hf), bulk_pos _⟩
 ·simp only [List.cons.injEq, and_true] at hcs
  subst hcs
  subst hx
  simp only [if_true] at hmm
  subst hmm
  have hp : ∀ i, ∃ s : F5, (s.v < 4294967296 ∧ s.u < 256) ∧ (i < m → ∀ j, j < 5 → W.cell? ((a.add (i * 5)).add j) = [Value.string s.n, .int .u8 (s.k : Nat), .string s.t, .float .f32 s.v, .int .u8 (s.u : Nat)][j]?) := fun i => by
   by_cases hi : i < m
   ·obtain ⟨cs', h1, h2⟩ := hel i hi
    rw [Tryz.cellsFd] at h1
    obtain ⟨_, hlen, hcell⟩ := World.cells?_some h1
    obtain ⟨s, hs, rfl⟩ := f5_of_trod h2
    exact ⟨s, hs, fun _ => hcell⟩
   ·exact ⟨⟨ByteArray.empty, 0, ByteArray.empty, 0, 0⟩, ⟨by decide, by decide⟩, fun h => absurd h hi⟩
  obtain ⟨Q, hQb, hQ⟩ : ∃ Q : Nat → F5, (∀ i, (Q i).v < 4294967296 ∧ (Q i).u < 256) ∧ ∀ i, i < m → ∀ j, j < 5 → W.cell? ((a.add (i * 5)).add j) = [Value.string (Q i).n, .int .u8 ((Q i).k : Nat), .string (Q i).t, .float .f32 (Q i).v, .int .u8 ((Q i).u : Nat)][j]? := ⟨fun i => Classical.choose (hp i), fun i => (Classical.choose_spec (hp i)).1, fun i => (Classical.choose_spec (hp i)).2⟩
  have hbulk := bulk_len ((List.range len').map D)
  have hd : Rows.uptoBulkAll ((List.range len').map D) + 1 ≤ Rows.uptoBulk (DataW.slice ((List.range len').map D) ((List.range (m - len')).map fun j => D (len' + j)) : DataW H) := by
   simp only [Rows.uptoBulk]; omega
  suffices hfd : Fds W (.slice (some a) len' m) ((List.range len').map Q) by
   refine ⟨(List.range len').map Q, ⟨hfd, fun g o n c e h0 => ?_, fun xo n c e => by (cases e; omega), fun n c e => by (cases e)⟩, fun f hf => ?_, by simp at hbulk ⊢; omega⟩
   ·cases e
    obtain ⟨g', o', e', hc'⟩ := hfd.at_ 0 (by simpa using h0)
    cases e'
    exact lt_of_cell hc'.1
   ·obtain ⟨i, _, rfl⟩ := List.mem_map.1 hf
    exact hQb i
  by_cases h0 : len' = 0
  ·subst h0
   exact .inl ⟨some a, m, by simp, by simp⟩
  ·have hc0 := hQ 0 (by omega) 0 (by decide)
   obtain ⟨g, o, sp⟩ := a
   have hsp : sp = none := by simpa [Addr.add] using World.cell?_spot hc0
   subst hsp
   refine .inr ⟨g, o, m, by simp, fun j hj => ?_⟩
   have hj' : j < len' := by simpa using hj
   have hq := hQ j (by omega)
   have e : ∀ i, ((⟨g, o, none⟩ : Addr).add (j * 5)).add i = ⟨g, o + j * 5 + i, none⟩ := fun i => by rw [addr_add, addr_add]
   have q0 := hq 0 (by decide)
   have q1 := hq 1 (by decide)
   have q2 := hq 2 (by decide)
   have q3 := hq 3 (by decide)
   have q4 := hq 4 (by decide)
   rw [e] at q0 q1 q2 q3 q4
   simp at q0 q1 q2 q3 q4
   simp only [List.getElem_map, List.getElem_range]
   exact ⟨q0, q1, q2, q3, q4⟩
set_option maxRecDepth 100000
theorem Tryz.cellsId : Tryz.prog.cellsOf 38 = 2 := by kernel_rfl
theorem Tryz.cellsRq : Tryz.prog.cellsOf 41 = 10 := by kernel_rfl
theorem Tryz.cellsPlay : Tryz.prog.cellsOf 26 = 3 := by kernel_rfl
theorem Tryz.cellsSls : Tryz.prog.cellsOf 22 = 1 := by kernel_rfl
theorem Tryz.cellsSlu : Tryz.prog.cellsOf 24 = 1 := by kernel_rfl
theorem Tryz.cellsSlf : Tryz.prog.cellsOf 39 = 1 := by kernel_rfl
theorem Tryz.cellsSlq : Tryz.prog.cellsOf 23 = 1 := by kernel_rfl
theorem id_of_trod {H : Type} {enc : TypeId × Value → H} {W : World} {fuel : Nat} {cs : List Value} {x : DataW H × List MemPlace} (h : DataW.trod enc Tryz.prog W 0 (fun _ => true) true fuel 38 cs = some x) :
  ∃ a b : Nat, cs = [.int .u32 (a : Nat), .int .u32 (b : Nat)] := by
 obtain ⟨xs, n, _, rfl, hl, hlen, hf⟩ := DataW.trod_struct Tryz.underlying38 h
 rw [Tryz.cellsId] at hl
 have h0 := hf 0 _ rfl
 have h1 := hf 1 _ rfl
 match cs, hl with
 | [c0, c1], _ =>
  match xs, hlen with
  | [y0, y1], _ =>
   simp [Tryz.cellsU32] at h0 h1
   obtain ⟨a, e0, rfl, wa⟩ := DataW.trod_int Tryz.underlying31 h0
   obtain ⟨b, e1, rfl, wb⟩ := DataW.trod_int Tryz.underlying31 h1
   simp only [List.cons.injEq, and_true] at e0 e1
   subst e0 e1
   obtain ⟨a, rfl, _⟩ := nat_u32 wa
   obtain ⟨b, rfl, _⟩ := nat_u32 wb
   exact ⟨a, b, rfl⟩
set_option maxRecDepth 100000
set_option maxRecDepth 100000
theorem bulk_two {H : Type} : ∀ l : List (DataW H), (∀ d ∈ l, 2 ≤ Rows.uptoBulk d) → 2 * l.length ≤ Rows.uptoBulkAll l
 | [], _ => Nat.zero_le _
 | d :: r, h => by
  have h1 := h d (by simp)
  have h2 := bulk_two r (fun d hd => h d (by simp [hd]))
  simp only [Rows.uptoBulkAll, List.length_cons]
  omega
theorem stf_len {H : Type} {enc : TypeId × Value → H} {W : World} {fuel : Nat} {v : Value} {x : DataW H × List MemPlace} (hf : DataW.trod enc Tryz.prog W 0 (fun _ => true) true fuel 22 [v] = some x) {A : List P3} (hA : Stf W v A) : 2 * A.length ≤ Rows.uptoBulk x.1 := by
 obtain ⟨xo, xc, e⟩ := hA.form
 rcases open_slice Tryz.underlying22 hf with ⟨hcs, hx⟩ | ⟨a, len', cap', m, n, D, Pl, hcs, _, hl, hm, hmm, hx, hel⟩
 ·simp only [List.cons.injEq, and_true] at hcs
  rw [hcs] at e
  have e2 := (Value.slice.inj e).2.1
  omega
 ·simp only [List.cons.injEq, and_true] at hcs
  rw [hcs] at e
  cases e
  subst hx
  simp only [if_true] at hmm
  have h2 := bulk_two ((List.range A.length).map D) (fun d hd => by
   obtain ⟨i, hi, rfl⟩ := List.mem_map.1 hd
   have hi' : i < A.length := by simpa using hi
   obtain ⟨cs', h1, h2⟩ := hel i (by omega)
   obtain ⟨xs, n, _, hx, hl, hlen, hf⟩ := DataW.trod_struct Tryz.underlying33 h2
   simp only [Prod.mk.injEq] at hx
   rw [hx.1]
   have h3 := bulk_len (xs.map (·.1))
   have h4 : xs.length = 3 := hlen
   simp only [List.length_map] at h3
   simp only [Rows.uptoBulk]
   omega)
  simp only [List.length_map, List.length_range] at h2
  simp only [Rows.uptoBulk]
  omega
end Go.Proofs.YtiknjghcjaaenaaGreatDoor
namespace Go.Proofs.YtiknjghcjaaenaaGreatDoor
open Go.RowKit
theorem bl_irr : ∀ a : List UInt8, Op.bytesLess a a = false
 | [] => rfl
 | x :: r => by
  simp only [Op.bytesLess, bl_irr r, Bool.and_false, Bool.or_false, decide_eq_false_iff_not]
  exact UInt8.lt_irrefl x
theorem bl_trans : ∀ a b c : List UInt8, Op.bytesLess a b = true → Op.bytesLess b c = true → Op.bytesLess a c = true
 | [], b, [], h, k => by cases b <;> simp [Op.bytesLess] at h k
 | [], b, z :: c, h, k => rfl
 | x :: a, [], c, h, k => by simp [Op.bytesLess] at h
 | x :: a, y :: b, [], h, k => by simp [Op.bytesLess] at k
 | x :: a, y :: b, z :: c, h, k => by
  simp only [Op.bytesLess, Bool.or_eq_true, decide_eq_true_eq, Bool.and_eq_true, beq_iff_eq] at h k ⊢
  rcases h with h | ⟨rfl, h⟩
  ·rcases k with k | ⟨rfl, k⟩
   ·exact .inl (UInt8.lt_trans h k)
   ·exact .inl h
  ·rcases k with k | ⟨rfl, k⟩
   ·exact .inl k
   ·exact .inr ⟨rfl, bl_trans a b c h k⟩
theorem bl_tri : ∀ a b : List UInt8, Op.bytesLess a b = true ∨ a = b ∨ Op.bytesLess b a = true
 | [], [] => .inr (.inl rfl)
 | [], y :: b => .inl rfl
 | x :: a, [] => .inr (.inr rfl)
 | x :: a, y :: b => by
  simp only [Op.bytesLess, Bool.or_eq_true, decide_eq_true_eq, Bool.and_eq_true, beq_iff_eq]
  have ht : x < y ∨ x = y ∨ y < x := by
   rcases Nat.lt_trichotomy x.toNat y.toNat with h | h | h
   ·exact .inl (UInt8.lt_iff_toNat_lt.2 h)
   ·exact .inr (.inl (UInt8.toNat_inj.1 h))
   ·exact .inr (.inr (UInt8.lt_iff_toNat_lt.2 h))
  rcases ht with h | rfl | h
  ·exact .inl (.inl h)
  ·rcases bl_tri a b with h | rfl | h
   ·exact .inl (.inr ⟨rfl, h⟩)
   ·exact .inr (.inl rfl)
   ·exact .inr (.inr (.inr ⟨rfl, h⟩))
  ·exact .inr (.inr (.inl h))
theorem bl_asym (a b : List UInt8) (h : Op.bytesLess a b = true) : Op.bytesLess b a = false := by
 cases k : Op.bytesLess b a
 ·rfl
 ·have := bl_trans a b a h k
  rw [bl_irr] at this
  cases this
theorem bl_not (a b : List UInt8) : (!(Op.bytesLess a b || a == b)) = Op.bytesLess b a := by
 rcases bl_tri a b with h | rfl | h
 ·rw [h, bl_asym a b h]; rfl
 ·rw [bl_irr]; simp
 ·rw [h, bl_asym b a h]
  cases e : a == b
  ·rfl
  ·rw [beq_iff_eq] at e
   subst e
   rw [bl_irr] at h
   cases h
def gfld (gone : Bool) (f : F5) : Bool := if f.n.size < 1 ∨ 64 < f.n.size then false else if f.k = 1 then decide (f.t.size ≤ 64) && decide (f.v = 0) && decide (f.u = 0) else if f.k = 2 then canB f.v && decide (1 ≤ f.u ∧ f.u ≤ 21) && f.t.toList.isEmpty else decide (f.k = 3) && gone && f.t.toList.isEmpty && decide (f.v = 0) && decide (f.u = 0)
def gris (gone : Bool) : ByteArray → List F5 → Bool
 | _, [] => true
 | a, f :: r => gfld gone f && Op.bytesLess a.toList f.n.toList && gris gone f.n r
def gfds (gone : Bool) : List F5 → Bool
 | [] => true
 | f :: r => gfld gone f && gris gone f.n r
theorem size_toList (b : ByteArray) : b.toList.length = b.size := by
 rw [Lib.toList_data]
 exact Array.length_toList
theorem empty_toList (b : ByteArray) : b.toList.isEmpty = decide (b.size = 0) := by
 rw [← size_toList b]
 cases b.toList <;> simp
theorem bl_pos {a b : List UInt8} (h : Op.bytesLess a b = true) : 1 ≤ b.length := by
 cases b
 ·cases a <;> simp [Op.bytesLess] at h
 ·simp
theorem bl_nil (b : ByteArray) : Op.bytesLess (ByteArray.toList ⟨#[]⟩) b.toList = decide (1 ≤ b.size) := by
 rw [← size_toList b, Lib.toList_data]
 cases b.toList <;> simp [Op.bytesLess]
theorem gfld_eq (gone : Bool) (f : F5) (h : 1 ≤ f.n.size) : gfld gone f = (fldB f && (decide (f.k ≠ 3) || gone)) := by
 unfold gfld fldB
 rw [empty_toList]
 have h1 : ¬ f.n.size < 1 := by omega
 by_cases h2 : f.n.size ≤ 64
 ·have h3 : ¬ 64 < f.n.size := by omega
  by_cases k1 : f.k = 1
  ·simp [h1, h2, h3, k1, Bool.and_assoc]
  ·by_cases k2 : f.k = 2
   ·by_cases e : f.t.size = 0
    ·simp [h1, h2, h3, k2, e]
    ·simp [h1, h2, h3, k2, e]
   ·by_cases k3 : f.k = 3
    ·by_cases e : f.t.size = 0
     ·cases gone <;> simp [h1, h2, h3, k3, e]
     ·simp [h1, h2, h3, k3, e]
    ·simp [h1, h2, h3, k1, k2, k3]
 ·have h3 : 64 < f.n.size := by omega
  simp [h2, h3]
theorem gris_eq (gone : Bool) : ∀ (l : List F5) (a : ByteArray), gris gone a l = risB gone a l
 | [], _ => rfl
 | f :: r, a => by
  unfold gris risB sleB
  rw [bl_not, gris_eq gone r]
  cases h : Op.bytesLess a.toList f.n.toList
  ·simp
  ·rw [gfld_eq gone f (by rw [← size_toList]; exact bl_pos h)]
   simp
theorem gfds_eq (gone : Bool) (l : List F5) : (gfds gone l && decide (l.length ≤ 32)) = fdsB l gone := by
 unfold fdsB
 rw [Bool.and_comm]
 congr 1
 cases l with
 | nil => rfl
 | cons f r =>
  rw [← gris_eq]
  show (gfld gone f && gris gone f.n r) = (gfld gone f && Op.bytesLess (ByteArray.toList ⟨#[]⟩) f.n.toList && gris gone f.n r)
  rw [bl_nil]
  by_cases h : 1 ≤ f.n.size
  ·simp [h]
  ·have : gfld gone f = false := by unfold gfld; rw [if_pos (by omega)]
   simp [this]
end Go.Proofs.YtiknjghcjaaenaaGreatDoor
namespace Go.Proofs.YtiknjghcjaaenaaGreatDoor
open Go.RowKit Go.Shelf
def unitC : Array Value := #[.string ⟨#[103]⟩, .int .i64 1, .int .i64 1, .int .i64 1, .int .i64 0, .int .i64 1, .string ⟨#[109, 103]⟩, .int .i64 1, .int .i64 1, .int .i64 1000, .int .i64 0, .int .i64 1, .string ⟨#[117, 103]⟩, .int .i64 1, .int .i64 1, .int .i64 1000000, .int .i64 0, .int .i64 1, .string ⟨#[107, 103]⟩, .int .i64 1, .int .i64 1000, .int .i64 1, .int .i64 0, .int .i64 1, .string ⟨#[108, 98]⟩, .int .i64 1, .int .i64 45359237, .int .i64 100000, .int .i64 0, .int .i64 1, .string ⟨#[76]⟩, .int .i64 2, .int .i64 1, .int .i64 1, .int .i64 0, .int .i64 1, .string ⟨#[109, 76]⟩, .int .i64 2, .int .i64 1, .int .i64 1000, .int .i64 0, .int .i64 1, .string ⟨#[109]⟩, .int .i64 3, .int .i64 1, .int .i64 1, .int .i64 0, .int .i64 1, .string ⟨#[99, 109]⟩, .int .i64 3, .int .i64 1, .int .i64 100, .int .i64 0, .int .i64 1, .string ⟨#[105, 110]⟩, .int .i64 3, .int .i64 254, .int .i64 10000, .int .i64 0, .int .i64 1, .string ⟨#[67]⟩, .int .i64 4, .int .i64 1, .int .i64 1, .int .i64 27315, .int .i64 100, .string ⟨#[70]⟩, .int .i64 4, .int .i64 5, .int .i64 9, .int .i64 45967, .int .i64 100, .string ⟨#[75]⟩, .int .i64 4, .int .i64 1, .int .i64 1, .int .i64 0, .int .i64 1, .string ⟨#[107, 80, 97]⟩, .int .i64 5, .int .i64 1, .int .i64 1, .int .i64 0, .int .i64 1, .string ⟨#[109, 109, 72, 103]⟩, .int .i64 5, .int .i64 101325, .int .i64 760000, .int .i64 0, .int .i64 1, .string ⟨#[109, 109, 111, 108, 47, 76]⟩, .int .i64 6, .int .i64 1, .int .i64 1, .int .i64 0, .int .i64 1, .string ⟨#[109, 103, 47, 100, 76]⟩, .int .i64 6, .int .i64 10000, .int .i64 180156, .int .i64 0, .int .i64 1, .string ⟨#[47, 109, 105, 110]⟩, .int .i64 7, .int .i64 1, .int .i64 1, .int .i64 0, .int .i64 1, .string ⟨#[47, 115]⟩, .int .i64 7, .int .i64 60, .int .i64 1, .int .i64 0, .int .i64 1, .string ⟨#[37]⟩, .int .i64 8, .int .i64 1, .int .i64 1, .int .i64 0, .int .i64 1, .string ⟨#[49]⟩, .int .i64 8, .int .i64 100, .int .i64 1, .int .i64 0, .int .i64 1]
def unitN : List ByteArray := [⟨#[103]⟩, ⟨#[109, 103]⟩, ⟨#[117, 103]⟩, ⟨#[107, 103]⟩, ⟨#[108, 98]⟩, ⟨#[76]⟩, ⟨#[109, 76]⟩, ⟨#[109]⟩, ⟨#[99, 109]⟩, ⟨#[105, 110]⟩, ⟨#[67]⟩, ⟨#[70]⟩, ⟨#[75]⟩, ⟨#[107, 80, 97]⟩, ⟨#[109, 109, 72, 103]⟩, ⟨#[109, 109, 111, 108, 47, 76]⟩, ⟨#[109, 103, 47, 100, 76]⟩, ⟨#[47, 109, 105, 110]⟩, ⟨#[47, 115]⟩, ⟨#[37]⟩, ⟨#[49]⟩]
set_option maxHeartbeats 4000000 in
set_option maxRecDepth 100000 in
theorem gunits_any (w : World) : Calls Tryz.prog 67 #[] w fun e w' => e = .returned (.slice (some ⟨w.heap.size, 0, none⟩) 21 21) ∧ w' = w.alloc (.cells unitC 116) := by
 go_enter Tryz.func67, Tryz.ntmps67
 go_wp2_with (refine wp_bs (.slice (some ⟨w.heap.size, 0, none⟩) 21 21) (w.alloc (.cells unitC 116)) (by kernel_rfl) ?_)
 go_ret
 exact ⟨rfl, rfl⟩
set_option maxRecDepth 100000 in
theorem unit_at {W : World} {b : Nat} (hb : W.heap[b]? = some (.cells unitC 116)) (i : Nat) (hi : i < 21) : W.cell? ⟨b, i * 6, none⟩ = some (.string (unitN.getD i ⟨#[]⟩)) ∧ W.cell? ⟨b, i * 6 + 1, none⟩ = some (.int .i64 ((measL.getD (i + 1) 0 : Nat) : Int)) := by
 simp only [World.cell?, hb]
 rcases i with _ | _ | _ | _ | _ | _ | _ | _ | _ | _ | _ | _ | _ | _ | _ | _ | _ | _ | _ | _ | _ | i
 ·exact ⟨rfl, rfl⟩
 ·exact ⟨rfl, rfl⟩
 ·exact ⟨rfl, rfl⟩
 ·exact ⟨rfl, rfl⟩
 ·exact ⟨rfl, rfl⟩
 ·exact ⟨rfl, rfl⟩
 ·exact ⟨rfl, rfl⟩
 ·exact ⟨rfl, rfl⟩
 ·exact ⟨rfl, rfl⟩
 ·exact ⟨rfl, rfl⟩
 ·exact ⟨rfl, rfl⟩
 ·exact ⟨rfl, rfl⟩
 ·exact ⟨rfl, rfl⟩
 ·exact ⟨rfl, rfl⟩
 ·exact ⟨rfl, rfl⟩
 ·exact ⟨rfl, rfl⟩
 ·exact ⟨rfl, rfl⟩
 ·exact ⟨rfl, rfl⟩
 ·exact ⟨rfl, rfl⟩
 ·exact ⟨rfl, rfl⟩
 ·exact ⟨rfl, rfl⟩
 ·omega
def nameU (u : Nat) : ByteArray := if isU u then unitN.getD (u - 1) ⟨#[]⟩ else ⟨#[]⟩
theorem nameU_empty (u : Nat) : (nameU u).toList.isEmpty = !(isU u) := by
 rw [empty_toList]
 unfold nameU isU
 by_cases h1 : 1 ≤ u
 ·by_cases h2 : u ≤ 21
  ·obtain ⟨k, rfl⟩ : ∃ k, u = k + 1 := ⟨u - 1, by omega⟩
   simp only [h1, h2, decide_true, Bool.and_self, if_true, Nat.add_sub_cancel]
   rcases k with _ | _ | _ | _ | _ | _ | _ | _ | _ | _ | _ | _ | _ | _ | _ | _ | _ | _ | _ | _ | _ | k
   ·rfl
   ·rfl
   ·rfl
   ·rfl
   ·rfl
   ·rfl
   ·rfl
   ·rfl
   ·rfl
   ·rfl
   ·rfl
   ·rfl
   ·rfl
   ·rfl
   ·rfl
   ·rfl
   ·rfl
   ·rfl
   ·rfl
   ·rfl
   ·rfl
   ·omega
  ·simp [h2, ByteArray.size]
 ·simp [h1, ByteArray.size]
set_option maxHeartbeats 2000000 in
set_option maxRecDepth 100000 in
theorem gname_any (u : Nat) (w : World) (hu : u < 256) : Calls Tryz.prog 66 #[.int .u8 (u : Nat)] w fun e w' => e = .returned (.string (nameU u)) ∧ Fr (fun _ => False) w w' := by
 have HU := hide (fun W => gunits_any W)
 have HUA := hide (fun (W : World) (b : Nat) => @unit_at W b)
 by_cases h1 : 1 ≤ u
 ·by_cases h2 : u ≤ 21
  ·obtain ⟨k, rfl⟩ : ∃ k, u = k + 1 := ⟨u - 1, by omega⟩
   have hwi : IntKind.i64.wrap ((k : Int) + 1) = (k : Int) + 1 := by rw [IntKind.wrap_i64]; omega
   have a1 : ¬ ((k : Int) + 1) < 1 := by omega
   have a2 : decide ((21 : Int) < (k : Int) + 1) = false := decide_eq_false (by omega)
   obtain ⟨nm, hnm⟩ : ∃ nm, unitN.getD k ⟨#[]⟩ = nm := ⟨_, rfl⟩
   have HNM := hide hnm
   clear hnm
   have HN := hide (show nameU (k + 1) = unitN.getD k ⟨#[]⟩ by unfold nameU isU; simp [h2])
   have a3 : IntKind.u8.wrap (k : Int) = (k : Int) := by rw [IntKind.wrap_u8]; omega
   have a4 : (k : Int) < 21 := by omega
   have hk : k < 21 := by omega
   clear h1 h2 hu
   go_enter Tryz.func66, Tryz.ntmps66
   go_wp2_with fail
   refine ((unhide HU) _).mono ?_
   rintro e w1 ⟨rfl, hw1⟩
   have F1 : Hid (Fr (fun _ => False) w w1) := by rw [hw1]; exact box1 w _
   clear hw1
   go_wp2_with fail
   refine ((unhide HU) _).mono ?_
   rintro e w2 ⟨rfl, hw2⟩
   have F2 : Hid (Fr (fun _ => False) w w2) := by rw [hw2]; exact (unhide F1).trans (box1 w1 _) (fun _ _ h => h)
   have hb2 : w2.heap[w1.heap.size]? = some (.cells unitC 116) := by rw [hw2]; exact Array.getElem?_push_size
   obtain ⟨c0, _⟩ := (unhide HUA) _ _ hb2 k hk
   rw [unhide HNM] at c0
   clear hw2 hb2
   go_wp2_with fail
   go_ret
   exact ⟨by rw [unhide HN, unhide HNM]; rfl, unhide F2⟩
  ·have hwi : IntKind.i64.wrap (u : Int) = (u : Int) := by rw [IntKind.wrap_i64]; omega
   have a1 : ¬ (u : Int) < 1 := by omega
   have a2 : decide ((21 : Int) < (u : Int)) = true := decide_eq_true (by omega)
   have HN := hide (show nameU u = ⟨#[]⟩ by unfold nameU isU; simp [h2])
   go_enter Tryz.func66, Tryz.ntmps66
   go_wp2_with fail
   refine ((unhide HU) _).mono ?_
   rintro e w1 ⟨rfl, hw1⟩
   have F1 : Hid (Fr (fun _ => False) w w1) := by rw [hw1]; exact box1 w _
   clear hw1
   go_wp2_with fail
   go_ret
   exact ⟨by rw [unhide HN]; rfl, unhide F1⟩
 ·obtain rfl : u = 0 := by omega
  go_enter Tryz.func66, Tryz.ntmps66
  go_wp2_with fail
  go_ret
  exact ⟨rfl, Fr.refl _ _⟩
set_option maxRecDepth 100000 in
theorem gis_any (x : Nat) (w : World) (hx : x < 4294967296) : Calls Tryz.prog 101 #[.int .u32 (x : Nat)] w fun e w' => e = .returned (.bool (decide (x % 2147483648 < 2139095040))) ∧ w' = w := by
 have hw : IntKind.u32.wrap ((x : Int) / 8388608) = ((x / 8388608 : Nat) : Int) := by rw [IntKind.wrap_u32]; omega
 have hb : bits .and .u32 ((x : Int) / 8388608) 255 = (x : Int) / 8388608 % 256 := by
  have h := u32_and_nat (x / 8388608) 255 (by omega) (by omega)
  rw [Nat.and_two_pow_sub_one_eq_mod (x / 8388608) 8] at h
  have e : ((x / 8388608 : Nat) : Int) = (x : Int) / 8388608 := by omega
  rw [e] at h
  refine h.trans ?_
  omega
 by_cases h : (x : Int) / 8388608 % 256 = 255
 ·rw [decide_eq_false (by omega)]
  go_enter Tryz.func101, Tryz.ntmps101
  go_wp2
  all_goals
   go_ret
   exact ⟨rfl, rfl⟩
 ·rw [decide_eq_true (by omega)]
  have h1 : ((x : Int) / 8388608 % 256 != 255) = true := by simp [h]
  go_enter Tryz.func101, Tryz.ntmps101
  go_wp2
  all_goals
   go_ret
   exact ⟨rfl, rfl⟩
def canV (x : Nat) : Nat × Nat := if x % 2147483648 < 2139095040 then (if x = 2147483648 then (0, 0) else (x, 0)) else (0, 14)
set_option maxRecDepth 100000 in
theorem gcanon_any (x : Nat) (w : World) (hx : x < 4294967296) : Calls Tryz.prog 88 #[.int .u32 (x : Nat)] w fun e w' => e = .returned (.tuple #[.int .u32 ((canV x).1 : Nat), .int .i64 ((canV x).2 : Nat)]) ∧ w' = w := by
 have HI := hide (gis_any x w hx)
 by_cases h1 : x % 2147483648 < 2139095040
 ·rw [decide_eq_true h1] at HI
  by_cases h2 : x = 2147483648
  ·subst h2
   have HV := hide (show canV 2147483648 = (0, 0) from rfl)
   go_enter Tryz.func88, Tryz.ntmps88
   go_wp2_with fail
   refine (unhide HI).mono ?_
   rintro e w1 ⟨rfl, hw⟩
   obtain rfl := hw.symm
   clear hw
   go_wp2_with fail
   go_ret2
   exact ⟨by rw [unhide HV]; rfl, rfl⟩
  ·have HV := hide (show canV x = (x, 0) by unfold canV; rw [if_pos h1, if_neg h2])
   have h3 : ¬ (x : Int) = 2147483648 := by omega
   clear h1 h2
   go_enter Tryz.func88, Tryz.ntmps88
   go_wp2_with fail
   refine (unhide HI).mono ?_
   rintro e w1 ⟨rfl, hw⟩
   obtain rfl := hw.symm
   clear hw
   go_wp2_with fail
   go_ret2
   exact ⟨by rw [unhide HV]; rfl, rfl⟩
 ·rw [decide_eq_false h1] at HI
  have HV := hide (show canV x = (0, 14) by unfold canV; rw [if_neg h1])
  clear h1
  go_enter Tryz.func88, Tryz.ntmps88
  go_wp2_with fail
  refine (unhide HI).mono ?_
  rintro e w1 ⟨rfl, hw⟩
  obtain rfl := hw.symm
  clear hw
  go_wp2_with fail
  go_ret2
  exact ⟨by rw [unhide HV]; rfl, rfl⟩
set_option maxHeartbeats 4000000 in
set_option maxRecDepth 100000 in
theorem gfield_any (n : ByteArray) (k : Nat) (t : ByteArray) (v u : Nat) (gone : Bool) (w : World) (hv : v < 4294967296) (hu : u < 256) :
  Calls Tryz.prog 64 #[.agg #[.string n, .int .u8 (k : Nat), .string t, .float .f32 v, .int .u8 (u : Nat)], .bool gone] w fun e w' => e = .returned (.bool (gfld gone ⟨n, k, t, v, u⟩)) ∧ Fr (fun _ => False) w w' := by
 have HC := hide (fun W => gcanon_any v W hv)
 have HN := hide (fun W => gname_any u W hu)
 have hbt : (w.alloc (.cells #[.string n, .int .u8 (k : Nat), .string t, .float .f32 v, .int .u8 (u : Nat)] 55)).cell? ⟨w.heap.size, 2, none⟩ = some (.string t) := by rw [World.cell?_alloc_at _ _ _ _ rfl]; rfl
 clear hv hu
 by_cases h1 : n.size < 1
 ·have h1i : (n.size : Int) < 1 := by omega
  have HV := hide (show gfld gone ⟨n, k, t, v, u⟩ = false by unfold gfld; simp only [h1, true_or, if_true])
  clear h1
  go_enter Tryz.func64, Tryz.ntmps64
  go_wp2_with fail
  go_ret
  exact ⟨congrArg (fun b => Ending.returned (.bool b)) (unhide HV).symm, box1 w _⟩
 ·have h1i : ¬ (n.size : Int) < 1 := by omega
  by_cases h2 : 64 < n.size
  ·have h2i : (64 : Int) < (n.size : Int) := by omega
   have HV := hide (show gfld gone ⟨n, k, t, v, u⟩ = false by unfold gfld; simp only [h2, or_true, if_true])
   clear h1 h2
   go_enter Tryz.func64, Tryz.ntmps64
   go_wp2_with fail
   go_ret
   exact ⟨congrArg (fun b => Ending.returned (.bool b)) (unhide HV).symm, box1 w _⟩
  ·have h2i : ¬ (64 : Int) < (n.size : Int) := by omega
   by_cases k1 : k = 1
   ·subst k1
    by_cases t1 : t.size ≤ 64
    ·have t1i : (t.size : Int) ≤ 64 := by omega
     by_cases v1 : v = 0
     ·by_cases u1 : u = 0
      ·have HV := hide (show gfld gone ⟨n, 1, t, v, u⟩ = true by unfold gfld; simp [h1, h2, t1, v1, u1])
       go_enter Tryz.func64, Tryz.ntmps64
       go_wp2_with fail
       refine (gbits_any _ _).mono ?_
       rintro e w1 ⟨rfl, hw⟩
       obtain rfl := hw.symm
       clear hw
       go_wp2_with fail
       go_ret
       exact ⟨congrArg (fun b => Ending.returned (.bool b)) (unhide HV).symm, box1 w _⟩
      ·have u1i : ((u : Int) == 0) = false := by rw [beq_eq_false_iff_ne]; omega
       have HV := hide (show gfld gone ⟨n, 1, t, v, u⟩ = false by unfold gfld; simp [h1, h2, t1, v1, u1])
       go_enter Tryz.func64, Tryz.ntmps64
       go_wp2_with fail
       refine (gbits_any _ _).mono ?_
       rintro e w1 ⟨rfl, hw⟩
       obtain rfl := hw.symm
       clear hw
       go_wp2_with fail
       go_ret
       exact ⟨congrArg (fun b => Ending.returned (.bool b)) (unhide HV).symm, box1 w _⟩
     ·have v1i : ¬ (v : Int) = 0 := by omega
      have HV := hide (show gfld gone ⟨n, 1, t, v, u⟩ = false by unfold gfld; simp [h1, h2, v1])
      go_enter Tryz.func64, Tryz.ntmps64
      go_wp2_with fail
      refine (gbits_any _ _).mono ?_
      rintro e w1 ⟨rfl, hw⟩
      obtain rfl := hw.symm
      clear hw
      go_wp2_with fail
      go_ret
      exact ⟨congrArg (fun b => Ending.returned (.bool b)) (unhide HV).symm, box1 w _⟩
    ·have t1i : ¬ (t.size : Int) ≤ 64 := by omega
     have HV := hide (show gfld gone ⟨n, 1, t, v, u⟩ = false by unfold gfld; simp [h1, h2, t1])
     go_enter Tryz.func64, Tryz.ntmps64
     go_wp2_with fail
     go_ret
     exact ⟨congrArg (fun b => Ending.returned (.bool b)) (unhide HV).symm, box1 w _⟩
   ·have k1i : ¬ (k : Int) = 1 := by omega
    by_cases k2 : k = 2
    ·subst k2
     by_cases c1 : v % 2147483648 < 2139095040
     ·by_cases c2 : v = 2147483648
      ·subst c2
       have e1 : canV 2147483648 = (0, 0) := rfl
       rw [e1] at HC
       clear c1
       have HV := hide (show gfld gone ⟨n, 2, t, 2147483648, u⟩ = false by unfold gfld; simp [h1, h2, canB])
       go_enter Tryz.func64, Tryz.ntmps64
       go_wp2_with fail
       refine (gbits_any _ _).mono ?_
       rintro e w1 ⟨rfl, hw⟩
       obtain rfl := hw.symm
       clear hw
       go_wp2_with fail
       refine ((unhide HC) _).mono ?_
       rintro e w1 ⟨rfl, hw⟩
       obtain rfl := hw.symm
       clear hw
       go_wp2_with fail
       refine (gbits_any _ _).mono ?_
       rintro e w1 ⟨rfl, hw⟩
       obtain rfl := hw.symm
       clear hw
       go_wp2_with fail
       go_ret
       exact ⟨congrArg (fun b => Ending.returned (.bool b)) (unhide HV).symm, box1 w _⟩
      ·have e1 : canV v = (v, 0) := by unfold canV; rw [if_pos c1, if_neg c2]
       rw [e1] at HC
       by_cases u1 : isU u = true
       ·have hu1 : 1 ≤ u ∧ u ≤ 21 := by simpa [isU] using u1
        have hne := nameU_empty u
        rw [u1] at hne
        simp only [Bool.not_true] at hne
        by_cases t1 : t.toList.isEmpty = true
        ·have HV := hide (show gfld gone ⟨n, 2, t, v, u⟩ = true by unfold gfld; simp [h1, h2, canB, c1, c2, hu1, t1])
         go_enter Tryz.func64, Tryz.ntmps64
         go_wp2_with fail
         refine (gbits_any _ _).mono ?_
         rintro e w1 ⟨rfl, hw⟩
         obtain rfl := hw.symm
         clear hw
         go_wp2_with fail
         refine ((unhide HC) _).mono ?_
         rintro e w1 ⟨rfl, hw⟩
         obtain rfl := hw.symm
         clear hw
         go_wp2_with fail
         refine (gbits_any _ _).mono ?_
         rintro e w1 ⟨rfl, hw⟩
         obtain rfl := hw.symm
         clear hw
         go_wp2_with fail
         refine ((unhide HN) _).mono ?_
         rintro e w2 ⟨rfl, hf2⟩
         have t2 := (hf2.cell (p := ⟨w.heap.size, 2, none⟩) (by simp) (fun h => h)).trans hbt
         have F2 := hide ((box1 w _).trans hf2 (fun _ _ h => h))
         clear hf2
         go_wp2_with fail
         go_ret
         exact ⟨congrArg (fun b => Ending.returned (.bool b)) (unhide HV).symm, (unhide F2)⟩
        ·have HV := hide (show gfld gone ⟨n, 2, t, v, u⟩ = false by unfold gfld; simp [h1, h2, canB, c1, c2, hu1, t1])
         go_enter Tryz.func64, Tryz.ntmps64
         go_wp2_with fail
         refine (gbits_any _ _).mono ?_
         rintro e w1 ⟨rfl, hw⟩
         obtain rfl := hw.symm
         clear hw
         go_wp2_with fail
         refine ((unhide HC) _).mono ?_
         rintro e w1 ⟨rfl, hw⟩
         obtain rfl := hw.symm
         clear hw
         go_wp2_with fail
         refine (gbits_any _ _).mono ?_
         rintro e w1 ⟨rfl, hw⟩
         obtain rfl := hw.symm
         clear hw
         go_wp2_with fail
         refine ((unhide HN) _).mono ?_
         rintro e w2 ⟨rfl, hf2⟩
         have t2 := (hf2.cell (p := ⟨w.heap.size, 2, none⟩) (by simp) (fun h => h)).trans hbt
         have F2 := hide ((box1 w _).trans hf2 (fun _ _ h => h))
         clear hf2
         go_wp2_with fail
         go_ret
         exact ⟨congrArg (fun b => Ending.returned (.bool b)) (unhide HV).symm, (unhide F2)⟩
       ·have hu1 : ¬ (1 ≤ u ∧ u ≤ 21) := by simpa [isU] using u1
        have hne := nameU_empty u
        rw [show isU u = false by simpa using u1] at hne
        simp only [Bool.not_false] at hne
        have HV := hide (show gfld gone ⟨n, 2, t, v, u⟩ = false by unfold gfld; simp [h1, h2, canB, c1, c2, hu1])
        go_enter Tryz.func64, Tryz.ntmps64
        go_wp2_with fail
        refine (gbits_any _ _).mono ?_
        rintro e w1 ⟨rfl, hw⟩
        obtain rfl := hw.symm
        clear hw
        go_wp2_with fail
        refine ((unhide HC) _).mono ?_
        rintro e w1 ⟨rfl, hw⟩
        obtain rfl := hw.symm
        clear hw
        go_wp2_with fail
        refine (gbits_any _ _).mono ?_
        rintro e w1 ⟨rfl, hw⟩
        obtain rfl := hw.symm
        clear hw
        go_wp2_with fail
        refine ((unhide HN) _).mono ?_
        rintro e w2 ⟨rfl, hf2⟩
        have t2 := (hf2.cell (p := ⟨w.heap.size, 2, none⟩) (by simp) (fun h => h)).trans hbt
        have F2 := hide ((box1 w _).trans hf2 (fun _ _ h => h))
        clear hf2
        go_wp2_with fail
        go_ret
        exact ⟨congrArg (fun b => Ending.returned (.bool b)) (unhide HV).symm, (unhide F2)⟩
     ·have e1 : canV v = (0, 14) := by unfold canV; rw [if_neg c1]
      rw [e1] at HC
      have HV := hide (show gfld gone ⟨n, 2, t, v, u⟩ = false by unfold gfld; simp [h1, h2, canB, c1])
      go_enter Tryz.func64, Tryz.ntmps64
      go_wp2_with fail
      refine (gbits_any _ _).mono ?_
      rintro e w1 ⟨rfl, hw⟩
      obtain rfl := hw.symm
      clear hw
      go_wp2_with fail
      refine ((unhide HC) _).mono ?_
      rintro e w1 ⟨rfl, hw⟩
      obtain rfl := hw.symm
      clear hw
      go_wp2_with fail
      go_ret
      exact ⟨congrArg (fun b => Ending.returned (.bool b)) (unhide HV).symm, box1 w _⟩
    ·have k2i : ¬ (k : Int) = 2 := by omega
     by_cases k3 : k = 3
     ·subst k3
      by_cases g1 : gone = true
      ·subst g1
       by_cases t1 : t.toList.isEmpty = true
       ·by_cases v1 : v = 0
        ·by_cases u1 : u = 0
         ·have HV := hide (show gfld true ⟨n, 3, t, v, u⟩ = true by unfold gfld; simp [h1, h2, t1, v1, u1])
          go_enter Tryz.func64, Tryz.ntmps64
          go_wp2_with fail
          refine (gbits_any _ _).mono ?_
          rintro e w1 ⟨rfl, hw⟩
          obtain rfl := hw.symm
          clear hw
          go_wp2_with fail
          go_ret
          exact ⟨congrArg (fun b => Ending.returned (.bool b)) (unhide HV).symm, box1 w _⟩
         ·have u1i : ((u : Int) == 0) = false := by rw [beq_eq_false_iff_ne]; omega
          have HV := hide (show gfld true ⟨n, 3, t, v, u⟩ = false by unfold gfld; simp [h1, h2, t1, v1, u1])
          go_enter Tryz.func64, Tryz.ntmps64
          go_wp2_with fail
          refine (gbits_any _ _).mono ?_
          rintro e w1 ⟨rfl, hw⟩
          obtain rfl := hw.symm
          clear hw
          go_wp2_with fail
          go_ret
          exact ⟨congrArg (fun b => Ending.returned (.bool b)) (unhide HV).symm, box1 w _⟩
        ·have v1i : ¬ (v : Int) = 0 := by omega
         have HV := hide (show gfld true ⟨n, 3, t, v, u⟩ = false by unfold gfld; simp [h1, h2, v1])
         go_enter Tryz.func64, Tryz.ntmps64
         go_wp2_with fail
         refine (gbits_any _ _).mono ?_
         rintro e w1 ⟨rfl, hw⟩
         obtain rfl := hw.symm
         clear hw
         go_wp2_with fail
         go_ret
         exact ⟨congrArg (fun b => Ending.returned (.bool b)) (unhide HV).symm, box1 w _⟩
       ·have HV := hide (show gfld true ⟨n, 3, t, v, u⟩ = false by unfold gfld; simp [h1, h2, t1])
        go_enter Tryz.func64, Tryz.ntmps64
        go_wp2_with fail
        go_ret
        exact ⟨congrArg (fun b => Ending.returned (.bool b)) (unhide HV).symm, box1 w _⟩
      ·obtain rfl : gone = false := by simpa using g1
       have HV := hide (show gfld false ⟨n, 3, t, v, u⟩ = false by unfold gfld; simp [h1, h2])
       go_enter Tryz.func64, Tryz.ntmps64
       go_wp2_with fail
       go_ret
       exact ⟨congrArg (fun b => Ending.returned (.bool b)) (unhide HV).symm, box1 w _⟩
     ·have k3i : ¬ (k : Int) = 3 := by omega
      have HV := hide (show gfld gone ⟨n, k, t, v, u⟩ = false by unfold gfld; simp [h1, h2, k1, k2, k3])
      go_enter Tryz.func64, Tryz.ntmps64
      go_wp2_with fail
      go_ret
      exact ⟨congrArg (fun b => Ending.returned (.bool b)) (unhide HV).symm, box1 w _⟩
def gat (gone : Bool) (l : List F5) : Nat → Bool
 | 0 => gfds gone l
 | j + 1 => match l[j]? with
  | some f => gris gone f.n (l.drop (j + 1))
  | none => true
theorem gat_step (gone : Bool) (l : List F5) (j : Nat) (hj : j < l.length) : gat gone l j = (gfld gone l[j] && (if _h : j = 0 then true else Op.bytesLess (l[j - 1]'(by omega)).n.toList l[j].n.toList) && gat gone l (j + 1)) := by
 have hd : l.drop j = l[j] :: l.drop (j + 1) := List.drop_eq_getElem_cons hj
 rcases j with _ | j
 ·cases l with
  | nil => simp at hj
  | cons f r => simp [gat, gfds]
 ·have hj' : j < l.length := by omega
  simp only [gat, List.getElem?_eq_getElem hj', List.getElem?_eq_getElem hj]
  rw [hd]
  simp [gris]
theorem gat_end (gone : Bool) (l : List F5) : gat gone l l.length = true := by
 rcases e : l.length with _ | j
 ·obtain rfl := List.length_eq_zero_iff.1 e
  rfl
 ·simp only [gat]
  rw [List.getElem?_eq_getElem (by omega), show l.drop (j + 1) = [] by rw [List.drop_eq_nil_iff]; omega]
  rfl
set_option maxHeartbeats 2000000 in
set_option maxRecDepth 100000 in
theorem gfields_any (x : Value) (l : List F5) (gone : Bool) (w : World) (hx : Fds w x l) (hl : l.length ≤ 140737488355328) (hv : ∀ f ∈ l, f.v < 4294967296 ∧ f.u < 256) :
  Calls Tryz.prog 40 #[x, .bool gone] w fun e w' => e = .returned (.bool (fdsB l gone)) ∧ Fr (fun _ => False) w w' := by
 have HX := hide (And.intro hx hv)
 obtain ⟨xo, xc, rfl⟩ := hx.form
 clear hx hv
 go_enter Tryz.func40, Tryz.ntmps40
 go_wp2_with fail
 go_loopw [5] (fun iv wr => ∃ j : Nat, j ≤ l.length ∧ iv = .int .i64 (j : Nat) ∧ gfds gone l = gat gone l j ∧ Fr (fun _ => False) w wr) (fun iv _ => l.length - (intOf iv).toNat)
 case atStart => exact ⟨0, Nat.zero_le _, rfl, rfl, Fr.refl _ _⟩
 case round =>
  obtain ⟨j, hj, rfl, hG, hf⟩ := hrel
  by_cases hlt : j < l.length
  ·obtain ⟨g, o, rfl, c0, c1, c2, c3, c4⟩ := ((unhide HX).1.fr hf).at_ j hlt
   have hvu := (unhide HX).2 l[j] (List.getElem_mem hlt)
   obtain ⟨⟨n, k, t, v, u⟩, hfe⟩ : ∃ f, l[j] = f := ⟨_, rfl⟩
   rw [hfe] at c0 c1 c2 c3 c4 hvu
   simp only at c0 c1 c2 c3 c4 hvu
   have HR := hide (And.intro hG hf)
   have HFl := hide (fun W => gfield_any n k t v u gone W hvu.1 hvu.2)
   have hkl : (j : Int) < (l.length : Int) := by omega
   have hgl : g < wr.heap.size := lt_of_cell c0
   have hS0 : ∀ W, Fr (fun _ => False) wr W → W.cell? ⟨g, o + j * 5, none⟩ = some (.string n) ∧ W.cell? ⟨g, o + j * 5 + 1, none⟩ = some (.int .u8 (k : Nat)) ∧ W.cell? ⟨g, o + j * 5 + 2, none⟩ = some (.string t) ∧ W.cell? ⟨g, o + j * 5 + 3, none⟩ = some (.float .f32 v) ∧ W.cell? ⟨g, o + j * 5 + 4, none⟩ = some (.int .u8 (u : Nat)) := fun W hW => ⟨(hW.cell (p := ⟨g, _, none⟩) hgl (fun h => h)).trans c0, (hW.cell (p := ⟨g, _, none⟩) hgl (fun h => h)).trans c1, (hW.cell (p := ⟨g, _, none⟩) hgl (fun h => h)).trans c2, (hW.cell (p := ⟨g, _, none⟩) hgl (fun h => h)).trans c3, (hW.cell (p := ⟨g, _, none⟩) hgl (fun h => h)).trans c4⟩
   cases hgf : gfld gone ⟨n, k, t, v, u⟩ with
   | false =>
    clear hG hf hvu
    have HQ := hide (show gat gone l j = false by rw [gat_step gone l j hlt, hfe, hgf]; rfl)
    have HS0 := hide hS0
    rw [hgf] at HFl
    clear hgf hfe hS0
    go_wp2_with fail
    refine wp_region_noPanic ?_
    refine wp_region_held_drew (S := (fun W => W.cell? ⟨g, o + j * 5, none⟩ = some (.string n) ∧ W.cell? ⟨g, o + j * 5 + 1, none⟩ = some (.int .u8 (k : Nat)) ∧ W.cell? ⟨g, o + j * 5 + 2, none⟩ = some (.string t) ∧ W.cell? ⟨g, o + j * 5 + 3, none⟩ = some (.float .f32 v) ∧ W.cell? ⟨g, o + j * 5 + 4, none⟩ = some (.int .u8 (u : Nat)))) (by kernel_rfl) ((unhide HS0) _ (Fr.refl _ _).drew) (fun hHeld => ?_)
    refine wtk2 (i := 0) rfl hHeld ?_
    (try simp only [Act.put, nrm])
    refine wtk2 (i := 1) rfl hHeld ?_
    (try simp only [Act.put, nrm])
    refine wtk2 (i := 2) rfl hHeld ?_
    (try simp only [Act.put, nrm])
    refine wtk2 (i := 3) rfl hHeld ?_
    (try simp only [Act.put, nrm])
    refine wtk2 (i := 4) rfl hHeld ?_
    (try simp only [Act.put, nrm])
    refine wpAnyH_ready (rs := [5]) (by kernel_rfl) (by simp) (AllReadyH.cons rfl (fun K hK => ?_) AllReadyH.nil)
    go_simp
    refine ((unhide HFl) _).mono ?_
    rintro e w2 ⟨rfl, hf2⟩
    have F2 := hide ((Fr.refl (fun _ => False) wr).drew.trans hf2 (fun _ _ h => h))
    clear hf2
    go_simp
    refine hK.out _ _ ((unhide HS0) _ (unhide F2)) (fun hHeld => ?_)
    clear hK K
    (try simp only [Act.put, nrm])
    refine wtk2 (i := 6) rfl hHeld ?_
    (try simp only [Act.put, nrm])
    refine wtk2 (i := 7) rfl hHeld ?_
    (try simp only [Act.put, nrm])
    refine wpAnyH_take (i := 8) (v := undef) rfl (by kernel_rfl) (by kernel_rfl) (by kernel_rfl) (fun _ _ _ h => h) (Or.inr ⟨by rfl, rfl⟩) hHeld ?_
    (try simp only [Act.put, nrm])
    refine wpAnyH_take (i := 9) (v := undef) rfl (by kernel_rfl) (by kernel_rfl) (by kernel_rfl) (fun _ _ _ h => h) (Or.inr ⟨by rfl, rfl⟩) hHeld ?_
    (try simp only [Act.put, nrm])
    refine wpAnyH_take (i := 10) (v := undef) rfl (by kernel_rfl) (by kernel_rfl) (by kernel_rfl) (fun _ _ _ h => h) (Or.inr ⟨by rfl, rfl⟩) hHeld ?_
    (try simp only [Act.put, nrm])
    refine wpAnyH_take (i := 11) (v := undef) rfl (by kernel_rfl) (by kernel_rfl) (by kernel_rfl) (fun _ _ _ h => h) (Or.inr ⟨by rfl, rfl⟩) hHeld ?_
    (try simp only [Act.put, nrm])
    refine wpAnyH_take (i := 12) (v := undef) rfl (by kernel_rfl) (by kernel_rfl) (by kernel_rfl) (fun _ _ _ h => h) (Or.inr ⟨by rfl, rfl⟩) hHeld ?_
    (try simp only [Act.put, nrm])
    refine wpAnyH_take (i := 13) (v := undef) rfl (by kernel_rfl) (by kernel_rfl) (by kernel_rfl) (fun _ _ _ h => h) (Or.inr ⟨by rfl, rfl⟩) hHeld ?_
    (try simp only [Act.put, nrm])
    refine wpAnyH_take (i := 14) (v := undef) rfl (by kernel_rfl) (by kernel_rfl) (by kernel_rfl) (fun _ _ _ h => h) (Or.inr ⟨by rfl, rfl⟩) hHeld ?_
    (try simp only [Act.put, nrm])
    refine wpAnyH_take (i := 15) (v := undef) rfl (by kernel_rfl) (by kernel_rfl) (by kernel_rfl) (fun _ _ _ h => h) (Or.inr ⟨by rfl, rfl⟩) hHeld ?_
    (try simp only [Act.put, nrm])
    refine wpAnyH_take (i := 16) (v := undef) rfl (by kernel_rfl) (by kernel_rfl) (by kernel_rfl) (fun _ _ _ h => h) (Or.inr ⟨by rfl, rfl⟩) hHeld ?_
    (try simp only [Act.put, nrm])
    refine wpAnyH_take (i := 17) (v := undef) rfl (by kernel_rfl) (by kernel_rfl) (by kernel_rfl) (fun _ _ _ h => h) (Or.inr ⟨by rfl, rfl⟩) hHeld ?_
    (try simp only [Act.put, nrm])
    refine wpAnyH_take (i := 18) (v := undef) rfl (by kernel_rfl) (by kernel_rfl) (by kernel_rfl) (fun _ _ _ h => h) (Or.inr ⟨by rfl, rfl⟩) hHeld ?_
    (try simp only [Act.put, nrm])
    refine wpAnyH_take (i := 19) (v := undef) rfl (by kernel_rfl) (by kernel_rfl) (by kernel_rfl) (fun _ _ _ h => h) (Or.inr ⟨by rfl, rfl⟩) hHeld ?_
    (try simp only [Act.put, nrm])
    refine wpAnyH_take (i := 20) (v := undef) rfl (by kernel_rfl) (by kernel_rfl) (by kernel_rfl) (fun _ _ _ h => h) (Or.inr ⟨by rfl, rfl⟩) hHeld ?_
    (try simp only [Act.put, nrm])
    refine wpAnyH_take (i := 21) (v := undef) rfl (by kernel_rfl) (by kernel_rfl) (by kernel_rfl) (fun _ _ _ h => h) (Or.inr ⟨by rfl, rfl⟩) hHeld ?_
    (try simp only [Act.put, nrm])
    refine wpAnyH_take (i := 22) (v := undef) rfl (by kernel_rfl) (by kernel_rfl) (by kernel_rfl) (fun _ _ _ h => h) (Or.inr ⟨by rfl, rfl⟩) hHeld ?_
    (try simp only [Act.put, nrm])
    refine wpAnyH_take (i := 23) (v := undef) rfl (by kernel_rfl) (by kernel_rfl) (by kernel_rfl) (fun _ _ _ h => h) (Or.inr ⟨by rfl, rfl⟩) hHeld ?_
    (try simp only [Act.put, nrm])
    refine wpAnyH_take (i := 24) (v := undef) rfl (by kernel_rfl) (by kernel_rfl) (by kernel_rfl) (fun _ _ _ h => h) (Or.inr ⟨by rfl, rfl⟩) hHeld ?_
    (try simp only [Act.put, nrm])
    refine wtk2 (i := 25) rfl hHeld ?_
    (try simp only [Act.put, nrm])
    refine wpAnyH_done (by kernel_rfl) ?_ _
    refine NoPanic.normal ?_
    clear HFl HS0
    go_wp2_with fail
    go_ret
    have hv0 : fdsB l gone = false := by rw [← gfds_eq, (unhide HR).1, unhide HQ]; rfl
    exact ⟨congrArg (fun b => Ending.returned (.bool b)) hv0.symm, (unhide HR).2.trans (unhide F2) (fun _ _ h => h)⟩
   | true =>
    by_cases hj0 : j = 0
    ·clear hG hf hvu
     have HQ := hide (show gat gone l j = gat gone l (j + 1) by rw [gat_step gone l j hlt, hfe, hgf, dif_pos hj0]; simp)
     have j1 : decide ((0 : Int) < (j : Int)) = false := decide_eq_false (by omega)
     have j2 : decide (0 < j) = false := decide_eq_false (by omega)
     have j3 : ¬ 0 < j := by omega
     clear hj0
     have HS0 := hide hS0
     rw [hgf] at HFl
     clear hgf hfe hS0
     go_wp2_with fail
     refine wp_region_noPanic ?_
     refine wp_region_held_drew (S := (fun W => W.cell? ⟨g, o + j * 5, none⟩ = some (.string n) ∧ W.cell? ⟨g, o + j * 5 + 1, none⟩ = some (.int .u8 (k : Nat)) ∧ W.cell? ⟨g, o + j * 5 + 2, none⟩ = some (.string t) ∧ W.cell? ⟨g, o + j * 5 + 3, none⟩ = some (.float .f32 v) ∧ W.cell? ⟨g, o + j * 5 + 4, none⟩ = some (.int .u8 (u : Nat)))) (by kernel_rfl) ((unhide HS0) _ (Fr.refl _ _).drew) (fun hHeld => ?_)
     refine wtk2 (i := 0) rfl hHeld ?_
     (try simp only [Act.put, nrm])
     refine wtk2 (i := 1) rfl hHeld ?_
     (try simp only [Act.put, nrm])
     refine wtk2 (i := 2) rfl hHeld ?_
     (try simp only [Act.put, nrm])
     refine wtk2 (i := 3) rfl hHeld ?_
     (try simp only [Act.put, nrm])
     refine wtk2 (i := 4) rfl hHeld ?_
     (try simp only [Act.put, nrm])
     refine wpAnyH_ready (rs := [5]) (by kernel_rfl) (by simp) (AllReadyH.cons rfl (fun K hK => ?_) AllReadyH.nil)
     go_simp
     refine ((unhide HFl) _).mono ?_
     rintro e w2 ⟨rfl, hf2⟩
     have F2 := hide ((Fr.refl (fun _ => False) wr).drew.trans hf2 (fun _ _ h => h))
     clear hf2
     go_simp
     refine hK.out _ _ ((unhide HS0) _ (unhide F2)) (fun hHeld => ?_)
     clear hK K
     (try simp only [Act.put, nrm])
     refine wtk2 (i := 6) rfl hHeld ?_
     (try simp only [Act.put, nrm])
     refine wtk2 (i := 7) rfl hHeld ?_
     (try simp only [Act.put, nrm])
     refine wtk2 (i := 8) rfl hHeld ?_
     (try simp only [Act.put, nrm])
     refine wtk2 (i := 9) rfl hHeld ?_
     (try simp only [Act.put, nrm])
     refine wtk2 (i := 10) rfl hHeld ?_
     (try simp only [Act.put, nrm])
     refine wpAnyH_take (i := 11) (v := undef) rfl (by kernel_rfl) (by kernel_rfl) (by kernel_rfl) (fun _ _ _ h => h) (Or.inr ⟨by rfl, rfl⟩) hHeld ?_
     (try simp only [Act.put, nrm])
     refine wpAnyH_take (i := 12) (v := undef) rfl (by kernel_rfl) (by kernel_rfl) (by kernel_rfl) (fun _ _ _ h => h) (Or.inr ⟨by rfl, rfl⟩) hHeld ?_
     (try simp only [Act.put, nrm])
     refine wpAnyH_take (i := 13) (v := undef) rfl (by kernel_rfl) (by kernel_rfl) (by kernel_rfl) (fun _ _ _ h => h) (Or.inr ⟨by rfl, rfl⟩) hHeld ?_
     (try simp only [Act.put, nrm])
     refine wpAnyH_take (i := 14) (v := undef) rfl (by kernel_rfl) (by kernel_rfl) (by kernel_rfl) (fun _ _ _ h => h) (Or.inr ⟨by rfl, rfl⟩) hHeld ?_
     (try simp only [Act.put, nrm])
     refine wpAnyH_take (i := 15) (v := undef) rfl (by kernel_rfl) (by kernel_rfl) (by kernel_rfl) (fun _ _ _ h => h) (Or.inr ⟨by rfl, rfl⟩) hHeld ?_
     (try simp only [Act.put, nrm])
     refine wpAnyH_take (i := 16) (v := undef) rfl (by kernel_rfl) (by kernel_rfl) (by kernel_rfl) (fun _ _ _ h => h) (Or.inr ⟨by rfl, rfl⟩) hHeld ?_
     (try simp only [Act.put, nrm])
     refine wpAnyH_take (i := 17) (v := undef) rfl (by kernel_rfl) (by kernel_rfl) (by kernel_rfl) (fun _ _ _ h => h) (Or.inr ⟨by rfl, rfl⟩) hHeld ?_
     (try simp only [Act.put, nrm])
     refine wpAnyH_take (i := 18) (v := undef) rfl (by kernel_rfl) (by kernel_rfl) (by kernel_rfl) (fun _ _ _ h => h) (Or.inr ⟨by rfl, rfl⟩) hHeld ?_
     (try simp only [Act.put, nrm])
     refine wpAnyH_take (i := 19) (v := undef) rfl (by kernel_rfl) (by kernel_rfl) (by kernel_rfl) (fun _ _ _ h => h) (Or.inr ⟨by rfl, rfl⟩) hHeld ?_
     (try simp only [Act.put, nrm])
     refine wpAnyH_take (i := 20) (v := undef) rfl (by kernel_rfl) (by kernel_rfl) (by kernel_rfl) (fun _ _ _ h => h) (Or.inr ⟨by rfl, rfl⟩) hHeld ?_
     (try simp only [Act.put, nrm])
     refine wpAnyH_take (i := 21) (v := undef) rfl (by kernel_rfl) (by kernel_rfl) (by kernel_rfl) (fun _ _ _ h => h) (Or.inr ⟨by rfl, rfl⟩) hHeld ?_
     (try simp only [Act.put, nrm])
     refine wpAnyH_take (i := 22) (v := undef) rfl (by kernel_rfl) (by kernel_rfl) (by kernel_rfl) (fun _ _ _ h => h) (Or.inr ⟨by rfl, rfl⟩) hHeld ?_
     (try simp only [Act.put, nrm])
     refine wpAnyH_take (i := 23) (v := undef) rfl (by kernel_rfl) (by kernel_rfl) (by kernel_rfl) (fun _ _ _ h => h) (Or.inr ⟨by rfl, rfl⟩) hHeld ?_
     (try simp only [Act.put, nrm])
     refine wtk2 (i := 24) rfl hHeld ?_
     (try simp only [Act.put, nrm])
     refine wtk2 (i := 25) rfl hHeld ?_
     (try simp only [Act.put, nrm])
     refine wpAnyH_done (by kernel_rfl) ?_ _
     refine NoPanic.normal ?_
     clear HFl HS0
     go_wp2_with fail
     go_roundw
     case rel => exact ⟨j + 1, hlt, by go_num, by rw [(unhide HR).1, unhide HQ], (unhide HR).2.trans (unhide F2) (fun _ _ h => h)⟩
     case measure => simp [intOf]; omega
    ·obtain ⟨i, he⟩ : ∃ i, j - 1 = i := ⟨_, rfl⟩
     have hil : i < l.length := by omega
     obtain ⟨g', o', e', p0, _⟩ := ((unhide HX).1.fr hf).at_ i hil
     cases e'
     obtain ⟨p, hp⟩ : ∃ p, l[i].n = p := ⟨_, rfl⟩
     rw [hp] at p0
     have hS1 : ∀ W, Fr (fun _ => False) wr W → (W.cell? ⟨g, o + j * 5, none⟩ = some (.string n) ∧ W.cell? ⟨g, o + j * 5 + 1, none⟩ = some (.int .u8 (k : Nat)) ∧ W.cell? ⟨g, o + j * 5 + 2, none⟩ = some (.string t) ∧ W.cell? ⟨g, o + j * 5 + 3, none⟩ = some (.float .f32 v) ∧ W.cell? ⟨g, o + j * 5 + 4, none⟩ = some (.int .u8 (u : Nat))) ∧ W.cell? ⟨g, o + i * 5, none⟩ = some (.string p) := fun W hW => ⟨hS0 W hW, (hW.cell (p := ⟨g, _, none⟩) hgl (fun h => h)).trans p0⟩
     have hji : (j : Int) - 1 = (i : Int) := by omega
     have hwi : IntKind.i64.wrap (i : Int) = (i : Int) := by rw [IntKind.wrap_i64]; omega
     have hil2 : (i : Int) < (l.length : Int) := by omega
     have hj1 : (0 : Int) < (j : Int) := by omega
     have hj2 : 0 < j := by omega
     have hj3 : decide (0 < j) = true := decide_eq_true hj2
     have hj4 : decide ((0 : Int) < (j : Int)) = true := decide_eq_true hj1
     clear hG hf hvu hS0
     cases hb : Op.bytesLess p.toList n.toList with
     | false =>
      have HQ := hide (show gat gone l j = false by rw [gat_step gone l j hlt, hfe, hgf, dif_neg hj0]; simp only [he]; rw [hp, hb]; simp)
      have HS1 := hide hS1
      rw [hgf] at HFl
      clear hgf hfe hS1 hp
      go_wp2_with fail
      refine wp_region_noPanic ?_
      refine wp_region_held_drew (S := (fun W => (W.cell? ⟨g, o + j * 5, none⟩ = some (.string n) ∧ W.cell? ⟨g, o + j * 5 + 1, none⟩ = some (.int .u8 (k : Nat)) ∧ W.cell? ⟨g, o + j * 5 + 2, none⟩ = some (.string t) ∧ W.cell? ⟨g, o + j * 5 + 3, none⟩ = some (.float .f32 v) ∧ W.cell? ⟨g, o + j * 5 + 4, none⟩ = some (.int .u8 (u : Nat))) ∧ W.cell? ⟨g, o + i * 5, none⟩ = some (.string p))) (by kernel_rfl) ((unhide HS1) _ (Fr.refl _ _).drew) (fun hHeld => ?_)
      refine wtk2 (i := 0) rfl hHeld ?_
      (try simp only [Act.put, nrm])
      refine wtk2 (i := 1) rfl hHeld ?_
      (try simp only [Act.put, nrm])
      refine wtk2 (i := 2) rfl hHeld ?_
      (try simp only [Act.put, nrm])
      refine wtk2 (i := 3) rfl hHeld ?_
      (try simp only [Act.put, nrm])
      refine wtk2 (i := 4) rfl hHeld ?_
      (try simp only [Act.put, nrm])
      refine wpAnyH_ready (rs := [5]) (by kernel_rfl) (by simp) (AllReadyH.cons rfl (fun K hK => ?_) AllReadyH.nil)
      go_simp
      refine ((unhide HFl) _).mono ?_
      rintro e w2 ⟨rfl, hf2⟩
      have F2 := hide ((Fr.refl (fun _ => False) wr).drew.trans hf2 (fun _ _ h => h))
      clear hf2
      go_simp
      refine hK.out _ _ ((unhide HS1) _ (unhide F2)) (fun hHeld => ?_)
      clear hK K
      (try simp only [Act.put, nrm])
      refine wtk2 (i := 6) rfl hHeld ?_
      (try simp only [Act.put, nrm])
      refine wtk2 (i := 7) rfl hHeld ?_
      (try simp only [Act.put, nrm])
      refine wtk2 (i := 8) rfl hHeld ?_
      (try simp only [Act.put, nrm])
      refine wtk2 (i := 9) rfl hHeld ?_
      (try simp only [Act.put, nrm])
      refine wtk2 (i := 10) rfl hHeld ?_
      (try simp only [Act.put, nrm])
      refine wtk2 (i := 11) rfl hHeld ?_
      (try simp only [Act.put, nrm])
      refine wtk2 (i := 12) rfl hHeld ?_
      (try simp only [Act.put, nrm])
      refine wtk2 (i := 13) rfl hHeld ?_
      (try simp only [Act.put, nrm])
      refine wtk2 (i := 14) rfl hHeld ?_
      (try simp only [Act.put, nrm])
      refine wtk2 (i := 15) rfl hHeld ?_
      (try simp only [Act.put, nrm])
      refine wtk2 (i := 16) rfl hHeld ?_
      (try simp only [Act.put, nrm])
      refine wtk2 (i := 17) rfl hHeld ?_
      (try simp only [Act.put, nrm])
      refine wtk2 (i := 18) rfl hHeld ?_
      (try simp only [Act.put, nrm])
      refine wtk2 (i := 19) rfl hHeld ?_
      (try simp only [Act.put, nrm])
      refine wtk2 (i := 20) rfl hHeld ?_
      (try simp only [Act.put, nrm])
      refine wtk2 (i := 21) rfl hHeld ?_
      (try simp only [Act.put, nrm])
      refine wtk2 (i := 22) rfl hHeld ?_
      (try simp only [Act.put, nrm])
      refine wtk2 (i := 23) rfl hHeld ?_
      (try simp only [Act.put, nrm])
      refine wtk2 (i := 24) rfl hHeld ?_
      (try simp only [Act.put, nrm])
      refine wtk2 (i := 25) rfl hHeld ?_
      (try simp only [Act.put, nrm])
      refine wpAnyH_done (by kernel_rfl) ?_ _
      refine NoPanic.normal ?_
      clear HFl HS1
      go_wp2_with fail
      go_ret
      have hv0 : fdsB l gone = false := by rw [← gfds_eq, (unhide HR).1, unhide HQ]; rfl
      exact ⟨congrArg (fun b => Ending.returned (.bool b)) hv0.symm, (unhide HR).2.trans (unhide F2) (fun _ _ h => h)⟩
     | true =>
      have HQ := hide (show gat gone l j = gat gone l (j + 1) by rw [gat_step gone l j hlt, hfe, hgf, dif_neg hj0]; simp only [he]; rw [hp, hb]; simp)
      have HS1 := hide hS1
      rw [hgf] at HFl
      clear hgf hfe hS1 hp
      go_wp2_with fail
      refine wp_region_noPanic ?_
      refine wp_region_held_drew (S := (fun W => (W.cell? ⟨g, o + j * 5, none⟩ = some (.string n) ∧ W.cell? ⟨g, o + j * 5 + 1, none⟩ = some (.int .u8 (k : Nat)) ∧ W.cell? ⟨g, o + j * 5 + 2, none⟩ = some (.string t) ∧ W.cell? ⟨g, o + j * 5 + 3, none⟩ = some (.float .f32 v) ∧ W.cell? ⟨g, o + j * 5 + 4, none⟩ = some (.int .u8 (u : Nat))) ∧ W.cell? ⟨g, o + i * 5, none⟩ = some (.string p))) (by kernel_rfl) ((unhide HS1) _ (Fr.refl _ _).drew) (fun hHeld => ?_)
      refine wtk2 (i := 0) rfl hHeld ?_
      (try simp only [Act.put, nrm])
      refine wtk2 (i := 1) rfl hHeld ?_
      (try simp only [Act.put, nrm])
      refine wtk2 (i := 2) rfl hHeld ?_
      (try simp only [Act.put, nrm])
      refine wtk2 (i := 3) rfl hHeld ?_
      (try simp only [Act.put, nrm])
      refine wtk2 (i := 4) rfl hHeld ?_
      (try simp only [Act.put, nrm])
      refine wpAnyH_ready (rs := [5]) (by kernel_rfl) (by simp) (AllReadyH.cons rfl (fun K hK => ?_) AllReadyH.nil)
      go_simp
      refine ((unhide HFl) _).mono ?_
      rintro e w2 ⟨rfl, hf2⟩
      have F2 := hide ((Fr.refl (fun _ => False) wr).drew.trans hf2 (fun _ _ h => h))
      clear hf2
      go_simp
      refine hK.out _ _ ((unhide HS1) _ (unhide F2)) (fun hHeld => ?_)
      clear hK K
      (try simp only [Act.put, nrm])
      refine wtk2 (i := 6) rfl hHeld ?_
      (try simp only [Act.put, nrm])
      refine wtk2 (i := 7) rfl hHeld ?_
      (try simp only [Act.put, nrm])
      refine wtk2 (i := 8) rfl hHeld ?_
      (try simp only [Act.put, nrm])
      refine wtk2 (i := 9) rfl hHeld ?_
      (try simp only [Act.put, nrm])
      refine wtk2 (i := 10) rfl hHeld ?_
      (try simp only [Act.put, nrm])
      refine wtk2 (i := 11) rfl hHeld ?_
      (try simp only [Act.put, nrm])
      refine wtk2 (i := 12) rfl hHeld ?_
      (try simp only [Act.put, nrm])
      refine wtk2 (i := 13) rfl hHeld ?_
      (try simp only [Act.put, nrm])
      refine wtk2 (i := 14) rfl hHeld ?_
      (try simp only [Act.put, nrm])
      refine wtk2 (i := 15) rfl hHeld ?_
      (try simp only [Act.put, nrm])
      refine wtk2 (i := 16) rfl hHeld ?_
      (try simp only [Act.put, nrm])
      refine wtk2 (i := 17) rfl hHeld ?_
      (try simp only [Act.put, nrm])
      refine wtk2 (i := 18) rfl hHeld ?_
      (try simp only [Act.put, nrm])
      refine wtk2 (i := 19) rfl hHeld ?_
      (try simp only [Act.put, nrm])
      refine wtk2 (i := 20) rfl hHeld ?_
      (try simp only [Act.put, nrm])
      refine wtk2 (i := 21) rfl hHeld ?_
      (try simp only [Act.put, nrm])
      refine wtk2 (i := 22) rfl hHeld ?_
      (try simp only [Act.put, nrm])
      refine wtk2 (i := 23) rfl hHeld ?_
      (try simp only [Act.put, nrm])
      refine wtk2 (i := 24) rfl hHeld ?_
      (try simp only [Act.put, nrm])
      refine wtk2 (i := 25) rfl hHeld ?_
      (try simp only [Act.put, nrm])
      refine wpAnyH_done (by kernel_rfl) ?_ _
      refine NoPanic.normal ?_
      clear HFl HS1
      go_wp2_with fail
      go_roundw
      case rel => exact ⟨j + 1, hlt, by go_num, by rw [(unhide HR).1, unhide HQ], (unhide HR).2.trans (unhide F2) (fun _ _ h => h)⟩
      case measure => simp [intOf]; omega
  ·obtain rfl : j = l.length := by omega
   have HR := hide (And.intro hG hf)
   clear hG hf
   go_wp2_with fail
   go_ret
   have hv0 : fdsB l gone = decide (l.length ≤ 32) := by rw [← gfds_eq, (unhide HR).1, gat_end]; simp
   refine ⟨?_, (unhide HR).2⟩
   rw [hv0]
   refine congrArg (fun b => Ending.returned (.bool b)) ?_
   rw [decide_eq_decide]
   omega
set_option linter.unusedSimpArgs false in
set_option maxHeartbeats 1000000 in
set_option maxRecDepth 100000 in
theorem gformed_1 (cl nu ac rc ve wa ow : Nat) (xo : Option Addr) (xc : Nat) (rs : ByteArray) (F : List F5) (N : Nat) (w : World) (HFi : Hid (∀ gone W, Fr (fun _ => False) w W → Calls Tryz.prog 40 #[.slice xo N xc, .bool gone] W fun e w' => e = .returned (.bool (fdsB F gone)) ∧ Fr (fun _ => False) w w')) :
  Calls Tryz.prog 23 #[.agg #[.int .u32 (cl : Nat), .int .u32 (nu : Nat), .int .u32 (ac : Nat), .int .u8 1, .int .u32 (rc : Nat), .int .u32 (ve : Nat), .int .u32 (wa : Nat), .int .u32 (ow : Nat), .slice xo N xc, .string rs]] w fun e w' => e = .returned (.bool (RQ.frm ⟨cl, nu, ac, 1, rc, ve, wa, ow, .slice xo N xc, rs⟩ F)) ∧ Fr (fun _ => False) w w' := by
 by_cases z_rc : rc = 0
 ·subst z_rc
  by_cases z_ve : ve = 0
  ·subst z_ve
   by_cases z_rs : rs.size = 0
   ·have i_rs : rs.toList.isEmpty = true := by rw [empty_toList]; simp [z_rs]
    have Z := hide z_rs
    clear z_rs
    have HV := hide (show RQ.frm ⟨cl, nu, ac, 1, 0, 0, wa, ow, .slice xo N xc, rs⟩ F = fdsB F false by unfold RQ.frm; simp [unhide Z])
    go_enter Tryz.func23, Tryz.ntmps23
    go_wp2_with fail
    refine ((unhide HFi) false _ (by repeat first | exact Fr.refl _ _ | refine Fr.alloc ?_ _ | refine Fr.setCell (p := ⟨_, _, none⟩) ?_ (.inr (by simp)) _)).mono ?_
    rintro e w2 ⟨rfl, hf2⟩
    go_wp2_with fail
    go_ret
    exact ⟨congrArg (fun b => Ending.returned (.bool b)) (unhide HV).symm, hf2⟩
   ·have i_rs : rs.toList.isEmpty = false := by rw [empty_toList]; simp [z_rs]
    have HV := hide (show RQ.frm ⟨cl, nu, ac, 1, 0, 0, wa, ow, .slice xo N xc, rs⟩ F = false by unfold RQ.frm; simp [z_rs])
    clear HFi
    go_enter Tryz.func23, Tryz.ntmps23
    go_wp2_with fail
    go_ret
    exact ⟨congrArg (fun b => Ending.returned (.bool b)) (unhide HV).symm, (by repeat first | exact Fr.refl _ _ | refine Fr.alloc ?_ _ | refine Fr.setCell (p := ⟨_, _, none⟩) ?_ (.inr (by simp)) _)⟩
  ·have i_ve : ¬ (ve : Int) = 0 := by omega
   have HV := hide (show RQ.frm ⟨cl, nu, ac, 1, 0, ve, wa, ow, .slice xo N xc, rs⟩ F = false by unfold RQ.frm; simp [z_ve])
   clear HFi
   go_enter Tryz.func23, Tryz.ntmps23
   go_wp2_with fail
   go_ret
   exact ⟨congrArg (fun b => Ending.returned (.bool b)) (unhide HV).symm, (by repeat first | exact Fr.refl _ _ | refine Fr.alloc ?_ _ | refine Fr.setCell (p := ⟨_, _, none⟩) ?_ (.inr (by simp)) _)⟩
 ·have i_rc : ¬ (rc : Int) = 0 := by omega
  have HV := hide (show RQ.frm ⟨cl, nu, ac, 1, rc, ve, wa, ow, .slice xo N xc, rs⟩ F = false by unfold RQ.frm; simp [z_rc])
  clear HFi
  go_enter Tryz.func23, Tryz.ntmps23
  go_wp2_with fail
  go_ret
  exact ⟨congrArg (fun b => Ending.returned (.bool b)) (unhide HV).symm, (by repeat first | exact Fr.refl _ _ | refine Fr.alloc ?_ _ | refine Fr.setCell (p := ⟨_, _, none⟩) ?_ (.inr (by simp)) _)⟩
set_option linter.unusedSimpArgs false in
set_option maxHeartbeats 1000000 in
set_option maxRecDepth 100000 in
theorem gformed_2 (cl nu ac rc ve wa ow : Nat) (xo : Option Addr) (xc : Nat) (rs : ByteArray) (F : List F5) (N : Nat) (w : World) (HFi : Hid (∀ gone W, Fr (fun _ => False) w W → Calls Tryz.prog 40 #[.slice xo N xc, .bool gone] W fun e w' => e = .returned (.bool (fdsB F gone)) ∧ Fr (fun _ => False) w w')) :
  Calls Tryz.prog 23 #[.agg #[.int .u32 (cl : Nat), .int .u32 (nu : Nat), .int .u32 (ac : Nat), .int .u8 2, .int .u32 (rc : Nat), .int .u32 (ve : Nat), .int .u32 (wa : Nat), .int .u32 (ow : Nat), .slice xo N xc, .string rs]] w fun e w' => e = .returned (.bool (RQ.frm ⟨cl, nu, ac, 2, rc, ve, wa, ow, .slice xo N xc, rs⟩ F)) ∧ Fr (fun _ => False) w w' := by
 by_cases z_wa : wa = 0
 ·subst z_wa
  by_cases z_ow : ow = 0
  ·subst z_ow
   by_cases z_rs : rs.size = 0
   ·have i_rs : rs.toList.isEmpty = true := by rw [empty_toList]; simp [z_rs]
    have Z := hide z_rs
    clear z_rs
    have HV := hide (show RQ.frm ⟨cl, nu, ac, 2, rc, ve, 0, 0, .slice xo N xc, rs⟩ F = fdsB F true by unfold RQ.frm; simp [unhide Z])
    go_enter Tryz.func23, Tryz.ntmps23
    go_wp2_with fail
    refine ((unhide HFi) true _ (by repeat first | exact Fr.refl _ _ | refine Fr.alloc ?_ _ | refine Fr.setCell (p := ⟨_, _, none⟩) ?_ (.inr (by simp)) _)).mono ?_
    rintro e w2 ⟨rfl, hf2⟩
    go_wp2_with fail
    go_ret
    exact ⟨congrArg (fun b => Ending.returned (.bool b)) (unhide HV).symm, hf2⟩
   ·have i_rs : rs.toList.isEmpty = false := by rw [empty_toList]; simp [z_rs]
    have HV := hide (show RQ.frm ⟨cl, nu, ac, 2, rc, ve, 0, 0, .slice xo N xc, rs⟩ F = false by unfold RQ.frm; simp [z_rs])
    clear HFi
    go_enter Tryz.func23, Tryz.ntmps23
    go_wp2_with fail
    go_ret
    exact ⟨congrArg (fun b => Ending.returned (.bool b)) (unhide HV).symm, (by repeat first | exact Fr.refl _ _ | refine Fr.alloc ?_ _ | refine Fr.setCell (p := ⟨_, _, none⟩) ?_ (.inr (by simp)) _)⟩
  ·have i_ow : ¬ (ow : Int) = 0 := by omega
   have HV := hide (show RQ.frm ⟨cl, nu, ac, 2, rc, ve, 0, ow, .slice xo N xc, rs⟩ F = false by unfold RQ.frm; simp [z_ow])
   clear HFi
   go_enter Tryz.func23, Tryz.ntmps23
   go_wp2_with fail
   go_ret
   exact ⟨congrArg (fun b => Ending.returned (.bool b)) (unhide HV).symm, (by repeat first | exact Fr.refl _ _ | refine Fr.alloc ?_ _ | refine Fr.setCell (p := ⟨_, _, none⟩) ?_ (.inr (by simp)) _)⟩
 ·have i_wa : ¬ (wa : Int) = 0 := by omega
  have HV := hide (show RQ.frm ⟨cl, nu, ac, 2, rc, ve, wa, ow, .slice xo N xc, rs⟩ F = false by unfold RQ.frm; simp [z_wa])
  clear HFi
  go_enter Tryz.func23, Tryz.ntmps23
  go_wp2_with fail
  go_ret
  exact ⟨congrArg (fun b => Ending.returned (.bool b)) (unhide HV).symm, (by repeat first | exact Fr.refl _ _ | refine Fr.alloc ?_ _ | refine Fr.setCell (p := ⟨_, _, none⟩) ?_ (.inr (by simp)) _)⟩
set_option linter.unusedSimpArgs false in
set_option maxHeartbeats 1000000 in
set_option maxRecDepth 100000 in
theorem gformed_3 (cl nu ac rc ve wa ow : Nat) (xo : Option Addr) (xc : Nat) (rs : ByteArray) (F : List F5) (N : Nat) (w : World) (HFi : Hid (∀ gone W, Fr (fun _ => False) w W → Calls Tryz.prog 40 #[.slice xo N xc, .bool gone] W fun e w' => e = .returned (.bool (fdsB F gone)) ∧ Fr (fun _ => False) w w')) (hN : Hid (F.length = N)) (hnil : Hid (F.length = 0 → fdsB F false = true)) :
  Calls Tryz.prog 23 #[.agg #[.int .u32 (cl : Nat), .int .u32 (nu : Nat), .int .u32 (ac : Nat), .int .u8 3, .int .u32 (rc : Nat), .int .u32 (ve : Nat), .int .u32 (wa : Nat), .int .u32 (ow : Nat), .slice xo N xc, .string rs]] w fun e w' => e = .returned (.bool (RQ.frm ⟨cl, nu, ac, 3, rc, ve, wa, ow, .slice xo N xc, rs⟩ F)) ∧ Fr (fun _ => False) w w' := by
 by_cases z_wa : wa = 0
 ·subst z_wa
  by_cases z_ow : ow = 0
  ·subst z_ow
   by_cases z_N : N = 0
   ·subst z_N
    by_cases z_rs : rs.size = 0
    ·have i_rs : rs.toList.isEmpty = true := by rw [empty_toList]; simp [z_rs]
     have Z := hide z_rs
     clear z_rs
     have HV := hide (show RQ.frm ⟨cl, nu, ac, 3, rc, ve, 0, 0, .slice xo 0 xc, rs⟩ F = fdsB F false by unfold RQ.frm; simp [unhide hnil, unhide hN, unhide Z])
     go_enter Tryz.func23, Tryz.ntmps23
     go_wp2_with fail
     refine ((unhide HFi) false _ (by repeat first | exact Fr.refl _ _ | refine Fr.alloc ?_ _ | refine Fr.setCell (p := ⟨_, _, none⟩) ?_ (.inr (by simp)) _)).mono ?_
     rintro e w2 ⟨rfl, hf2⟩
     go_wp2_with fail
     go_ret
     exact ⟨congrArg (fun b => Ending.returned (.bool b)) (unhide HV).symm, hf2⟩
    ·have i_rs : rs.toList.isEmpty = false := by rw [empty_toList]; simp [z_rs]
     have HV := hide (show RQ.frm ⟨cl, nu, ac, 3, rc, ve, 0, 0, .slice xo 0 xc, rs⟩ F = false by unfold RQ.frm; simp [unhide hnil, unhide hN, z_rs])
     clear HFi
     go_enter Tryz.func23, Tryz.ntmps23
     go_wp2_with fail
     go_ret
     exact ⟨congrArg (fun b => Ending.returned (.bool b)) (unhide HV).symm, (by repeat first | exact Fr.refl _ _ | refine Fr.alloc ?_ _ | refine Fr.setCell (p := ⟨_, _, none⟩) ?_ (.inr (by simp)) _)⟩
   ·have i_N : ¬ (N : Int) = 0 := by omega
    have j_N : (0 : Int) < (N : Int) := by omega
    have HV := hide (show RQ.frm ⟨cl, nu, ac, 3, rc, ve, 0, 0, .slice xo N xc, rs⟩ F = false by unfold RQ.frm; simp [unhide hnil, unhide hN, z_N])
    clear HFi
    go_enter Tryz.func23, Tryz.ntmps23
    go_wp2_with fail
    go_ret
    exact ⟨congrArg (fun b => Ending.returned (.bool b)) (unhide HV).symm, (by repeat first | exact Fr.refl _ _ | refine Fr.alloc ?_ _ | refine Fr.setCell (p := ⟨_, _, none⟩) ?_ (.inr (by simp)) _)⟩
  ·have i_ow : ¬ (ow : Int) = 0 := by omega
   have HV := hide (show RQ.frm ⟨cl, nu, ac, 3, rc, ve, 0, ow, .slice xo N xc, rs⟩ F = false by unfold RQ.frm; simp [unhide hnil, unhide hN, z_ow])
   clear HFi
   go_enter Tryz.func23, Tryz.ntmps23
   go_wp2_with fail
   go_ret
   exact ⟨congrArg (fun b => Ending.returned (.bool b)) (unhide HV).symm, (by repeat first | exact Fr.refl _ _ | refine Fr.alloc ?_ _ | refine Fr.setCell (p := ⟨_, _, none⟩) ?_ (.inr (by simp)) _)⟩
 ·have i_wa : ¬ (wa : Int) = 0 := by omega
  have HV := hide (show RQ.frm ⟨cl, nu, ac, 3, rc, ve, wa, ow, .slice xo N xc, rs⟩ F = false by unfold RQ.frm; simp [unhide hnil, unhide hN, z_wa])
  clear HFi
  go_enter Tryz.func23, Tryz.ntmps23
  go_wp2_with fail
  go_ret
  exact ⟨congrArg (fun b => Ending.returned (.bool b)) (unhide HV).symm, (by repeat first | exact Fr.refl _ _ | refine Fr.alloc ?_ _ | refine Fr.setCell (p := ⟨_, _, none⟩) ?_ (.inr (by simp)) _)⟩
set_option linter.unusedSimpArgs false in
set_option maxHeartbeats 1000000 in
set_option maxRecDepth 100000 in
theorem gformed_4 (cl nu ac rc ve wa ow : Nat) (xo : Option Addr) (xc : Nat) (rs : ByteArray) (F : List F5) (N : Nat) (w : World) (HFi : Hid (∀ gone W, Fr (fun _ => False) w W → Calls Tryz.prog 40 #[.slice xo N xc, .bool gone] W fun e w' => e = .returned (.bool (fdsB F gone)) ∧ Fr (fun _ => False) w w')) (hN : Hid (F.length = N)) (hnil : Hid (F.length = 0 → fdsB F false = true)) :
  Calls Tryz.prog 23 #[.agg #[.int .u32 (cl : Nat), .int .u32 (nu : Nat), .int .u32 (ac : Nat), .int .u8 4, .int .u32 (rc : Nat), .int .u32 (ve : Nat), .int .u32 (wa : Nat), .int .u32 (ow : Nat), .slice xo N xc, .string rs]] w fun e w' => e = .returned (.bool (RQ.frm ⟨cl, nu, ac, 4, rc, ve, wa, ow, .slice xo N xc, rs⟩ F)) ∧ Fr (fun _ => False) w w' := by
 by_cases z_wa : wa = 0
 ·subst z_wa
  by_cases z_ow : ow = 0
  ·subst z_ow
   by_cases z_N : N = 0
   ·subst z_N
    by_cases z_rs : rs.size = 0
    ·have i_rs : rs.toList.isEmpty = true := by rw [empty_toList]; simp [z_rs]
     have Z := hide z_rs
     clear z_rs
     have HV := hide (show RQ.frm ⟨cl, nu, ac, 4, rc, ve, 0, 0, .slice xo 0 xc, rs⟩ F = fdsB F false by unfold RQ.frm; simp [unhide hnil, unhide hN, unhide Z])
     go_enter Tryz.func23, Tryz.ntmps23
     go_wp2_with fail
     refine ((unhide HFi) false _ (by repeat first | exact Fr.refl _ _ | refine Fr.alloc ?_ _ | refine Fr.setCell (p := ⟨_, _, none⟩) ?_ (.inr (by simp)) _)).mono ?_
     rintro e w2 ⟨rfl, hf2⟩
     go_wp2_with fail
     go_ret
     exact ⟨congrArg (fun b => Ending.returned (.bool b)) (unhide HV).symm, hf2⟩
    ·have i_rs : rs.toList.isEmpty = false := by rw [empty_toList]; simp [z_rs]
     have HV := hide (show RQ.frm ⟨cl, nu, ac, 4, rc, ve, 0, 0, .slice xo 0 xc, rs⟩ F = false by unfold RQ.frm; simp [unhide hnil, unhide hN, z_rs])
     clear HFi
     go_enter Tryz.func23, Tryz.ntmps23
     go_wp2_with fail
     go_ret
     exact ⟨congrArg (fun b => Ending.returned (.bool b)) (unhide HV).symm, (by repeat first | exact Fr.refl _ _ | refine Fr.alloc ?_ _ | refine Fr.setCell (p := ⟨_, _, none⟩) ?_ (.inr (by simp)) _)⟩
   ·have i_N : ¬ (N : Int) = 0 := by omega
    have j_N : (0 : Int) < (N : Int) := by omega
    have HV := hide (show RQ.frm ⟨cl, nu, ac, 4, rc, ve, 0, 0, .slice xo N xc, rs⟩ F = false by unfold RQ.frm; simp [unhide hnil, unhide hN, z_N])
    clear HFi
    go_enter Tryz.func23, Tryz.ntmps23
    go_wp2_with fail
    go_ret
    exact ⟨congrArg (fun b => Ending.returned (.bool b)) (unhide HV).symm, (by repeat first | exact Fr.refl _ _ | refine Fr.alloc ?_ _ | refine Fr.setCell (p := ⟨_, _, none⟩) ?_ (.inr (by simp)) _)⟩
  ·have i_ow : ¬ (ow : Int) = 0 := by omega
   have HV := hide (show RQ.frm ⟨cl, nu, ac, 4, rc, ve, 0, ow, .slice xo N xc, rs⟩ F = false by unfold RQ.frm; simp [unhide hnil, unhide hN, z_ow])
   clear HFi
   go_enter Tryz.func23, Tryz.ntmps23
   go_wp2_with fail
   go_ret
   exact ⟨congrArg (fun b => Ending.returned (.bool b)) (unhide HV).symm, (by repeat first | exact Fr.refl _ _ | refine Fr.alloc ?_ _ | refine Fr.setCell (p := ⟨_, _, none⟩) ?_ (.inr (by simp)) _)⟩
 ·have i_wa : ¬ (wa : Int) = 0 := by omega
  have HV := hide (show RQ.frm ⟨cl, nu, ac, 4, rc, ve, wa, ow, .slice xo N xc, rs⟩ F = false by unfold RQ.frm; simp [unhide hnil, unhide hN, z_wa])
  clear HFi
  go_enter Tryz.func23, Tryz.ntmps23
  go_wp2_with fail
  go_ret
  exact ⟨congrArg (fun b => Ending.returned (.bool b)) (unhide HV).symm, (by repeat first | exact Fr.refl _ _ | refine Fr.alloc ?_ _ | refine Fr.setCell (p := ⟨_, _, none⟩) ?_ (.inr (by simp)) _)⟩
set_option linter.unusedSimpArgs false in
set_option maxHeartbeats 1000000 in
set_option maxRecDepth 100000 in
theorem gformed_5 (cl nu ac rc ve wa ow : Nat) (xo : Option Addr) (xc : Nat) (rs : ByteArray) (F : List F5) (N : Nat) (w : World) (HFi : Hid (∀ gone W, Fr (fun _ => False) w W → Calls Tryz.prog 40 #[.slice xo N xc, .bool gone] W fun e w' => e = .returned (.bool (fdsB F gone)) ∧ Fr (fun _ => False) w w')) (hN : Hid (F.length = N)) (hnil : Hid (F.length = 0 → fdsB F false = true)) :
  Calls Tryz.prog 23 #[.agg #[.int .u32 (cl : Nat), .int .u32 (nu : Nat), .int .u32 (ac : Nat), .int .u8 5, .int .u32 (rc : Nat), .int .u32 (ve : Nat), .int .u32 (wa : Nat), .int .u32 (ow : Nat), .slice xo N xc, .string rs]] w fun e w' => e = .returned (.bool (RQ.frm ⟨cl, nu, ac, 5, rc, ve, wa, ow, .slice xo N xc, rs⟩ F)) ∧ Fr (fun _ => False) w w' := by
 by_cases z_ve : ve = 0
 ·subst z_ve
  by_cases z_wa : wa = 0
  ·subst z_wa
   by_cases z_ow : ow = 0
   ·subst z_ow
    by_cases z_N : N = 0
    ·subst z_N
     by_cases z_rs : rs.size = 0
     ·have i_rs : rs.toList.isEmpty = true := by rw [empty_toList]; simp [z_rs]
      have Z := hide z_rs
      clear z_rs
      have HV := hide (show RQ.frm ⟨cl, nu, ac, 5, rc, 0, 0, 0, .slice xo 0 xc, rs⟩ F = fdsB F false by unfold RQ.frm; simp [unhide hnil, unhide hN, unhide Z])
      go_enter Tryz.func23, Tryz.ntmps23
      go_wp2_with fail
      refine ((unhide HFi) false _ (by repeat first | exact Fr.refl _ _ | refine Fr.alloc ?_ _ | refine Fr.setCell (p := ⟨_, _, none⟩) ?_ (.inr (by simp)) _)).mono ?_
      rintro e w2 ⟨rfl, hf2⟩
      go_wp2_with fail
      go_ret
      exact ⟨congrArg (fun b => Ending.returned (.bool b)) (unhide HV).symm, hf2⟩
     ·have i_rs : rs.toList.isEmpty = false := by rw [empty_toList]; simp [z_rs]
      have HV := hide (show RQ.frm ⟨cl, nu, ac, 5, rc, 0, 0, 0, .slice xo 0 xc, rs⟩ F = false by unfold RQ.frm; simp [unhide hnil, unhide hN, z_rs])
      clear HFi
      go_enter Tryz.func23, Tryz.ntmps23
      go_wp2_with fail
      go_ret
      exact ⟨congrArg (fun b => Ending.returned (.bool b)) (unhide HV).symm, (by repeat first | exact Fr.refl _ _ | refine Fr.alloc ?_ _ | refine Fr.setCell (p := ⟨_, _, none⟩) ?_ (.inr (by simp)) _)⟩
    ·have i_N : ¬ (N : Int) = 0 := by omega
     have j_N : (0 : Int) < (N : Int) := by omega
     have HV := hide (show RQ.frm ⟨cl, nu, ac, 5, rc, 0, 0, 0, .slice xo N xc, rs⟩ F = false by unfold RQ.frm; simp [unhide hnil, unhide hN, z_N])
     clear HFi
     go_enter Tryz.func23, Tryz.ntmps23
     go_wp2_with fail
     go_ret
     exact ⟨congrArg (fun b => Ending.returned (.bool b)) (unhide HV).symm, (by repeat first | exact Fr.refl _ _ | refine Fr.alloc ?_ _ | refine Fr.setCell (p := ⟨_, _, none⟩) ?_ (.inr (by simp)) _)⟩
   ·have i_ow : ¬ (ow : Int) = 0 := by omega
    have HV := hide (show RQ.frm ⟨cl, nu, ac, 5, rc, 0, 0, ow, .slice xo N xc, rs⟩ F = false by unfold RQ.frm; simp [unhide hnil, unhide hN, z_ow])
    clear HFi
    go_enter Tryz.func23, Tryz.ntmps23
    go_wp2_with fail
    go_ret
    exact ⟨congrArg (fun b => Ending.returned (.bool b)) (unhide HV).symm, (by repeat first | exact Fr.refl _ _ | refine Fr.alloc ?_ _ | refine Fr.setCell (p := ⟨_, _, none⟩) ?_ (.inr (by simp)) _)⟩
  ·have i_wa : ¬ (wa : Int) = 0 := by omega
   have HV := hide (show RQ.frm ⟨cl, nu, ac, 5, rc, 0, wa, ow, .slice xo N xc, rs⟩ F = false by unfold RQ.frm; simp [unhide hnil, unhide hN, z_wa])
   clear HFi
   go_enter Tryz.func23, Tryz.ntmps23
   go_wp2_with fail
   go_ret
   exact ⟨congrArg (fun b => Ending.returned (.bool b)) (unhide HV).symm, (by repeat first | exact Fr.refl _ _ | refine Fr.alloc ?_ _ | refine Fr.setCell (p := ⟨_, _, none⟩) ?_ (.inr (by simp)) _)⟩
 ·have i_ve : ¬ (ve : Int) = 0 := by omega
  have HV := hide (show RQ.frm ⟨cl, nu, ac, 5, rc, ve, wa, ow, .slice xo N xc, rs⟩ F = false by unfold RQ.frm; simp [unhide hnil, unhide hN, z_ve])
  clear HFi
  go_enter Tryz.func23, Tryz.ntmps23
  go_wp2_with fail
  go_ret
  exact ⟨congrArg (fun b => Ending.returned (.bool b)) (unhide HV).symm, (by repeat first | exact Fr.refl _ _ | refine Fr.alloc ?_ _ | refine Fr.setCell (p := ⟨_, _, none⟩) ?_ (.inr (by simp)) _)⟩
set_option linter.unusedSimpArgs false in
set_option maxHeartbeats 1000000 in
set_option maxRecDepth 100000 in
theorem gformed_6 (cl nu ac rc ve wa ow : Nat) (xo : Option Addr) (xc : Nat) (rs : ByteArray) (F : List F5) (N : Nat) (w : World) (HFi : Hid (∀ gone W, Fr (fun _ => False) w W → Calls Tryz.prog 40 #[.slice xo N xc, .bool gone] W fun e w' => e = .returned (.bool (fdsB F gone)) ∧ Fr (fun _ => False) w w')) (hN : Hid (F.length = N)) (hnil : Hid (F.length = 0 → fdsB F false = true)) (hve : ve < 4294967296) :
  Calls Tryz.prog 23 #[.agg #[.int .u32 (cl : Nat), .int .u32 (nu : Nat), .int .u32 (ac : Nat), .int .u8 6, .int .u32 (rc : Nat), .int .u32 (ve : Nat), .int .u32 (wa : Nat), .int .u32 (ow : Nat), .slice xo N xc, .string rs]] w fun e w' => e = .returned (.bool (RQ.frm ⟨cl, nu, ac, 6, rc, ve, wa, ow, .slice xo N xc, rs⟩ F)) ∧ Fr (fun _ => False) w w' := by
 by_cases z_ve : ve ≤ 1
 ·have i_ve : (ve : Int) / 2 % 4294967296 = 0 := by omega
  have i_v2 : (ve : Int) / 2 = 0 := by omega
  by_cases z_wa : wa = 0
  ·subst z_wa
   by_cases z_ow : ow = 0
   ·subst z_ow
    by_cases z_N : N = 0
    ·subst z_N
     by_cases z_rs : rs.size = 0
     ·have i_rs : rs.toList.isEmpty = true := by rw [empty_toList]; simp [z_rs]
      have Z := hide z_rs
      clear z_rs
      have HV := hide (show RQ.frm ⟨cl, nu, ac, 6, rc, ve, 0, 0, .slice xo 0 xc, rs⟩ F = fdsB F false by unfold RQ.frm; simp [unhide hnil, unhide hN, z_ve, unhide Z])
      go_enter Tryz.func23, Tryz.ntmps23
      go_wp2_with fail
      refine ((unhide HFi) false _ (by repeat first | exact Fr.refl _ _ | refine Fr.alloc ?_ _ | refine Fr.setCell (p := ⟨_, _, none⟩) ?_ (.inr (by simp)) _)).mono ?_
      rintro e w2 ⟨rfl, hf2⟩
      go_wp2_with fail
      go_ret
      exact ⟨congrArg (fun b => Ending.returned (.bool b)) (unhide HV).symm, hf2⟩
     ·have i_rs : rs.toList.isEmpty = false := by rw [empty_toList]; simp [z_rs]
      have HV := hide (show RQ.frm ⟨cl, nu, ac, 6, rc, ve, 0, 0, .slice xo 0 xc, rs⟩ F = false by unfold RQ.frm; simp [unhide hnil, unhide hN, z_ve, z_rs])
      clear HFi
      go_enter Tryz.func23, Tryz.ntmps23
      go_wp2_with fail
      go_ret
      exact ⟨congrArg (fun b => Ending.returned (.bool b)) (unhide HV).symm, (by repeat first | exact Fr.refl _ _ | refine Fr.alloc ?_ _ | refine Fr.setCell (p := ⟨_, _, none⟩) ?_ (.inr (by simp)) _)⟩
    ·have i_N : ¬ (N : Int) = 0 := by omega
     have j_N : (0 : Int) < (N : Int) := by omega
     have HV := hide (show RQ.frm ⟨cl, nu, ac, 6, rc, ve, 0, 0, .slice xo N xc, rs⟩ F = false by unfold RQ.frm; simp [unhide hnil, unhide hN, z_ve, z_N])
     clear HFi
     go_enter Tryz.func23, Tryz.ntmps23
     go_wp2_with fail
     go_ret
     exact ⟨congrArg (fun b => Ending.returned (.bool b)) (unhide HV).symm, (by repeat first | exact Fr.refl _ _ | refine Fr.alloc ?_ _ | refine Fr.setCell (p := ⟨_, _, none⟩) ?_ (.inr (by simp)) _)⟩
   ·have i_ow : ¬ (ow : Int) = 0 := by omega
    have HV := hide (show RQ.frm ⟨cl, nu, ac, 6, rc, ve, 0, ow, .slice xo N xc, rs⟩ F = false by unfold RQ.frm; simp [unhide hnil, unhide hN, z_ve, z_ow])
    clear HFi
    go_enter Tryz.func23, Tryz.ntmps23
    go_wp2_with fail
    go_ret
    exact ⟨congrArg (fun b => Ending.returned (.bool b)) (unhide HV).symm, (by repeat first | exact Fr.refl _ _ | refine Fr.alloc ?_ _ | refine Fr.setCell (p := ⟨_, _, none⟩) ?_ (.inr (by simp)) _)⟩
  ·have i_wa : ¬ (wa : Int) = 0 := by omega
   have HV := hide (show RQ.frm ⟨cl, nu, ac, 6, rc, ve, wa, ow, .slice xo N xc, rs⟩ F = false by unfold RQ.frm; simp [unhide hnil, unhide hN, z_ve, z_wa])
   clear HFi
   go_enter Tryz.func23, Tryz.ntmps23
   go_wp2_with fail
   go_ret
   exact ⟨congrArg (fun b => Ending.returned (.bool b)) (unhide HV).symm, (by repeat first | exact Fr.refl _ _ | refine Fr.alloc ?_ _ | refine Fr.setCell (p := ⟨_, _, none⟩) ?_ (.inr (by simp)) _)⟩
 ·have i_ve : ¬ (ve : Int) / 2 % 4294967296 = 0 := by omega
  have HV := hide (show RQ.frm ⟨cl, nu, ac, 6, rc, ve, wa, ow, .slice xo N xc, rs⟩ F = false by unfold RQ.frm; simp [unhide hnil, unhide hN, z_ve])
  clear HFi
  go_enter Tryz.func23, Tryz.ntmps23
  go_wp2_with fail
  go_ret
  exact ⟨congrArg (fun b => Ending.returned (.bool b)) (unhide HV).symm, (by repeat first | exact Fr.refl _ _ | refine Fr.alloc ?_ _ | refine Fr.setCell (p := ⟨_, _, none⟩) ?_ (.inr (by simp)) _)⟩
set_option linter.unusedSimpArgs false in
set_option maxHeartbeats 1000000 in
set_option maxRecDepth 100000 in
theorem gformed_7 (cl nu ac rc ve wa ow : Nat) (xo : Option Addr) (xc : Nat) (rs : ByteArray) (F : List F5) (N : Nat) (w : World) (HFi : Hid (∀ gone W, Fr (fun _ => False) w W → Calls Tryz.prog 40 #[.slice xo N xc, .bool gone] W fun e w' => e = .returned (.bool (fdsB F gone)) ∧ Fr (fun _ => False) w w')) (hN : Hid (F.length = N)) (hnil : Hid (F.length = 0 → fdsB F false = true)) :
  Calls Tryz.prog 23 #[.agg #[.int .u32 (cl : Nat), .int .u32 (nu : Nat), .int .u32 (ac : Nat), .int .u8 7, .int .u32 (rc : Nat), .int .u32 (ve : Nat), .int .u32 (wa : Nat), .int .u32 (ow : Nat), .slice xo N xc, .string rs]] w fun e w' => e = .returned (.bool (RQ.frm ⟨cl, nu, ac, 7, rc, ve, wa, ow, .slice xo N xc, rs⟩ F)) ∧ Fr (fun _ => False) w w' := by
 by_cases z_rs : rs.size ≤ 64
 ·have i_rs : (rs.size : Int) ≤ 64 := by omega
  by_cases z_ve : ve = 0
  ·subst z_ve
   by_cases z_wa : wa = 0
   ·subst z_wa
    by_cases z_ow : ow = 0
    ·subst z_ow
     by_cases z_N : N = 0
     ·subst z_N
      have HV := hide (show RQ.frm ⟨cl, nu, ac, 7, rc, 0, 0, 0, .slice xo 0 xc, rs⟩ F = fdsB F false by unfold RQ.frm; simp [unhide hnil, unhide hN, z_rs])
      go_enter Tryz.func23, Tryz.ntmps23
      go_wp2_with fail
      refine ((unhide HFi) false _ (by repeat first | exact Fr.refl _ _ | refine Fr.alloc ?_ _ | refine Fr.setCell (p := ⟨_, _, none⟩) ?_ (.inr (by simp)) _)).mono ?_
      rintro e w2 ⟨rfl, hf2⟩
      go_wp2_with fail
      go_ret
      exact ⟨congrArg (fun b => Ending.returned (.bool b)) (unhide HV).symm, hf2⟩
     ·have i_N : ¬ (N : Int) = 0 := by omega
      have j_N : (0 : Int) < (N : Int) := by omega
      have HV := hide (show RQ.frm ⟨cl, nu, ac, 7, rc, 0, 0, 0, .slice xo N xc, rs⟩ F = false by unfold RQ.frm; simp [unhide hnil, unhide hN, z_rs, z_N])
      clear HFi
      go_enter Tryz.func23, Tryz.ntmps23
      go_wp2_with fail
      go_ret
      exact ⟨congrArg (fun b => Ending.returned (.bool b)) (unhide HV).symm, (by repeat first | exact Fr.refl _ _ | refine Fr.alloc ?_ _ | refine Fr.setCell (p := ⟨_, _, none⟩) ?_ (.inr (by simp)) _)⟩
    ·have i_ow : ¬ (ow : Int) = 0 := by omega
     have HV := hide (show RQ.frm ⟨cl, nu, ac, 7, rc, 0, 0, ow, .slice xo N xc, rs⟩ F = false by unfold RQ.frm; simp [unhide hnil, unhide hN, z_rs, z_ow])
     clear HFi
     go_enter Tryz.func23, Tryz.ntmps23
     go_wp2_with fail
     go_ret
     exact ⟨congrArg (fun b => Ending.returned (.bool b)) (unhide HV).symm, (by repeat first | exact Fr.refl _ _ | refine Fr.alloc ?_ _ | refine Fr.setCell (p := ⟨_, _, none⟩) ?_ (.inr (by simp)) _)⟩
   ·have i_wa : ¬ (wa : Int) = 0 := by omega
    have HV := hide (show RQ.frm ⟨cl, nu, ac, 7, rc, 0, wa, ow, .slice xo N xc, rs⟩ F = false by unfold RQ.frm; simp [unhide hnil, unhide hN, z_rs, z_wa])
    clear HFi
    go_enter Tryz.func23, Tryz.ntmps23
    go_wp2_with fail
    go_ret
    exact ⟨congrArg (fun b => Ending.returned (.bool b)) (unhide HV).symm, (by repeat first | exact Fr.refl _ _ | refine Fr.alloc ?_ _ | refine Fr.setCell (p := ⟨_, _, none⟩) ?_ (.inr (by simp)) _)⟩
  ·have i_ve : ¬ (ve : Int) = 0 := by omega
   have HV := hide (show RQ.frm ⟨cl, nu, ac, 7, rc, ve, wa, ow, .slice xo N xc, rs⟩ F = false by unfold RQ.frm; simp [unhide hnil, unhide hN, z_rs, z_ve])
   clear HFi
   go_enter Tryz.func23, Tryz.ntmps23
   go_wp2_with fail
   go_ret
   exact ⟨congrArg (fun b => Ending.returned (.bool b)) (unhide HV).symm, (by repeat first | exact Fr.refl _ _ | refine Fr.alloc ?_ _ | refine Fr.setCell (p := ⟨_, _, none⟩) ?_ (.inr (by simp)) _)⟩
 ·have i_rs : rs.toList.isEmpty = false := by rw [empty_toList, decide_eq_false (by omega)]
  have i_r2 : ¬ (rs.size : Int) ≤ 64 := by omega
  by_cases z_ve : ve = 0
  ·subst z_ve
   by_cases z_wa : wa = 0
   ·subst z_wa
    by_cases z_ow : ow = 0
    ·subst z_ow
     by_cases z_N : N = 0
     ·subst z_N
      have HV := hide (show RQ.frm ⟨cl, nu, ac, 7, rc, 0, 0, 0, .slice xo 0 xc, rs⟩ F = false by unfold RQ.frm; simp [unhide hnil, unhide hN, z_rs])
      clear HFi
      go_enter Tryz.func23, Tryz.ntmps23
      go_wp2_with fail
      go_ret
      exact ⟨congrArg (fun b => Ending.returned (.bool b)) (unhide HV).symm, (by repeat first | exact Fr.refl _ _ | refine Fr.alloc ?_ _ | refine Fr.setCell (p := ⟨_, _, none⟩) ?_ (.inr (by simp)) _)⟩
     ·have i_N : ¬ (N : Int) = 0 := by omega
      have j_N : (0 : Int) < (N : Int) := by omega
      have HV := hide (show RQ.frm ⟨cl, nu, ac, 7, rc, 0, 0, 0, .slice xo N xc, rs⟩ F = false by unfold RQ.frm; simp [unhide hnil, unhide hN, z_rs, z_N])
      clear HFi
      go_enter Tryz.func23, Tryz.ntmps23
      go_wp2_with fail
      go_ret
      exact ⟨congrArg (fun b => Ending.returned (.bool b)) (unhide HV).symm, (by repeat first | exact Fr.refl _ _ | refine Fr.alloc ?_ _ | refine Fr.setCell (p := ⟨_, _, none⟩) ?_ (.inr (by simp)) _)⟩
    ·have i_ow : ¬ (ow : Int) = 0 := by omega
     have HV := hide (show RQ.frm ⟨cl, nu, ac, 7, rc, 0, 0, ow, .slice xo N xc, rs⟩ F = false by unfold RQ.frm; simp [unhide hnil, unhide hN, z_rs, z_ow])
     clear HFi
     go_enter Tryz.func23, Tryz.ntmps23
     go_wp2_with fail
     go_ret
     exact ⟨congrArg (fun b => Ending.returned (.bool b)) (unhide HV).symm, (by repeat first | exact Fr.refl _ _ | refine Fr.alloc ?_ _ | refine Fr.setCell (p := ⟨_, _, none⟩) ?_ (.inr (by simp)) _)⟩
   ·have i_wa : ¬ (wa : Int) = 0 := by omega
    have HV := hide (show RQ.frm ⟨cl, nu, ac, 7, rc, 0, wa, ow, .slice xo N xc, rs⟩ F = false by unfold RQ.frm; simp [unhide hnil, unhide hN, z_rs, z_wa])
    clear HFi
    go_enter Tryz.func23, Tryz.ntmps23
    go_wp2_with fail
    go_ret
    exact ⟨congrArg (fun b => Ending.returned (.bool b)) (unhide HV).symm, (by repeat first | exact Fr.refl _ _ | refine Fr.alloc ?_ _ | refine Fr.setCell (p := ⟨_, _, none⟩) ?_ (.inr (by simp)) _)⟩
  ·have i_ve : ¬ (ve : Int) = 0 := by omega
   have HV := hide (show RQ.frm ⟨cl, nu, ac, 7, rc, ve, wa, ow, .slice xo N xc, rs⟩ F = false by unfold RQ.frm; simp [unhide hnil, unhide hN, z_rs, z_ve])
   clear HFi
   go_enter Tryz.func23, Tryz.ntmps23
   go_wp2_with fail
   go_ret
   exact ⟨congrArg (fun b => Ending.returned (.bool b)) (unhide HV).symm, (by repeat first | exact Fr.refl _ _ | refine Fr.alloc ?_ _ | refine Fr.setCell (p := ⟨_, _, none⟩) ?_ (.inr (by simp)) _)⟩
set_option maxHeartbeats 1000000 in
set_option maxRecDepth 100000 in
theorem gformed_no (cl nu ac op rc ve wa ow : Nat) (xo : Option Addr) (xn xc : Nat) (rs : ByteArray) (w : World) (h1 : ¬ op = 1) (h2 : ¬ op = 2) (h3 : ¬ op = 3) (h4 : ¬ op = 4) (h5 : ¬ op = 5) (h6 : ¬ op = 6) (h7 : ¬ op = 7) :
  Calls Tryz.prog 23 #[.agg #[.int .u32 (cl : Nat), .int .u32 (nu : Nat), .int .u32 (ac : Nat), .int .u8 (op : Nat), .int .u32 (rc : Nat), .int .u32 (ve : Nat), .int .u32 (wa : Nat), .int .u32 (ow : Nat), .slice xo xn xc, .string rs]] w fun e w' => e = .returned (.bool false) ∧ Fr (fun _ => False) w w' := by
 have i1 : ¬ (op : Int) = 1 := by omega
 have i2 : ¬ (op : Int) = 2 := by omega
 have i3 : ¬ (op : Int) = 3 := by omega
 have i4 : ¬ (op : Int) = 4 := by omega
 have i5 : ¬ (op : Int) = 5 := by omega
 have i6 : ¬ (op : Int) = 6 := by omega
 have i7 : ¬ (op : Int) = 7 := by omega
 clear h1 h2 h3 h4 h5 h6 h7
 go_enter Tryz.func23, Tryz.ntmps23
 go_wp2_with fail
 go_ret
 exact ⟨rfl, (by repeat first | exact Fr.refl _ _ | refine Fr.alloc ?_ _ | refine Fr.setCell (p := ⟨_, _, none⟩) ?_ (.inr (by simp)) _)⟩
theorem gformed_any (cl nu ac op rc ve wa ow : Nat) (x : Value) (rs : ByteArray) (F : List F5) (w : World) (hx : Fds w x F) (hl : F.length ≤ 140737488355328) (hv : ∀ f ∈ F, f.v < 4294967296 ∧ f.u < 256) (hve : ve < 4294967296) :
  Calls Tryz.prog 23 #[.agg #[.int .u32 (cl : Nat), .int .u32 (nu : Nat), .int .u32 (ac : Nat), .int .u8 (op : Nat), .int .u32 (rc : Nat), .int .u32 (ve : Nat), .int .u32 (wa : Nat), .int .u32 (ow : Nat), x, .string rs]] w fun e w' => e = .returned (.bool (RQ.frm ⟨cl, nu, ac, op, rc, ve, wa, ow, x, rs⟩ F)) ∧ Fr (fun _ => False) w w' := by
 have HFi : Hid (∀ gone W, Fr (fun _ => False) w W → Calls Tryz.prog 40 #[x, .bool gone] W fun e w' => e = .returned (.bool (fdsB F gone)) ∧ Fr (fun _ => False) w w') := fun gone W hW => (gfields_any x F gone W (hx.fr hW) hl hv).mono fun e w' h => ⟨h.1, hW.trans h.2 (fun _ _ h => h)⟩
 obtain ⟨xo, xc, rfl⟩ := hx.form
 have hnil : Hid (F.length = 0 → fdsB F false = true) := fun e => by
  obtain rfl := List.length_eq_zero_iff.1 e
  rfl
 by_cases h1 : op = 1
 ·subst h1; exact gformed_1 cl nu ac rc ve wa ow xo xc rs F F.length w HFi
 by_cases h2 : op = 2
 ·subst h2; exact gformed_2 cl nu ac rc ve wa ow xo xc rs F F.length w HFi
 by_cases h3 : op = 3
 ·subst h3; exact gformed_3 cl nu ac rc ve wa ow xo xc rs F F.length w HFi rfl hnil
 by_cases h4 : op = 4
 ·subst h4; exact gformed_4 cl nu ac rc ve wa ow xo xc rs F F.length w HFi rfl hnil
 by_cases h5 : op = 5
 ·subst h5; exact gformed_5 cl nu ac rc ve wa ow xo xc rs F F.length w HFi rfl hnil
 by_cases h6 : op = 6
 ·subst h6; exact gformed_6 cl nu ac rc ve wa ow xo xc rs F F.length w HFi rfl hnil hve
 by_cases h7 : op = 7
 ·subst h7; exact gformed_7 cl nu ac rc ve wa ow xo xc rs F F.length w HFi rfl hnil
 rw [show RQ.frm ⟨cl, nu, ac, op, rc, ve, wa, ow, .slice xo F.length xc, rs⟩ F = false by unfold RQ.frm; simp [h1, h2, h3, h4, h5, h6, h7]]
 exact gformed_no cl nu ac op rc ve wa ow xo _ xc rs w h1 h2 h3 h4 h5 h6 h7
def FLt (a b : F5) : Prop := Op.bytesLess a.n.toList b.n.toList = true
def Rise (l : List F5) : Prop := l.Pairwise FLt
theorem FLt.ne {a b : F5} (h : FLt a b) : ¬ a.n.toList = b.n.toList := fun e => by
 unfold FLt at h
 rw [e, bl_irr] at h
 cases h
theorem FLt.trans {a b c : F5} (h : FLt a b) (k : FLt b c) : FLt a c := bl_trans _ _ _ h k
theorem FLt.asym {a b : F5} (h : FLt a b) : ¬ FLt b a := fun k => by
 unfold FLt at h k
 rw [bl_asym _ _ h] at k
 cases k
theorem rise_ext : ∀ {l m : List F5}, Rise l → Rise m → (∀ x, x ∈ l ↔ x ∈ m) → l = m
 | [], [], _, _, _ => rfl
 | [], y :: m, _, _, h => by have := (h y).2 (by simp); cases this
 | x :: l, [], _, _, h => by have := (h x).1 (by simp); cases this
 | x :: l, y :: m, hl, hm, h => by
  obtain ⟨l1, l2⟩ := List.pairwise_cons.1 hl
  obtain ⟨m1, m2⟩ := List.pairwise_cons.1 hm
  have hxy : x = y := by
   rcases List.mem_cons.1 ((h x).1 (by simp)) with e | e
   ·exact e
   ·rcases List.mem_cons.1 ((h y).2 (by simp)) with e' | e'
    ·exact e'.symm
    ·exact absurd (m1 x e) (l1 y e').asym
  subst hxy
  rw [rise_ext l2 m2 (fun z => ?_)]
  have hz := h z
  simp only [List.mem_cons] at hz
  constructor
  ·intro hzl
   rcases hz.1 (.inr hzl) with rfl | e
   ·exact absurd (l1 z hzl) (fun k => k.asym k)
   ·exact e
  ·intro hzm
   rcases hz.2 (.inr hzm) with rfl | e
   ·exact absurd (m1 z hzm) (fun k => k.asym k)
   ·exact e
theorem Rise.kept {l : List F5} (h : Rise l) : Rise (keptF l) := List.Pairwise.filter _ h
theorem kept_mem {f : F5} {l : List F5} : f ∈ keptF l ↔ f ∈ l ∧ f.k ≠ 3 := by simp [keptF]
theorem fidx_none {l : List F5} {n : ByteArray} : fidx l n = none ↔ ∀ f ∈ l, ¬ f.n.toList = n.toList := by
 unfold fidx
 rw [List.findIdx?_eq_none_iff]
 simp
theorem mrg_mem2 {x : F5} : ∀ (n : Nat) (l m : List F5), Rise l → Rise m → l.length + m.length ≤ n → (x ∈ mrg n l m ↔ (x ∈ l ∧ fidx m x.n = none) ∨ (x ∈ m ∧ x.k ≠ 3))
 | 0, l, m, _, _, h => by
  obtain rfl := List.length_eq_zero_iff.1 (show l.length = 0 by omega)
  obtain rfl := List.length_eq_zero_iff.1 (show m.length = 0 by omega)
  simp [mrg, keptF]
 | n + 1, [], m, _, _, _ => by rw [mrg_l]; simp [kept_mem]
 | n + 1, f :: r, [], _, _, _ => by rw [mrg_r]; simp [fidx]
 | n + 1, f :: r, c :: s, hl, hm, hn => by
  obtain ⟨l1, l2⟩ := List.pairwise_cons.1 hl
  obtain ⟨m1, m2⟩ := List.pairwise_cons.1 hm
  simp only [List.length_cons] at hn
  unfold mrg
  by_cases hle : sleB f.n c.n = true
  ·rw [if_pos hle]
   by_cases he : f.n.toList = c.n.toList
   ·rw [if_pos (by simpa using he), List.mem_append, mrg_mem2 n r s l2 m2 (by omega), kept_mem, fidx_none, fidx_none]
    have hcr : ∀ y ∈ r, ¬ c.n.toList = y.n.toList := fun y hy e => (l1 y hy).ne (by rw [he, e])
    constructor
    ·rintro (⟨h1, h2⟩ | ⟨h1, h2⟩ | ⟨h1, h2⟩)
     ·rw [List.mem_singleton] at h1; subst h1; exact .inr ⟨by simp, h2⟩
     ·refine .inl ⟨by simp [h1], fun y hy => ?_⟩
      rcases List.mem_cons.1 hy with rfl | hy
      ·exact hcr x h1
      ·exact h2 y hy
     ·exact .inr ⟨by simp [h1], h2⟩
    ·rintro (⟨h1, h2⟩ | ⟨h1, h2⟩)
     ·rcases List.mem_cons.1 h1 with rfl | h1
      ·exact absurd he.symm (h2 c (by simp))
      ·exact .inr (.inl ⟨h1, fun y hy => h2 y (by simp [hy])⟩)
     ·rcases List.mem_cons.1 h1 with rfl | h1
      ·exact .inl ⟨by simp, h2⟩
      ·exact .inr (.inr ⟨h1, h2⟩)
   ·rw [if_neg (by simpa using he), List.mem_cons, mrg_mem2 n r (c :: s) l2 hm (by simp; omega), fidx_none]
    have hlt : FLt f c := by
     unfold sleB at hle
     rw [Bool.or_eq_true] at hle
     rcases hle with h | h
     ·exact h
     ·exact absurd (by simpa using h) he
    have hf : ∀ y ∈ c :: s, ¬ y.n.toList = f.n.toList := fun y hy e => by
     rcases List.mem_cons.1 hy with rfl | hy
     ·exact he e.symm
     ·exact (hlt.trans (m1 y hy)).ne e.symm
    constructor
    ·rintro (rfl | ⟨h1, h2⟩ | h1)
     ·exact .inl ⟨by simp, hf⟩
     ·exact .inl ⟨by simp [h1], h2⟩
     ·exact .inr h1
    ·rintro (⟨h1, h2⟩ | h1)
     ·rcases List.mem_cons.1 h1 with rfl | h1
      ·exact .inl rfl
      ·exact .inr (.inl ⟨h1, h2⟩)
     ·exact .inr (.inr h1)
  ·rw [if_neg hle, List.mem_append, mrg_mem2 n (f :: r) s hl m2 (by simp; omega), kept_mem, fidx_none, fidx_none]
   have hlt : FLt c f := by
    have : (!(sleB f.n c.n)) = true := by simpa using hle
    unfold sleB at this
    rw [bl_not] at this
    exact this
   have hcr : ∀ y ∈ f :: r, ¬ c.n.toList = y.n.toList := fun y hy e => by
    rcases List.mem_cons.1 hy with rfl | hy
    ·exact hlt.ne e
    ·exact (hlt.trans (l1 y hy)).ne e
   constructor
   ·rintro (⟨h1, h2⟩ | ⟨h1, h2⟩ | ⟨h1, h2⟩)
    ·rw [List.mem_singleton] at h1; subst h1; exact .inr ⟨by simp, h2⟩
    ·refine .inl ⟨h1, fun y hy => ?_⟩
     rcases List.mem_cons.1 hy with rfl | hy
     ·exact hcr x h1
     ·exact h2 y hy
    ·exact .inr ⟨by simp [h1], h2⟩
   ·rintro (⟨h1, h2⟩ | ⟨h1, h2⟩)
    ·exact .inr (.inl ⟨h1, fun y hy => h2 y (by simp [hy])⟩)
    ·rcases List.mem_cons.1 h1 with rfl | h1
     ·exact .inl ⟨by simp, h2⟩
     ·exact .inr (.inr ⟨h1, h2⟩)
theorem mrg_rise : ∀ (n : Nat) (l m : List F5), Rise l → Rise m → l.length + m.length ≤ n → Rise (mrg n l m)
 | 0, l, m, _, _, h => by
  obtain rfl := List.length_eq_zero_iff.1 (show l.length = 0 by omega)
  obtain rfl := List.length_eq_zero_iff.1 (show m.length = 0 by omega)
  exact List.Pairwise.nil
 | n + 1, [], m, _, hm, _ => by rw [mrg_l]; exact hm.kept
 | n + 1, f :: r, [], hl, _, _ => by rw [mrg_r]; exact hl
 | n + 1, f :: r, c :: s, hl, hm, hn => by
  obtain ⟨l1, l2⟩ := List.pairwise_cons.1 hl
  obtain ⟨m1, m2⟩ := List.pairwise_cons.1 hm
  simp only [List.length_cons] at hn
  have hk : ∀ {L : List F5}, Rise L → (∀ y ∈ L, FLt c y) → Rise (keptF [c] ++ L) := fun hL hy => by
   by_cases h3 : c.k = 3
   ·rw [show keptF [c] = [] by simp [keptF, h3]]; exact hL
   ·rw [show keptF [c] = [c] by simp [keptF, h3]]; exact List.pairwise_cons.2 ⟨hy, hL⟩
  unfold mrg
  by_cases hle : sleB f.n c.n = true
  ·rw [if_pos hle]
   by_cases he : f.n.toList = c.n.toList
   ·rw [if_pos (by simpa using he)]
    refine hk (mrg_rise n r s l2 m2 (by omega)) (fun y hy => ?_)
    rcases (mrg_mem2 n r s l2 m2 (by omega)).1 hy with ⟨h1, _⟩ | ⟨h1, _⟩
    ·have := l1 y h1
     unfold FLt at this ⊢
     rw [← he]; exact this
    ·exact m1 y h1
   ·rw [if_neg (by simpa using he)]
    have hlt : FLt f c := by
     unfold sleB at hle
     rw [Bool.or_eq_true] at hle
     rcases hle with h | h
     ·exact h
     ·exact absurd (by simpa using h) he
    refine List.pairwise_cons.2 ⟨fun y hy => ?_, mrg_rise n r (c :: s) l2 hm (by simp; omega)⟩
    rcases (mrg_mem2 n r (c :: s) l2 hm (by simp; omega)).1 hy with ⟨h1, _⟩ | ⟨h1, _⟩
    ·exact l1 y h1
    ·rcases List.mem_cons.1 h1 with rfl | h1
     ·exact hlt
     ·exact hlt.trans (m1 y h1)
  ·rw [if_neg hle]
   have hlt : FLt c f := by
    have : (!(sleB f.n c.n)) = true := by simpa using hle
    unfold sleB at this
    rw [bl_not] at this
    exact this
   refine hk (mrg_rise n (f :: r) s hl m2 (by simp; omega)) (fun y hy => ?_)
   rcases (mrg_mem2 n (f :: r) s hl m2 (by simp; omega)).1 hy with ⟨h1, _⟩ | ⟨h1, _⟩
   ·rcases List.mem_cons.1 h1 with rfl | h1
    ·exact hlt
    ·exact hlt.trans (l1 y h1)
   ·exact m1 y h1
def bub : Nat → List F5 → List F5
 | 0, L => L
 | k + 1, L => match L[k + 1]?, L[k]? with
  | some x, some y => if Op.bytesLess x.n.toList y.n.toList then bub k ((L.set (k + 1) y).set k x) else L
  | _, _ => L
def srtN : Nat → Nat → List F5 → List F5
 | 0, _, L => L
 | m + 1, i, L => srtN m (i + 1) (bub i L)
theorem bub_spec : ∀ (k : Nat) (A B : List F5) (x : F5), A.length = k → ∃ J, bub k (A ++ x :: B) = J ++ B ∧ J.Perm (A ++ [x]) ∧ (Rise A → (∀ y ∈ A, ¬ y.n.toList = x.n.toList) → Rise J)
 | 0, A, B, x, h => by
  obtain rfl := List.length_eq_zero_iff.1 h
  exact ⟨[x], rfl, List.Perm.refl _, fun _ _ => List.pairwise_singleton _ _⟩
 | k + 1, A, B, x, h => by
  obtain ⟨A', y, rfl⟩ : ∃ A' y, A = A' ++ [y] := by
   have hne : A ≠ [] := fun e => by rw [e] at h; simp at h
   exact ⟨A.dropLast, A.getLast hne, (List.dropLast_concat_getLast hne).symm⟩
  have hk : A'.length = k := by simpa using h
  have e1 : (A' ++ [y] ++ x :: B)[k + 1]? = some x := by
   rw [List.getElem?_append_right (by simp; omega)]
   simp [hk]
  have e2 : (A' ++ [y] ++ x :: B)[k]? = some y := by
   rw [List.getElem?_append_left (by simp; omega), List.getElem?_append_right (by omega)]
   simp [hk]
  unfold bub
  rw [e1, e2]
  simp only
  by_cases hlt : Op.bytesLess x.n.toList y.n.toList = true
  ·rw [if_pos hlt]
   have es : ((A' ++ [y] ++ x :: B).set (k + 1) y).set k x = A' ++ x :: (y :: B) := by
    rw [List.set_append_right _ _ (by simp; omega)]
    simp only [List.length_append, List.length_singleton, hk, Nat.sub_self, List.set_cons_zero]
    rw [List.append_assoc, List.set_append_right _ _ (by omega)]
    simp [hk]
   rw [es]
   obtain ⟨J, h1, h2, h3⟩ := bub_spec k A' (y :: B) x hk
   refine ⟨J ++ [y], by rw [h1]; simp, ?_, fun hr hn => ?_⟩
   ·refine (h2.append_right [y]).trans ?_
    simp only [List.append_assoc, List.singleton_append]
    exact List.Perm.append_left A' (List.Perm.swap y x [])
   ·obtain ⟨r1, r2, r3⟩ := List.pairwise_append.1 hr
    refine List.pairwise_append.2 ⟨h3 r1 (fun z hz => hn z (by simp [hz])), List.pairwise_singleton _ _, fun a ha b hb => ?_⟩
    rw [List.mem_singleton] at hb
    subst hb
    have := h2.mem_iff.1 ha
    rcases List.mem_append.1 this with h | h
    ·exact r3 a h b (by simp)
    ·rw [List.mem_singleton] at h
     subst h
     exact hlt
  ·rw [if_neg hlt]
   refine ⟨A' ++ [y] ++ [x], by simp, List.Perm.refl _, fun hr hn => ?_⟩
   refine List.pairwise_append.2 ⟨hr, List.pairwise_singleton _ _, fun a ha b hb => ?_⟩
   rw [List.mem_singleton] at hb
   subst hb
   have hyb : FLt y b := by
    rcases bl_tri y.n.toList b.n.toList with h | h | h
    ·exact h
    ·exact absurd h (hn y (by simp))
    ·exact absurd h hlt
   obtain ⟨r1, r2, r3⟩ := List.pairwise_append.1 hr
   rcases List.mem_append.1 ha with h | h
   ·exact (r3 a h y (by simp)).trans hyb
   ·rw [List.mem_singleton] at h
    subst h
    exact hyb
def Apart (l : List F5) : Prop := l.Pairwise fun a b => ¬ a.n.toList = b.n.toList
theorem srtN_spec : ∀ (m : Nat) (A B : List F5), B.length = m → Rise A → Apart (A ++ B) → ∃ J, srtN m A.length (A ++ B) = J ∧ J.Perm (A ++ B) ∧ Rise J
 | 0, A, B, h, hr, _ => by
  obtain rfl := List.length_eq_zero_iff.1 h
  exact ⟨A, by simp [srtN], by simp, hr⟩
 | m + 1, A, [], h, _, _ => by simp at h
 | m + 1, A, x :: B, h, hr, ha => by
  obtain ⟨J, h1, h2, h3⟩ := bub_spec A.length A B x rfl
  obtain ⟨a1, a2, a3⟩ := List.pairwise_append.1 ha
  have hJ := h3 hr (fun y hy => a3 y hy x (by simp))
  have hlen : J.length = A.length + 1 := by have := h2.length_eq; simpa using this
  have hap : Apart (J ++ B) := by
   have hp : (J ++ B).Perm (A ++ x :: B) := by
    refine (h2.append_right B).trans ?_
    simp
   refine (hp.pairwise_iff ?_).2 ha
   intro a b hab e
   exact hab e.symm
  obtain ⟨K, k1, k2, k3⟩ := srtN_spec m J B (by simpa using h) hJ hap
  refine ⟨K, ?_, k2.trans ((h2.append_right B).trans (by simp)), k3⟩
  unfold srtN
  rw [h1, ← hlen]
  exact k1
theorem Rise.apart {l : List F5} (h : Rise l) : Apart l := h.imp (fun h => h.ne)
def gmrg (l m : List F5) : List F5 := l.filter (fun f => (fidx m f.n).isNone) ++ keptF m
theorem gmrg_eq {l m : List F5} (hl : Rise l) (hm : Rise m) : srtN (gmrg l m).length 0 (gmrg l m) = mrg (l.length + m.length) l m := by
 have hap : Apart (gmrg l m) := by
  refine List.pairwise_append.2 ⟨(hl.apart).filter _, (hm.kept).apart, fun a ha b hb => ?_⟩
  have h1 := (List.mem_filter.1 ha).2
  rw [Option.isNone_iff_eq_none, fidx_none] at h1
  exact fun e => h1 b (kept_mem.1 hb).1 e.symm
 obtain ⟨J, h1, h2, h3⟩ := srtN_spec (gmrg l m).length [] (gmrg l m) rfl List.Pairwise.nil (by simpa using hap)
 simp only [List.length_nil, List.nil_append] at h1 h2
 rw [h1]
 refine rise_ext h3 (mrg_rise _ l m hl hm (Nat.le_refl _)) (fun x => ?_)
 rw [h2.mem_iff, mrg_mem2 _ l m hl hm (Nat.le_refl _)]
 unfold gmrg
 rw [List.mem_append, List.mem_filter, kept_mem, Option.isNone_iff_eq_none]
theorem sameU_symm (a b : Nat) : sameU a b = sameU b a := by
 unfold sameU
 rcases isU a <;> rcases isU b <;> simp [Bool.beq_comm]
theorem rem1_iff {F : List F5} (hF : Rise F) (f : F5) : rem1 F f = true ↔ ∃ g ∈ F, g.n.toList = f.n.toList ∧ f.k = 2 ∧ g.k = 2 ∧ sameU f.u g.u = false := by
 unfold rem1
 cases h : fidx F f.n with
 | none =>
  simp only [Bool.false_eq_true, false_iff]
  rintro ⟨g, hg, e, _⟩
  exact fidx_none.1 h g hg e
 | some j =>
  unfold fidx at h
  rw [List.findIdx?_eq_some_iff_getElem] at h
  obtain ⟨hj, he, _⟩ := h
  have hd : F.getD j fld0 = F[j] := by simp [List.getD, hj]
  simp only [hd]
  have he' : F[j].n.toList = f.n.toList := by simpa using he
  constructor
  ·intro h
   simp only [Bool.and_eq_true, decide_eq_true_eq, Bool.not_eq_true'] at h
   exact ⟨F[j], List.getElem_mem hj, he', h.1.1, h.1.2, h.2⟩
  ·rintro ⟨g, hg, e, h1, h2, h3⟩
   obtain ⟨i, hi, rfl⟩ := List.mem_iff_getElem.1 hg
   have hij : i = j := by
    rcases Nat.lt_trichotomy i j with h | h | h
    ·exact absurd (e.trans he'.symm) ((List.pairwise_iff_getElem.1 hF i j hi hj h).ne)
    ·exact h
    ·exact absurd (he'.trans e.symm) ((List.pairwise_iff_getElem.1 hF j i hj hi h).ne)
   subst hij
   simp [h1, h2, h3]
theorem remU_swap {F C : List F5} (hF : Rise F) (hC : Rise C) : remU F C = remU C F := by
 have h : ∀ {A B : List F5}, Rise A → Rise B → remU A B = true → remU B A = true := fun {A B} hA hB h => by
  unfold remU at h ⊢
  rw [List.any_eq_true] at h ⊢
  obtain ⟨f, hf, h⟩ := h
  obtain ⟨g, hg, e, h1, h2, h3⟩ := (rem1_iff hA f).1 h
  exact ⟨g, hg, (rem1_iff hB g).2 ⟨f, hf, e.symm, h2, h1, by rw [sameU_symm]; exact h3⟩⟩
 cases h1 : remU F C
 ·cases h2 : remU C F
  ·rfl
  ·rw [h hC hF h2] at h1; cases h1
 ·exact (h hF hC h1).symm
structure VRel (v u : VM) : Prop where
 a : u.au = v.au
 e : u.ev = v.ev
 r : u.rd = v.rd
 f : v.rd = false → u.F = v.F
 z : v.rd = true → v.F = []
structure CRel (c d : CM) : Prop where
 wa : d.wa = c.wa
 ow : d.ow = c.ow
 sl : d.sl = c.sl
 G : ∀ k, k ∈ d.G ↔ k ∈ c.G
 n : d.V.length = c.V.length
 V : ∀ (j : Nat) (v u : VM), c.V[j]? = some v → d.V[j]? = some u → VRel v u
structure MRel (s g : RM) : Prop where
 S : g.S = s.S
 n : g.C.length = s.C.length
 C : ∀ (i : Nat) (c d : CM), s.C[i]? = some c → g.C[i]? = some d → CRel c d
theorem VRel.self {v : VM} (h : v.rd = true → v.F = []) : VRel v v := ⟨rfl, rfl, rfl, fun _ => rfl, h⟩
theorem get_of_len {α β : Type} {l : List α} {m : List β} (h : m.length = l.length) {i : Nat} {x : α} (hx : l[i]? = some x) : ∃ y, m[i]? = some y :=
 ⟨_, List.getElem?_eq_getElem (by rw [h]; exact (List.getElem?_eq_some_iff.1 hx).1)⟩
theorem none_of_len {α β : Type} {l : List α} {m : List β} (h : m.length = l.length) {i : Nat} (hx : l[i]? = none) : m[i]? = none :=
 List.getElem?_eq_none (by rw [h]; exact List.getElem?_eq_none_iff.1 hx)
theorem CRel.app {c d : CM} (h : CRel c d) {v u : VM} (hv : VRel v u) : CRel ⟨c.wa, c.ow, c.sl, c.G, c.V ++ [v]⟩ ⟨d.wa, d.ow, d.sl, d.G, d.V ++ [u]⟩ := by
 refine ⟨h.wa, h.ow, h.sl, h.G, by simp [h.n], fun j v' u' h1 h2 => ?_⟩
 simp only at h1 h2
 rcases Nat.lt_trichotomy j c.V.length with hj | hj | hj
 ·rw [List.getElem?_append_left hj] at h1
  rw [List.getElem?_append_left (by rw [h.n]; exact hj)] at h2
  exact h.V j v' u' h1 h2
 ·rw [List.getElem?_append_right (by omega), hj, Nat.sub_self] at h1
  rw [List.getElem?_append_right (by rw [h.n]; omega), h.n, hj, Nat.sub_self] at h2
  simp at h1 h2
  subst h1 h2
  exact hv
 ·rw [List.getElem?_eq_none (by simp; omega)] at h1
  cases h1
theorem CRel.setV {c d : CM} (h : CRel c d) (k : Nat) {v u : VM} (hv : VRel v u) : CRel ⟨c.wa, c.ow, c.sl, c.G, c.V.set k v⟩ ⟨d.wa, d.ow, d.sl, d.G, d.V.set k u⟩ := by
 refine ⟨h.wa, h.ow, h.sl, h.G, by simp [h.n], fun j v' u' h1 h2 => ?_⟩
 simp only at h1 h2
 by_cases hkj : k = j
 ·subst hkj
  have hk : k < c.V.length := by
   have := (List.getElem?_eq_some_iff.1 h1).1
   simpa using this
  rw [List.getElem?_set_self hk] at h1
  rw [List.getElem?_set_self (by rw [h.n]; exact hk)] at h2
  cases h1
  cases h2
  exact hv
 ·rw [List.getElem?_set_ne hkj] at h1 h2
  exact h.V j v' u' h1 h2
theorem MRel.app {s g : RM} (h : MRel s g) {c d : CM} (hc : CRel c d) : MRel ⟨s.S, s.C ++ [c]⟩ ⟨g.S, g.C ++ [d]⟩ := by
 refine ⟨h.S, by simp [h.n], fun j c' d' h1 h2 => ?_⟩
 simp only at h1 h2
 rcases Nat.lt_trichotomy j s.C.length with hj | hj | hj
 ·rw [List.getElem?_append_left hj] at h1
  rw [List.getElem?_append_left (by rw [h.n]; exact hj)] at h2
  exact h.C j c' d' h1 h2
 ·rw [List.getElem?_append_right (by omega), hj, Nat.sub_self] at h1
  rw [List.getElem?_append_right (by rw [h.n]; omega), h.n, hj, Nat.sub_self] at h2
  simp at h1 h2
  subst h1 h2
  exact hc
 ·rw [List.getElem?_eq_none (by simp; omega)] at h1
  cases h1
theorem MRel.set {s g : RM} (h : MRel s g) (k : Nat) {c d : CM} (hc : CRel c d) : MRel ⟨s.S, s.C.set k c⟩ ⟨g.S, g.C.set k d⟩ := by
 refine ⟨h.S, by simp [h.n], fun j c' d' h1 h2 => ?_⟩
 simp only at h1 h2
 by_cases hkj : k = j
 ·subst hkj
  have hk : k < s.C.length := by
   have := (List.getElem?_eq_some_iff.1 h1).1
   simpa using this
  rw [List.getElem?_set_self hk] at h1
  rw [List.getElem?_set_self (by rw [h.n]; exact hk)] at h2
  cases h1
  cases h2
  exact hc
 ·rw [List.getElem?_set_ne hkj] at h1 h2
  exact h.C j c' d' h1 h2
def CM.gnow (c : CM) : List F5 := match c.V[c.V.length - 1]? with
 | some v => if v.rd then [] else v.F
 | none => []
def CM.gnew (c : CM) (F : List F5) : List F5 := srtN (gmrg c.gnow F).length 0 (gmrg c.gnow F)
def VM.gsum (v : VM) : SM := ⟨v.au, v.ev, (if v.rd then 0 else v.F.length), v.rd⟩
def RM.gamend (s : RM) (r : RQ) (c : CM) (F : List F5) (pl : Nat) : RM × RA :=
 if amCode s.S r.ac c F ≠ 0 then (s, RA.no (amCode s.S r.ac c F))
 else if r.ve = 0 ∨ c.V.length < r.ve then (s, RA.no 4)
 else if r.ve ≠ c.V.length then (s, RA.no 7)
 else if c.V.length = 64 ∨ 32 < (c.gnew F).length then (s, RA.no 9)
 else if remU F c.gnow = true then (s, RA.no 10)
 else (⟨s.S, s.C.set (r.rc - 1) ⟨c.wa, c.ow, c.sl, c.G, c.V ++ [⟨r.ac, pl, c.gnew F, false⟩]⟩⟩, ⟨0, r.rc, c.V.length + 1, [], []⟩)
def RM.gredact (s : RM) (r : RQ) (c : CM) : RM × RA :=
 if reCode s.S r.ac c ≠ 0 then (s, RA.no (reCode s.S r.ac c))
 else if r.ve = 0 then (s, RA.no 4)
 else match c.V[r.ve - 1]? with
  | none => (s, RA.no 4)
  | some v => if v.rd then (s, RA.no 8) else (⟨s.S, s.C.set (r.rc - 1) ⟨c.wa, c.ow, c.sl, c.G, c.V.set (r.ve - 1) ⟨v.au, v.ev, v.F, true⟩⟩⟩, ⟨0, r.rc, r.ve, [], []⟩)
def RM.ghistory (s : RM) (r : RQ) (c : CM) : RM × RA :=
 if hiCode s.S r.ac c ≠ 0 then (s, RA.no (hiCode s.S r.ac c)) else (s, ⟨0, r.rc, c.V.length, [], c.V.map VM.gsum⟩)
def RM.gbreak (s : RM) (r : RQ) (c : CM) : RM × RA :=
 if brCode s.S r.ac c r.rs ≠ 0 then (s, RA.no (brCode s.S r.ac c r.rs))
 else (⟨s.S, s.C.set (r.rc - 1) ⟨c.wa, c.ow, c.sl, r.ac :: c.G, c.V⟩⟩, ⟨0, r.rc, 0, [], []⟩)
def RM.gop (s : RM) (r : RQ) (c : CM) (F : List F5) (pl : Nat) : RM × RA :=
 if r.op = 2 then s.gamend r c F pl else if r.op = 3 then s.read r c else if r.op = 4 then s.gredact r c else if r.op = 5 then s.ghistory r c else if r.op = 6 then s.seal r c else s.gbreak r c
def RM.gstep (s : RM) (r : RQ) (F : List F5) (pl : Nat) : RM × RA :=
 if r.frm F = false then (s, RA.no 2)
 else if (perso s.S r.ac).isSome = false then (s, RA.no 1)
 else if r.op = 1 then s.create r F pl
 else if r.rc = 0 then (s, RA.no 3)
 else match s.C[r.rc - 1]? with
  | none => (s, RA.no 3)
  | some c => s.gop r c F pl
structure RM.Srt (s : RM) : Prop where
 r : ∀ c ∈ s.C, ∀ v ∈ c.V, Rise v.F
theorem risB_rise {gone : Bool} : ∀ {l : List F5} {a : ByteArray}, risB gone a l = true → (∀ f ∈ l, Op.bytesLess a.toList f.n.toList = true) ∧ Rise l
 | [], _, _ => ⟨fun f hf => (by cases hf), List.Pairwise.nil⟩
 | x :: r, a, h => by
  simp only [risB, Bool.and_eq_true] at h
  obtain ⟨⟨⟨h1, _⟩, _⟩, h2⟩ := h
  unfold sleB at h1
  rw [bl_not] at h1
  obtain ⟨h3, h4⟩ := risB_rise h2
  refine ⟨fun f hf => ?_, List.pairwise_cons.2 ⟨h3, h4⟩⟩
  rcases List.mem_cons.1 hf with rfl | hf
  ·exact h1
  ·exact bl_trans _ _ _ h1 (h3 f hf)
theorem frm_rise {r : RQ} {l : List F5} (h : r.frm l = true) : Rise l := by
 have h0 : l.length = 0 → Rise l := fun e => by
  obtain rfl := List.length_eq_zero_iff.1 e
  exact List.Pairwise.nil
 have hd : ∀ g, fdsB l g = true → Rise l := fun g e => by
  simp only [fdsB, Bool.and_eq_true] at e
  exact (risB_rise e.2).2
 unfold RQ.frm at h
 split at h
 ·rw [Bool.and_eq_true] at h; exact hd _ h.2
 split at h
 ·rw [Bool.and_eq_true] at h; exact hd _ h.2
 split at h
 ·exact h0 (of_decide_eq_true h).2.2.1
 split at h
 ·exact h0 (of_decide_eq_true h).2.2.1
 split at h
 ·exact h0 (of_decide_eq_true h).2.2.2.1
 split at h
 ·exact h0 (of_decide_eq_true h).2.2.1
 split at h
 ·exact h0 (of_decide_eq_true h).2.2.2.1
 cases h
theorem RM.Srt.now {s : RM} (h : s.Srt) {c : CM} (hc : c ∈ s.C) : Rise c.now := by
 unfold CM.now
 rcases e : c.V[c.V.length - 1]? with _ | v
 ·exact List.Pairwise.nil
 ·exact h.r c hc v (List.mem_of_getElem? e)
theorem RM.Srt.set {s : RM} (h : s.Srt) (i : Nat) {c : CM} (hc : ∀ v ∈ c.V, Rise v.F) : RM.Srt ⟨s.S, s.C.set i c⟩ :=
 ⟨fun d hd => by
  rcases List.mem_or_eq_of_mem_set hd with hd | rfl
  ·exact h.r d hd
  ·exact hc⟩
theorem qm_same {c d : CM} (h : CRel c d) (p : P3) (rs : ByteArray) : qm p d rs = qm p c rs := by unfold qm; rw [h.wa, h.ow, h.sl]
theorem rdF_same {c d : CM} (h : CRel c d) (q : QM) : rdF q d.G = rdF q c.G := by unfold rdF; rw [decide_eq_decide.2 (h.G q.p.a)]
theorem rd_same {S : List P3} {k : Nat} {c d : CM} (h : CRel c d) : rdCode S k d = rdCode S k c :=
 congrArg (ansv S k) (funext fun p => by rw [qm_same h, rdF_same h])
theorem hi_same {S : List P3} {k : Nat} {c d : CM} (h : CRel c d) : hiCode S k d = hiCode S k c :=
 congrArg (ansv S k) (funext fun p => by unfold hiF; rw [qm_same h, rdF_same h])
theorem re_same {S : List P3} {k : Nat} {c d : CM} (h : CRel c d) : reCode S k d = reCode S k c :=
 congrArg (ansv S k) (funext fun p => by rw [qm_same h])
theorem se_same {S : List P3} {k : Nat} {c d : CM} (h : CRel c d) : seCode S k d = seCode S k c :=
 congrArg (ansv S k) (funext fun p => by rw [qm_same h])
theorem am_same {S : List P3} {k : Nat} {c d : CM} (F : List F5) (h : CRel c d) : amCode S k d F = amCode S k c F :=
 congrArg (ansv S k) (funext fun p => by unfold amF whyAm; rw [qm_same h, rdF_same h])
theorem br_same {S : List P3} {k : Nat} {c d : CM} (rs : ByteArray) (h : CRel c d) : brCode S k d rs = brCode S k c rs :=
 congrArg (ansv S k) (funext fun p => by rw [qm_same h])
theorem now_same {c d : CM} (h : CRel c d) : d.gnow = c.now := by
 unfold CM.gnow CM.now
 rw [h.n]
 cases e : c.V[c.V.length - 1]? with
 | none => rw [none_of_len h.n e]; rfl
 | some v =>
  obtain ⟨u, hu⟩ := get_of_len h.n e
  have hv := h.V _ v u e hu
  rw [hu]
  simp only [Option.map_some, Option.getD_some]
  rw [hv.r]
  cases hr : v.rd
  ·exact hv.f hr
  ·exact (hv.z hr).symm
theorem sum_same {v u : VM} (h : VRel v u) : u.gsum = v.sum := by
 unfold VM.gsum VM.sum
 rw [h.a, h.e, h.r]
 cases hr : v.rd
 ·rw [if_neg (by simp), h.f hr]
 ·rw [if_pos rfl, h.z hr]; rfl
theorem hist_same {c d : CM} (h : CRel c d) : d.V.map VM.gsum = c.V.map VM.sum := by
 apply List.ext_getElem?
 intro i
 rw [List.getElem?_map, List.getElem?_map]
 cases e : c.V[i]? with
 | none => rw [none_of_len h.n e]; rfl
 | some v =>
  obtain ⟨u, hu⟩ := get_of_len h.n e
  rw [hu]
  simp only [Option.map_some]
  rw [sum_same (h.V _ v u e hu)]
theorem gstep_rel {s g : RM} (h : MRel s g) (ho : s.Ok) (hs : s.Srt) (r : RQ) (F : List F5) (pl : Nat) : (g.gstep r F pl).2 = (s.step r F pl).2 ∧ MRel (s.step r F pl).1 (g.gstep r F pl).1 ∧ (s.step r F pl).1.Srt := by
 unfold RM.gstep RM.step
 by_cases h1 : r.frm F = false
 ·rw [if_pos h1, if_pos h1]; exact ⟨rfl, h, hs⟩
 rw [if_neg h1, if_neg h1, h.S]
 have hF : Rise F := frm_rise (by simpa using h1)
 by_cases h2 : (perso s.S r.ac).isSome = false
 ·rw [if_pos h2, if_pos h2]; exact ⟨rfl, h, hs⟩
 rw [if_neg h2, if_neg h2]
 by_cases h3 : r.op = 1
 ·rw [if_pos h3, if_pos h3]
  unfold RM.create
  rw [h.S, h.n]
  by_cases a1 : crCode s.S r.ac r.wa r.ow ≠ 0
  ·rw [if_pos a1, if_pos a1]; exact ⟨rfl, h, hs⟩
  rw [if_neg a1, if_neg a1]
  by_cases a2 : 256 ≤ s.C.length
  ·rw [if_pos a2, if_pos a2]; exact ⟨rfl, h, hs⟩
  rw [if_neg a2, if_neg a2]
  refine ⟨rfl, ?_, ⟨fun c hc => ?_⟩⟩
  ·have := h.app (c := ⟨r.wa, r.ow, false, [], [⟨r.ac, pl, F, false⟩]⟩) (d := ⟨r.wa, r.ow, false, [], [⟨r.ac, pl, F, false⟩]⟩) ⟨rfl, rfl, rfl, fun _ => Iff.rfl, rfl, fun j v u hv hu => by rw [hv] at hu; cases hu; refine VRel.self (fun e => ?_); have := List.mem_of_getElem? hv; rw [List.mem_singleton] at this; subst this; cases e⟩
   rw [h.S] at this
   exact this
  ·rcases List.mem_append.1 hc with hc | hc
   ·exact hs.r c hc
   ·rw [List.mem_singleton] at hc
    subst hc
    intro v hv
    rw [List.mem_singleton] at hv
    subst hv
    exact hF
 rw [if_neg h3, if_neg h3]
 by_cases h4 : r.rc = 0
 ·rw [if_pos h4, if_pos h4]; exact ⟨rfl, h, hs⟩
 rw [if_neg h4, if_neg h4]
 cases hc : s.C[r.rc - 1]? with
 | none => rw [none_of_len h.n hc]; exact ⟨rfl, h, hs⟩
 | some c =>
  obtain ⟨d, hd⟩ := get_of_len h.n hc
  have hr := h.C _ c d hc hd
  have hm : c ∈ s.C := List.mem_of_getElem? hc
  rw [hd]
  simp only
  unfold RM.gop RM.op
  by_cases o2 : r.op = 2
  ·rw [if_pos o2, if_pos o2]
   unfold RM.gamend RM.amend
   have hnow := now_same hr
   have hmg : d.gnew F = c.mrg F := by
    unfold CM.gnew CM.mrg
    rw [hnow]
    exact gmrg_eq (hs.now hm) hF
   rw [h.S, am_same F hr, hr.n, hmg, hnow, remU_swap hF (hs.now hm)]
   by_cases a1 : amCode s.S r.ac c F ≠ 0
   ·rw [if_pos a1, if_pos a1]; exact ⟨rfl, h, hs⟩
   rw [if_neg a1, if_neg a1]
   by_cases a2 : r.ve = 0 ∨ c.V.length < r.ve
   ·rw [if_pos a2, if_pos a2]; exact ⟨rfl, h, hs⟩
   rw [if_neg a2, if_neg a2]
   by_cases a3 : r.ve ≠ c.V.length
   ·rw [if_pos a3, if_pos a3]; exact ⟨rfl, h, hs⟩
   rw [if_neg a3, if_neg a3]
   have hv64 := (ho.c c hm).V
   by_cases a4 : 64 ≤ c.V.length ∨ 32 < (c.mrg F).length
   ·rw [if_pos a4, if_pos (by omega)]; exact ⟨rfl, h, hs⟩
   rw [if_neg a4, if_neg (by omega)]
   by_cases a5 : remU c.now F = true
   ·rw [if_pos a5, if_pos a5]; exact ⟨rfl, h, hs⟩
   rw [if_neg a5, if_neg a5]
   refine ⟨rfl, ?_, ?_⟩
   ·have := h.set (r.rc - 1) (hr.app (VRel.self (v := ⟨r.ac, pl, c.mrg F, false⟩) (fun e => by cases e)))
    rw [h.S] at this
    exact this
   ·refine hs.set _ (fun v hv => ?_)
    rcases List.mem_append.1 hv with hv | hv
    ·exact hs.r c hm v hv
    ·rw [List.mem_singleton] at hv
     subst hv
     exact mrg_rise _ _ _ (hs.now hm) hF (Nat.le_refl _)
  rw [if_neg o2, if_neg o2]
  by_cases o3 : r.op = 3
  ·rw [if_pos o3, if_pos o3]
   unfold RM.read
   have hvn : r.vn d = r.vn c := by unfold RQ.vn; rw [hr.n]
   rw [h.S, rd_same hr, hvn]
   by_cases a1 : rdCode s.S r.ac c ≠ 0
   ·rw [if_pos a1, if_pos a1]; exact ⟨rfl, h, hs⟩
   rw [if_neg a1, if_neg a1]
   by_cases a2 : r.vn c = 0
   ·rw [if_pos a2, if_pos a2]; exact ⟨rfl, h, hs⟩
   rw [if_neg a2, if_neg a2]
   cases hv : c.V[r.vn c - 1]? with
   | none => rw [none_of_len hr.n hv]; exact ⟨rfl, h, hs⟩
   | some v =>
    obtain ⟨u, hu⟩ := get_of_len hr.n hv
    have hvr := hr.V _ v u hv hu
    rw [hu]
    simp only
    rw [hvr.r]
    by_cases a3 : v.rd = true
    ·rw [if_pos a3, if_pos a3]; exact ⟨rfl, h, hs⟩
    rw [if_neg a3, if_neg a3, hvr.f (by simpa using a3)]
    exact ⟨rfl, h, hs⟩
  rw [if_neg o3, if_neg o3]
  by_cases o4 : r.op = 4
  ·rw [if_pos o4, if_pos o4]
   unfold RM.gredact RM.redact
   rw [h.S, re_same hr]
   by_cases a1 : reCode s.S r.ac c ≠ 0
   ·rw [if_pos a1, if_pos a1]; exact ⟨rfl, h, hs⟩
   rw [if_neg a1, if_neg a1]
   by_cases a2 : r.ve = 0
   ·rw [if_pos a2, if_pos a2]; exact ⟨rfl, h, hs⟩
   rw [if_neg a2, if_neg a2]
   cases hv : c.V[r.ve - 1]? with
   | none => rw [none_of_len hr.n hv]; exact ⟨rfl, h, hs⟩
   | some v =>
    obtain ⟨u, hu⟩ := get_of_len hr.n hv
    have hvr := hr.V _ v u hv hu
    rw [hu]
    simp only
    rw [hvr.r]
    by_cases a3 : v.rd = true
    ·rw [if_pos a3, if_pos a3]; exact ⟨rfl, h, hs⟩
    rw [if_neg a3, if_neg a3]
    refine ⟨rfl, ?_, hs.set _ (fun v' hv' => ?_)⟩
    ·have := h.set (r.rc - 1) (hr.setV (r.ve - 1) (v := ⟨v.au, v.ev, [], true⟩) (u := ⟨u.au, u.ev, u.F, true⟩) ⟨hvr.a, hvr.e, rfl, fun e => (by cases e), fun _ => rfl⟩)
     rw [h.S] at this
     exact this
    ·rcases List.mem_or_eq_of_mem_set hv' with hv' | rfl
     ·exact hs.r c hm v' hv'
     ·exact List.Pairwise.nil
  rw [if_neg o4, if_neg o4]
  by_cases o5 : r.op = 5
  ·rw [if_pos o5, if_pos o5]
   unfold RM.ghistory RM.history
   rw [h.S, hi_same hr, hr.n, hist_same hr]
   by_cases a1 : hiCode s.S r.ac c ≠ 0
   ·rw [if_pos a1, if_pos a1]; exact ⟨rfl, h, hs⟩
   rw [if_neg a1, if_neg a1]
   exact ⟨rfl, h, hs⟩
  rw [if_neg o5, if_neg o5]
  by_cases o6 : r.op = 6
  ·rw [if_pos o6, if_pos o6]
   unfold RM.seal
   rw [h.S, se_same hr]
   by_cases a1 : seCode s.S r.ac c ≠ 0
   ·rw [if_pos a1, if_pos a1]; exact ⟨rfl, h, hs⟩
   rw [if_neg a1, if_neg a1]
   refine ⟨rfl, ?_, hs.set _ (fun v hv => hs.r c hm v hv)⟩
   have := h.set (r.rc - 1) (c := ⟨c.wa, c.ow, decide (r.ve = 1), [], c.V⟩) (d := ⟨d.wa, d.ow, decide (r.ve = 1), [], d.V⟩) ⟨hr.wa, hr.ow, rfl, fun _ => Iff.rfl, hr.n, hr.V⟩
   rw [h.S] at this
   exact this
  rw [if_neg o6, if_neg o6]
  unfold RM.gbreak RM.break
  rw [h.S, br_same r.rs hr]
  by_cases a1 : brCode s.S r.ac c r.rs ≠ 0
  ·rw [if_pos a1, if_pos a1]; exact ⟨rfl, h, hs⟩
  rw [if_neg a1, if_neg a1]
  refine ⟨rfl, ?_, hs.set _ (fun v hv => hs.r c hm v hv)⟩
  have := h.set (r.rc - 1) (c := ⟨c.wa, c.ow, c.sl, insN r.ac c.G, c.V⟩) (d := ⟨d.wa, d.ow, d.sl, r.ac :: d.G, d.V⟩) ⟨hr.wa, hr.ow, hr.sl, fun k => by simp only [List.mem_cons, insN_mem, hr.G], hr.n, hr.V⟩
  rw [h.S] at this
  exact this
end Go.Proofs.YtiknjghcjaaenaaGreatDoor
