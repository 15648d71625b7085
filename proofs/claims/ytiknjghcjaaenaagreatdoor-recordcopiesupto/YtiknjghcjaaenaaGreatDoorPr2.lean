import Derived.Test.YtiknjghcjaaenaaGreatDoorPr1
import Derived.Laws.IdiomCopy
import Derived.Test.YtiknjghcjaaenaaGreatDoorKObh
import Derived.Lib.AppendZerosOnto
import Derived.Lib.Overlaps
import Derived.Deep.RegionLaw
namespace Go.Proofs.YtiknjghcjaaenaaGreatDoor
open Go.RowKit Go.Shelf
theorem own_us {w : World} {base : Nat} {v : Value} {l : List Nat} (h : w.ownsRow base 31 1 v l.length (ncells l)) : Us w v l := by
 rcases Nat.eq_zero_or_pos l.length with h0 | h0
 ·obtain rfl := List.length_eq_zero_iff.1 h0
  obtain ⟨ao, cap, rfl⟩ := own_formX h
  exact .inl ⟨ao, cap, rfl, rfl⟩
 ·obtain ⟨g, cap, rfl, _, _⟩ := h.form h0
  refine .inr ⟨g, 0, cap, rfl, fun j hj => ?_⟩
  rw [Nat.zero_add, h.cellAt j (by omega)]
  simp [ncells, hj]
def qm (p : P3) (c : CM) (rs : ByteArray) : QM := ⟨.slice none 0 0, p, c.wa, c.ow, c.sl, .slice none 0 0, .slice none 0 0, rs⟩
def rdCode (S : List P3) (ac : Nat) (c : CM) : Nat := ansv S ac fun p => if rdF (qm p c ByteArray.empty) c.G then 0 else whyRd (qm p c ByteArray.empty)
def hiCode (S : List P3) (ac : Nat) (c : CM) : Nat := ansv S ac fun p => if hiF (qm p c ByteArray.empty) c.G then 0 else whyRd (qm p c ByteArray.empty)
def reCode (S : List P3) (ac : Nat) (c : CM) : Nat := ansv S ac fun p => if reF (qm p c ByteArray.empty) then 0 else 5
def seCode (S : List P3) (ac : Nat) (c : CM) : Nat := ansv S ac fun p => if seF (qm p c ByteArray.empty) then 0 else 5
def amCode (S : List P3) (ac : Nat) (c : CM) (F : List F5) : Nat := ansv S ac fun p => if amF (qm p c ByteArray.empty) c.G F then 0 else whyAm (qm p c ByteArray.empty) c.G
def brCode (S : List P3) (ac : Nat) (c : CM) (rs : ByteArray) : Nat := ansv S ac fun p => if brF (qm p c rs) then 0 else 5
theorem cput {q : RW} {C : List CM} {i : Nat} {c c' : CM} (hc : C[i]? = some c) (hw : c'.wa = c.wa) (ho : c'.ow = c.ow) (g v : Value) (f : Nat → Value) : ccells (q.put i g v f) 0 (C.set i c') = (((ccells q 0 C).set (i * 5 + 2) (.bool c'.sl)).set (i * 5 + 3) g).set (i * 5 + 4) v := by
 have hi : i < C.length := (List.getElem?_eq_some_iff.1 hc).1
 obtain ⟨h0, h1, h2, h3, h4⟩ := ccells_at q C 0 i c hc
 have e := ccells_put q g v f c' C 0 i hi
 rw [Nat.zero_add] at e
 rw [e, hw, ho, set_id h0, set_id h1]
theorem cput_sg {q : RW} {C : List CM} {i : Nat} {c c' : CM} (hc : C[i]? = some c) (hw : c'.wa = c.wa) (ho : c'.ow = c.ow) (g : Value) (f : Nat → Value) : ccells (q.put i g (q.vv i) f) 0 (C.set i c') = ((ccells q 0 C).set (i * 5 + 2) (.bool c'.sl)).set (i * 5 + 3) g := by
 obtain ⟨h0, h1, h2, h3, h4⟩ := ccells_at q C 0 i c hc
 rw [Nat.zero_add] at h4
 rw [cput hc hw ho]
 refine set_id ?_
 rw [List.getElem?_set_ne (by omega), List.getElem?_set_ne (by omega)]
 exact h4
theorem cput_g {q : RW} {C : List CM} {i : Nat} {c c' : CM} (hc : C[i]? = some c) (hw : c'.wa = c.wa) (ho : c'.ow = c.ow) (hs : c'.sl = c.sl) (g : Value) (f : Nat → Value) : ccells (q.put i g (q.vv i) f) 0 (C.set i c') = (ccells q 0 C).set (i * 5 + 3) g := by
 obtain ⟨h0, h1, h2, h3, h4⟩ := ccells_at q C 0 i c hc
 rw [cput_sg hc hw ho, hs, set_id h2]
theorem cput_v {q : RW} {C : List CM} {i : Nat} {c c' : CM} (hc : C[i]? = some c) (hw : c'.wa = c.wa) (ho : c'.ow = c.ow) (hs : c'.sl = c.sl) (v : Value) (f : Nat → Value) : ccells (q.put i (q.gv i) v f) 0 (C.set i c') = (ccells q 0 C).set (i * 5 + 4) v := by
 obtain ⟨h0, h1, h2, h3, h4⟩ := ccells_at q C 0 i c hc
 rw [Nat.zero_add] at h3
 rw [cput hc hw ho, hs, set_id h2, set_id h3]
theorem cput_0 {q : RW} {C : List CM} {i : Nat} {c c' : CM} (hc : C[i]? = some c) (hw : c'.wa = c.wa) (ho : c'.ow = c.ow) (hs : c'.sl = c.sl) (f : Nat → Value) : ccells (q.put i (q.gv i) (q.vv i) f) 0 (C.set i c') = ccells q 0 C := by
 obtain ⟨h0, h1, h2, h3, h4⟩ := ccells_at q C 0 i c hc
 rw [Nat.zero_add] at h4
 rw [cput_v hc hw ho hs, set_id h4]
theorem own_set {w : World} {base e size n g cap : Nat} {xs : List Value} {v : Value} (h : w.ownsRow base e size v n xs) (hv : v = .slice (some ⟨g, 0, none⟩) n cap) (j : Nat) (u : Value) : (w.setCell ⟨g, j, none⟩ u).ownsRow base e size v n (xs.set j u) := by
 subst hv
 exact (h.stored j u).1
theorem seal_end {w w2 W8 : World} {b : Nat} {s : RM} {q : RW} {M : Nat → Prop} {r : RQ} {i : Nat} {c : CM} {g cap : Nat} {sl : Bool} (h : RsAt w b s q M) (hc : s.C[i]? = some c) (hcv : q.cv = .slice (some ⟨g, 0, none⟩) s.C.length cap) (h2 : CB w w2 w.heap.size r)
  (h8 : Fr (fun k => k = w.heap.size + 1) ((w2.setCell ⟨g, i * 5 + 2, none⟩ (.bool sl)).setCell ⟨g, i * 5 + 3, none⟩ (.slice none 0 0)) W8) :
  RsTo w W8 b s ⟨s.S, s.C.set i ⟨c.wa, c.ow, sl, [], c.V⟩⟩ q M := by
 have hg : q.cv.ownBlock = some g := by rw [hcv]; rfl
 have hgl : g < w.heap.size := h.lt g (h.mc g hg)
 have f28 : Fr (fun k => k = g ∨ k = w.heap.size + 1) w2 W8 := by
  have h0 := Fr.refl (fun k => k = g ∨ k = w.heap.size + 1) w2
  have h1 := h0.setCell (p := ⟨g, i * 5 + 2, none⟩) (.inl (.inl rfl)) (.bool sl)
  have h3 := h1.setCell (p := ⟨g, i * 5 + 3, none⟩) (.inl (.inl rfl)) (.slice none 0 0)
  exact h3.trans h8 (fun _ _ h => .inr h)
 have f08 : Fr (fun k => q.cv.ownBlock = some k ∨ (q.gv i).ownBlock = some k ∨ (q.vv i).ownBlock = some k) w W8 := (h2.f.mono (fun _ _ h => h.elim)).trans f28 (fun k hk hx => by
  rcases hx with rfl | hx
  ·exact .inl hg
  ·omega)
 have hr2 := (h.fr h2.f).ch
 have hr3 := own_set (own_set hr2 hcv (i * 5 + 2) (.bool sl)) hcv (i * 5 + 3) (.slice none 0 0)
 have hch : W8.ownsRow 0 87 5 q.cv s.C.length (((ccells q 0 s.C).set (i * 5 + 2) (.bool sl)).set (i * 5 + 3) (.slice none 0 0)) := ownsRow_of_block hr3 (fun k hk => h8.block k (hr3.lt k hk).2 (fun hx => by
  rw [hg] at hk; cases hk; omega))
 have hve : W8.ownsRow 0 110 4 (q.vv i) c.V.length (vcells (q.fv i) 0 c.V) := ownsRow_of_block ((h.fr h2.f).ve i c hc) (fun k hk => f28.block k ((h.fr h2.f).lt k (h.mv i c hc k hk)) (fun hx => by
  rcases hx with rfl | hx
  ·exact own_ne (h.ve i c hc) h.ch (by decide) k hk hg
  ·have := h.lt k (h.mv i c hc k hk); omega))
 have hSM : ∀ k, (q.cv.ownBlock = some k ∨ (q.gv i).ownBlock = some k ∨ (q.vv i).ownBlock = some k) → M k := fun k hk => by
  rcases hk with hk | hk | hk
  ·exact h.mc k hk
  ·exact h.mg i c hc k hk
  ·exact h.mv i c hc k hk
 have hMM : ∀ k, (M k ∨ (Value.slice none 0 0).ownBlock = some k ∨ (q.vv i).ownBlock = some k) → M k ∨ w.heap.size ≤ k := fun k hk => by
  rcases hk with hk | hk | hk
  ·exact .inl hk
  ·cases hk
  ·exact .inl (h.mv i c hc k hk)
 have hput := h.put hc ⟨c.wa, c.ow, sl, [], c.V⟩ (.slice none 0 0) (q.vv i) (q.fv i) f08 (by rw [cput_sg (c' := ⟨c.wa, c.ow, sl, [], c.V⟩) hc rfl rfl]; exact hch) (World.ownsRow_nil _ _ _ _) hve (fun j v hv => (h.fl i c j v hc hv).more f08 hSM hMM) (fun k hk => by cases hk) (fun k hk => .inl hk)
 exact ⟨_, _, hput, hMM, fun k hk => (RW.uses_put hc _ _ _ _ hk).elim .inl (fun ⟨j, u, hu, ho⟩ => .inl (.inr ⟨i, c, j, u, hc, hu, ho⟩)), f08.mono (fun k _ hk => hSM k hk)⟩
structure SM where
 au : Nat
 ev : Nat
 nf : Nat
 rd : Bool
structure RA where
 co : Nat
 rc : Nat
 ve : Nat
 F : List F5
 H : List SM
def RA.no (c : Nat) : RA := ⟨c, 0, 0, [], []⟩
def VM.sum (v : VM) : SM := ⟨v.au, v.ev, v.F.length, v.rd⟩
def insN (k : Nat) : List Nat → List Nat
 | [] => [k]
 | x :: r => if k < x then k :: x :: r else if k = x then x :: r else x :: insN k r
def RQ.frm (r : RQ) (l : List F5) : Bool :=
 if r.op = 1 then decide (r.rc = 0 ∧ r.ve = 0 ∧ r.rs.size = 0) && fdsB l false
 else if r.op = 2 then decide (r.wa = 0 ∧ r.ow = 0 ∧ r.rs.size = 0) && fdsB l true
 else if r.op = 3 then decide (r.wa = 0 ∧ r.ow = 0 ∧ l.length = 0 ∧ r.rs.size = 0)
 else if r.op = 4 then decide (r.wa = 0 ∧ r.ow = 0 ∧ l.length = 0 ∧ r.rs.size = 0)
 else if r.op = 5 then decide (r.ve = 0 ∧ r.wa = 0 ∧ r.ow = 0 ∧ l.length = 0 ∧ r.rs.size = 0)
 else if r.op = 6 then decide (r.wa = 0 ∧ r.ow = 0 ∧ l.length = 0 ∧ r.rs.size = 0 ∧ r.ve ≤ 1)
 else if r.op = 7 then decide (r.ve = 0 ∧ r.wa = 0 ∧ r.ow = 0 ∧ l.length = 0 ∧ r.rs.size ≤ 64)
 else false
def CM.now (c : CM) : List F5 := (c.V[c.V.length - 1]?.map VM.F).getD []
def CM.mrg (c : CM) (F : List F5) : List F5 := Go.Proofs.YtiknjghcjaaenaaGreatDoor.mrg (c.now.length + F.length) c.now F
def RM.create (s : RM) (r : RQ) (F : List F5) (pl : Nat) : RM × RA :=
 if crCode s.S r.ac r.wa r.ow ≠ 0 then (s, RA.no (crCode s.S r.ac r.wa r.ow))
 else if 256 ≤ s.C.length then (s, RA.no 9)
 else (⟨s.S, s.C ++ [⟨r.wa, r.ow, false, [], [⟨r.ac, pl, F, false⟩]⟩]⟩, ⟨0, s.C.length + 1, 1, [], []⟩)
def RM.amend (s : RM) (r : RQ) (c : CM) (F : List F5) (pl : Nat) : RM × RA :=
 if amCode s.S r.ac c F ≠ 0 then (s, RA.no (amCode s.S r.ac c F))
 else if r.ve = 0 ∨ c.V.length < r.ve then (s, RA.no 4)
 else if r.ve ≠ c.V.length then (s, RA.no 7)
 else if 64 ≤ c.V.length ∨ 32 < (c.mrg F).length then (s, RA.no 9)
 else if remU c.now F = true then (s, RA.no 10)
 else (⟨s.S, s.C.set (r.rc - 1) ⟨c.wa, c.ow, c.sl, c.G, c.V ++ [⟨r.ac, pl, c.mrg F, false⟩]⟩⟩, ⟨0, r.rc, c.V.length + 1, [], []⟩)
def RQ.vn (r : RQ) (c : CM) : Nat := if r.ve = 0 then c.V.length else r.ve
def RM.read (s : RM) (r : RQ) (c : CM) : RM × RA :=
 if rdCode s.S r.ac c ≠ 0 then (s, RA.no (rdCode s.S r.ac c))
 else if r.vn c = 0 then (s, RA.no 4)
 else match c.V[r.vn c - 1]? with
  | none => (s, RA.no 4)
  | some v => if v.rd then (s, RA.no 8) else (s, ⟨0, r.rc, r.vn c, v.F, []⟩)
def RM.redact (s : RM) (r : RQ) (c : CM) : RM × RA :=
 if reCode s.S r.ac c ≠ 0 then (s, RA.no (reCode s.S r.ac c))
 else if r.ve = 0 then (s, RA.no 4)
 else match c.V[r.ve - 1]? with
  | none => (s, RA.no 4)
  | some v => if v.rd then (s, RA.no 8) else (⟨s.S, s.C.set (r.rc - 1) ⟨c.wa, c.ow, c.sl, c.G, c.V.set (r.ve - 1) ⟨v.au, v.ev, [], true⟩⟩⟩, ⟨0, r.rc, r.ve, [], []⟩)
def RM.history (s : RM) (r : RQ) (c : CM) : RM × RA :=
 if hiCode s.S r.ac c ≠ 0 then (s, RA.no (hiCode s.S r.ac c)) else (s, ⟨0, r.rc, c.V.length, [], c.V.map VM.sum⟩)
def RM.seal (s : RM) (r : RQ) (c : CM) : RM × RA :=
 if seCode s.S r.ac c ≠ 0 then (s, RA.no (seCode s.S r.ac c))
 else (⟨s.S, s.C.set (r.rc - 1) ⟨c.wa, c.ow, decide (r.ve = 1), [], c.V⟩⟩, ⟨0, r.rc, 0, [], []⟩)
def RM.break (s : RM) (r : RQ) (c : CM) : RM × RA :=
 if brCode s.S r.ac c r.rs ≠ 0 then (s, RA.no (brCode s.S r.ac c r.rs))
 else (⟨s.S, s.C.set (r.rc - 1) ⟨c.wa, c.ow, c.sl, insN r.ac c.G, c.V⟩⟩, ⟨0, r.rc, 0, [], []⟩)
def RM.op (s : RM) (r : RQ) (c : CM) (F : List F5) (pl : Nat) : RM × RA :=
 if r.op = 2 then s.amend r c F pl else if r.op = 3 then s.read r c else if r.op = 4 then s.redact r c else if r.op = 5 then s.history r c else if r.op = 6 then s.seal r c else s.break r c
def RM.step (s : RM) (r : RQ) (F : List F5) (pl : Nat) : RM × RA :=
 if r.frm F = false then (s, RA.no 2)
 else if (perso s.S r.ac).isSome = false then (s, RA.no 1)
 else if r.op = 1 then s.create r F pl
 else if r.rc = 0 then (s, RA.no 3)
 else match s.C[r.rc - 1]? with
  | none => (s, RA.no 3)
  | some c => s.op r c F pl
def FGood (f : F5) : Prop := f.n.size ≤ 64 ∧ f.t.size ≤ 64 ∧ f.v < 4294967296 ∧ f.u < 256
structure CM.Ok (c : CM) : Prop where
 G : c.G.Pairwise (· < ·)
 g : ∀ k ∈ c.G, k < 4294967296
 V1 : 1 ≤ c.V.length
 V : c.V.length ≤ 64
 F : ∀ v ∈ c.V, v.F.length ≤ 32 ∧ ∀ f ∈ v.F, FGood f
structure RM.Ok (s : RM) : Prop where
 S : s.S.length ≤ 140737488355328
 C : s.C.length ≤ 256
 c : ∀ c ∈ s.C, c.Ok
theorem rise_len : ∀ (l : List Nat) (a : Nat), (∀ k ∈ l, a ≤ k ∧ k < 4294967296) → l.Pairwise (· < ·) → l.length ≤ 4294967296 - a
 | [], a, _, _ => by simp
 | x :: r, a, h, hp => by
  have h1 := h x (by simp)
  have h2 := rise_len r (x + 1) (fun k hk => ⟨(List.pairwise_cons.1 hp).1 k hk, (h k (by simp [hk])).2⟩) (List.pairwise_cons.1 hp).2
  simp only [List.length_cons]
  omega
theorem CM.Ok.len {c : CM} (h : c.Ok) : c.G.length ≤ 140737488355328 := by
 have := rise_len c.G 0 (fun k hk => ⟨Nat.zero_le _, h.g k hk⟩) h.G
 omega
theorem insN_mem {k x : Nat} : ∀ {l : List Nat}, x ∈ insN k l ↔ x = k ∨ x ∈ l
 | [] => by simp [insN]
 | y :: r => by
  unfold insN
  split
  ·simp
  ·split
   ·rename_i h1 h2
    subst h2
    simp
   ·simp only [List.mem_cons, insN_mem (l := r)]
    constructor <;> (intro h; rcases h with h | h | h <;> simp [h])
theorem insN_rise {k : Nat} : ∀ {l : List Nat}, l.Pairwise (· < ·) → (insN k l).Pairwise (· < ·)
 | [], _ => by simp [insN]
 | y :: r, h => by
  obtain ⟨h1, h2⟩ := List.pairwise_cons.1 h
  unfold insN
  split
  ·rename_i h3
   refine List.pairwise_cons.2 ⟨fun z hz => ?_, h⟩
   rcases List.mem_cons.1 hz with rfl | hz
   ·exact h3
   ·exact Nat.lt_trans h3 (h1 z hz)
  ·split
   ·exact h
   ·refine List.pairwise_cons.2 ⟨fun z hz => ?_, insN_rise h2⟩
    rcases insN_mem.1 hz with rfl | hz
    ·omega
    ·exact h1 z hz
theorem keptF_mem {f : F5} {l : List F5} (h : f ∈ keptF l) : f ∈ l := by
 unfold keptF at h
 exact (List.mem_filter.1 h).1
theorem mrg_mem {f : F5} : ∀ (n : Nat) (l m : List F5), f ∈ Go.Proofs.YtiknjghcjaaenaaGreatDoor.mrg n l m → f ∈ l ∨ f ∈ m
 | 0, l, m, h => by
  simp only [Go.Proofs.YtiknjghcjaaenaaGreatDoor.mrg, List.mem_append] at h
  exact h.imp id keptF_mem
 | n + 1, [], m, h => by
  rw [mrg_l] at h
  exact .inr (keptF_mem h)
 | n + 1, x :: r, [], h => by
  rw [mrg_r] at h
  exact .inl h
 | n + 1, x :: r, y :: t, h => by
  unfold Go.Proofs.YtiknjghcjaaenaaGreatDoor.mrg at h
  split at h
  ·split at h
   ·rcases List.mem_append.1 h with h | h
    ·exact .inr (List.mem_cons.2 (.inl (by have := keptF_mem h; simpa using this)))
    ·rcases mrg_mem n r t h with h | h
     ·exact .inl (List.mem_cons.2 (.inr h))
     ·exact .inr (List.mem_cons.2 (.inr h))
   ·rcases List.mem_cons.1 h with h | h
    ·exact .inl (List.mem_cons.2 (.inl h))
    ·rcases mrg_mem n r (y :: t) h with h | h
     ·exact .inl (List.mem_cons.2 (.inr h))
     ·exact .inr h
  ·rcases List.mem_append.1 h with h | h
   ·exact .inr (List.mem_cons.2 (.inl (by have := keptF_mem h; simpa using this)))
   ·rcases mrg_mem n (x :: r) t h with h | h
    ·exact .inl h
    ·exact .inr (List.mem_cons.2 (.inr h))
theorem risB_fld {gone : Bool} : ∀ {l : List F5} {a : ByteArray}, risB gone a l = true → ∀ f ∈ l, f.n.size ≤ 64 ∧ f.t.size ≤ 64
 | [], _, _, f, hf => by cases hf
 | x :: r, a, h, f, hf => by
  simp only [risB, Bool.and_eq_true] at h
  rcases List.mem_cons.1 hf with rfl | hf
  ·have h1 := h.1.1.2
   simp only [fldB, Bool.and_eq_true, decide_eq_true_eq] at h1
   exact h1.1
  ·exact risB_fld h.2 f hf
theorem fdsB_good {l : List F5} {gone : Bool} (h : fdsB l gone = true) (hv : ∀ f ∈ l, f.v < 4294967296 ∧ f.u < 256) : l.length ≤ 32 ∧ ∀ f ∈ l, FGood f := by
 simp only [fdsB, Bool.and_eq_true, decide_eq_true_eq] at h
 refine ⟨h.1, fun f hf => ?_⟩
 obtain ⟨h1, h2⟩ := risB_fld h.2 f hf
 exact ⟨h1, h2, hv f hf⟩
theorem RQ.frm_good {r : RQ} {l : List F5} (h : r.frm l = true) (hv : ∀ f ∈ l, f.v < 4294967296 ∧ f.u < 256) : l.length ≤ 32 ∧ ∀ f ∈ l, FGood f := by
 have h0 : l.length = 0 → l.length ≤ 32 ∧ ∀ f ∈ l, FGood f := fun e => by
  obtain rfl := List.length_eq_zero_iff.1 e
  exact ⟨by simp, fun f hf => by cases hf⟩
 unfold RQ.frm at h
 split at h
 ·rw [Bool.and_eq_true] at h; exact fdsB_good h.2 hv
 split at h
 ·rw [Bool.and_eq_true] at h; exact fdsB_good h.2 hv
 split at h
 ·exact h0 (of_decide_eq_true h).2.2.1
 split at h
 ·exact h0 (of_decide_eq_true h).2.2.1
 split at h
 ·exact h0 (of_decide_eq_true h).2.2.2.1
 split at h
 ·exact h0 (of_decide_eq_true h).2.2.1
 split at h
 ·exact h0 (of_decide_eq_true h).2.2.2.1
 cases h
theorem CM.Ok.now {c : CM} (h : c.Ok) : c.now.length ≤ 32 ∧ ∀ f ∈ c.now, FGood f := by
 unfold CM.now
 rcases e : c.V[c.V.length - 1]? with _ | v
 ·exact ⟨by simp, fun f hf => by cases hf⟩
 ·exact h.F v (List.mem_of_getElem? e)
theorem RM.Ok.at {s : RM} (h : s.Ok) {i : Nat} {c : CM} (hc : s.C[i]? = some c) : c.Ok := h.c c (List.mem_of_getElem? hc)
theorem RM.Ok.set {s : RM} (h : s.Ok) (i : Nat) {c : CM} (hc : c.Ok) : RM.Ok ⟨s.S, s.C.set i c⟩ :=
 ⟨h.S, by simpa using h.C, fun d hd => by
  rcases List.mem_or_eq_of_mem_set hd with hd | rfl
  ·exact h.c d hd
  ·exact hc⟩
theorem RM.Ok.step {s : RM} (h : s.Ok) (r : RQ) (F : List F5) (pl : Nat) (hv : ∀ f ∈ F, f.v < 4294967296 ∧ f.u < 256) (ha : r.ac < 4294967296) : (s.step r F pl).1.Ok := by
 unfold RM.step
 split
 ·exact h
 rename_i hfm
 obtain ⟨hF1, hF2⟩ := RQ.frm_good (by simpa using hfm) hv
 split
 ·exact h
 split
 ·unfold RM.create
  split
  ·exact h
  split
  ·exact h
  ·rename_i hn
   refine ⟨h.S, by simp; omega, fun c hc => ?_⟩
   rcases List.mem_append.1 hc with hc | hc
   ·exact h.c c hc
   ·rw [List.mem_singleton] at hc
    subst hc
    exact ⟨List.Pairwise.nil, fun k hk => (by cases hk), by simp, by simp, fun v hv => by rw [List.mem_singleton] at hv; subst hv; exact ⟨hF1, hF2⟩⟩
 split
 ·exact h
 split
 ·exact h
 rename_i c hc
 have ho := h.at hc
 unfold RM.op
 split
 ·unfold RM.amend
  split
  ·exact h
  split
  ·exact h
  split
  ·exact h
  split
  ·exact h
  rename_i hn
  split
  ·exact h
  refine h.set _ ⟨ho.G, ho.g, by simp, by simp; omega, fun v hv => ?_⟩
  rcases List.mem_append.1 hv with hv | hv
  ·exact ho.F v hv
  ·rw [List.mem_singleton] at hv
   subst hv
   refine ⟨by show (c.mrg F).length ≤ 32; omega, fun f hf => ?_⟩
   rcases mrg_mem _ _ _ hf with hf | hf
   ·exact ho.now.2 f hf
   ·exact hF2 f hf
 split
 ·unfold RM.read
  split
  ·exact h
  split
  ·exact h
  split
  ·exact h
  ·split <;> exact h
 split
 ·unfold RM.redact
  split
  ·exact h
  split
  ·exact h
  split
  ·exact h
  ·split
   ·exact h
   ·refine h.set _ ⟨ho.G, ho.g, by simpa using ho.V1, by simpa using ho.V, fun v hv => ?_⟩
    rcases List.mem_or_eq_of_mem_set hv with hv | rfl
    ·exact ho.F v hv
    ·exact ⟨by simp, fun f hf => by cases hf⟩
 split
 ·unfold RM.history
  split <;> exact h
 split
 ·unfold RM.seal
  split
  ·exact h
  ·exact h.set _ ⟨List.Pairwise.nil, fun k hk => (by cases hk), ho.V1, ho.V, ho.F⟩
 ·unfold RM.break
  split
  ·exact h
  ·refine h.set _ ⟨insN_rise ho.G, fun k hk => ?_, ho.V1, ho.V, ho.F⟩
   rcases insN_mem.1 hk with rfl | hk
   ·exact ha
   ·exact ho.g k hk
def scells (l : List SM) : List Value := l.flatMap fun s => [.int .u32 (s.au : Nat), .int .u32 (s.ev : Nat), .int .u32 (s.nf : Nat), .bool s.rd]
def OwS (w : World) (base : Nat) (v : Value) (l : List SM) : Prop := w.ownsRow base 83 4 v l.length (scells l)
def OpD (w : World) (b : Nat) (s : RM) (q : RW) (M : Nat → Prop) (x : RM × RA) (fv hv : Value) (w' : World) : Prop :=
 (x.1 = s ∧ Fr (fun _ => False) w w' ∧ OwF w' w.heap.size fv x.2.F ∧ OwS w' w.heap.size hv x.2.H) ∨ (x.2.F = [] ∧ x.2.H = [] ∧ fv = .slice none 0 0 ∧ hv = .slice none 0 0 ∧ RsTo w w' b s x.1 q M)
def OpPost (w : World) (b : Nat) (s : RM) (q : RW) (M : Nat → Prop) (cl nu : Nat) (x : RM × RA) (e : Ending) (w' : World) : Prop :=
 ∃ fv hv, e = .returned (AN.v ⟨cl, nu, x.2.co, x.2.rc, x.2.ve, fv, hv⟩) ∧ OpD w b s q M x fv hv w'
theorem OpD.no {w w' : World} {b : Nat} {s : RM} {q : RW} {M : Nat → Prop} {c rc ve : Nat} (hf : Fr (fun _ => False) w w') : OpD w b s q M (s, ⟨c, rc, ve, [], []⟩) (.slice none 0 0) (.slice none 0 0) w' :=
 .inl ⟨rfl, hf, World.ownsRow_nil _ _ _ _, World.ownsRow_nil _ _ _ _⟩
theorem OpPost.no {w w' : World} {b : Nat} {s : RM} {q : RW} {M : Nat → Prop} {c : Nat} {e : Ending} (h : e = .returned (AN.no c).v) (hf : Fr (fun _ => False) w w') : OpPost w b s q M 0 0 (s, RA.no c) e w' :=
 ⟨_, _, h, OpD.no hf⟩
theorem OpPost.put {w w' : World} {b : Nat} {s s' : RM} {q : RW} {M : Nat → Prop} {rc ve : Nat} {e : Ending} (h : e = .returned (AN.v ⟨0, 0, 0, rc, ve, .slice none 0 0, .slice none 0 0⟩)) (hr : RsTo w w' b s s' q M) : OpPost w b s q M 0 0 (s', ⟨0, rc, ve, [], []⟩) e w' :=
 ⟨_, _, h, .inr ⟨rfl, rfl, rfl, rfl, hr⟩⟩
theorem RsTo.from {w W w' : World} {b : Nat} {s s' : RM} {q : RW} {M : Nat → Prop} (hf : Fr (fun _ => False) w W) (h : RsTo W w' b s s' q M) : RsTo w w' b s s' q M := by
 obtain ⟨q', M', h1, h2, h3, h4⟩ := h
 have hs := hf.size
 exact ⟨q', M', h1, fun k hk => (h2 k hk).imp id (fun h => by omega), fun k hk => (h3 k hk).imp id (fun h => by omega), (hf.mono (fun _ _ h => h.elim)).trans h4 (fun _ _ h => h)⟩
theorem OpD.out {w W w' w'' : World} {b B : Nat} {s : RM} {q : RW} {M : Nat → Prop} {x : RM × RA} {fv hv : Value} (h0 : RsAt w b s q M) (hf : Fr (fun _ => False) w W) (hB1 : w.heap.size ≤ B) (hB2 : B < W.heap.size) (h : OpD W b s q M x fv hv w') (h2 : Fr (fun k => k = B) w' w'') : OpD w b s q M x fv hv w'' := by
 have hs := hf.size
 rcases h with ⟨e, f1, f2, f3⟩ | ⟨e1, e2, e3, e4, hr⟩
 ·refine .inl ⟨e, (hf.trans f1 (fun _ _ h => h)).absorb h2 (fun i hi => by omega), ?_, ?_⟩
  ·exact ownsRow_base (ownsRow_of_block f2 (fun g hg => h2.block g (f2.lt g hg).2 (fun hk => by have := (f2.lt g hg).1; omega))) hs
  ·exact ownsRow_base (ownsRow_of_block f3 (fun g hg => h2.block g (f3.lt g hg).2 (fun hk => by have := (f3.lt g hg).1; omega))) hs
 ·obtain ⟨q', M', h1, h5, h3, h4⟩ := RsTo.from hf hr
  obtain ⟨q2, M2, k1, k5, k3, k4⟩ := hr
  refine .inr ⟨e1, e2, e3, e4, q2, M2, k1.frD h2 (fun k hk hM => ?_) (fun k hk hU => ?_), fun k hk => (k5 k hk).imp id (fun h => by omega), fun k hk => (k3 k hk).imp id (fun h => by omega), ?_⟩
  ·subst hk
   rcases k5 k hM with h | h
   ·have := h0.lt k h; omega
   ·omega
  ·subst hk
   rcases k3 k hU with h | h
   ·have := h0.usesLt h; omega
   ·omega
  ·exact h4.trans h2 (fun i hi hk => by subst hk; omega)
set_option maxHeartbeats 4000000 in
set_option maxRecDepth 100000 in
theorem seal_any (b : Nat) (s : RM) (q : RW) (M : Nat → Prop) (r : RQ) (xo : Option Addr) (xn xc : Nat) (place i : Nat) (c : CM) (w : World) (h : RsAt w b s q M) (hfv : r.fv = .slice xo xn xc) (hS : s.S.length ≤ 140737488355328) (hl : s.C.length ≤ 256) (hc : s.C[i]? = some c) (hrc : r.rc = i + 1) (hG : c.G.length ≤ 140737488355328) :
  Calls Tryz.prog 62 #[.pointer (some ⟨b, 0, none⟩), r.v, .int .u32 (place : Nat)] w fun e w' => OpPost w b s q M 0 0 (s.seal r c) e w' := by
 obtain ⟨W1, hW1⟩ : ∃ W1, W1 = (w.alloc (.cells r.cs 41)).alloc (.cells #[.int .u32 0, .int .u32 0, .int .u8 0, .int .u32 0, .int .u32 0, .slice none 0 0, .slice none 0 0] 45) := ⟨_, rfl⟩
 have hCB : CB w W1 w.heap.size r := by rw [hW1]; exact CB.new w r
 obtain ⟨g, ccap, hcv, _⟩ := h.chart hc
 obtain ⟨so, sc, hse⟩ := h.st.form
 obtain ⟨go, gc, hge⟩ := own_formX (h.gr i c hc)
 have HCt : Hid (∀ W, Fr (fun _ => False) w W → Calls Tryz.prog 72 #[.pointer (some ⟨b, 0, none⟩), .int .u32 (r.rc : Nat)] W fun e w' => e = .returned (.pointer (some ⟨g, i * 5, none⟩)) ∧ w' = W) := fun W hW => by rw [hrc]; exact chart_any b i c s q M W (h.fr hW) hc hl g ccap hcv
 have HSh : Hid (∀ W, Fr (fun _ => False) w W → Calls Tryz.prog 77 #[.pointer (some ⟨g, i * 5, none⟩)] W fun e w' => e = .returned (.agg #[.int .u32 (c.wa : Nat), .int .u32 (c.ow : Nat), .bool c.sl, .slice go c.G.length gc]) ∧ Fr (fun _ => False) W w') := fun W hW => by
  obtain ⟨g2, cc2, hcv2, k0, k1, k2, k3, k4, kz⟩ := (h.fr hW).chart hc
  rw [hcv] at hcv2
  cases hcv2
  rw [← hge]
  exact sheet_any g (i * 5) c.wa c.ow c.sl (q.gv i) go c.G.length gc W hge k0 k1 k2 k3
 have HP : Hid (∀ W, Fr (fun _ => False) w W → Calls Tryz.prog 85 #[.slice so s.S.length sc, .agg #[.int .u32 (c.wa : Nat), .int .u32 (c.ow : Nat), .bool c.sl, .slice go c.G.length gc], .int .u32 (r.ac : Nat)] W fun e w' => e = .returned (.int .u8 ((seCode s.S r.ac c : Nat) : Int)) ∧ Fr (fun _ => False) W w') := fun W hW => by
  rw [← hse, ← hge]
  exact pseal_any q.sv s.S c.wa c.ow c.sl (q.gv i) c.G r.ac W ((h.fr hW).st) hS (own_us ((h.fr hW).gr i c hc)) hG
 have HSt : Hid (∀ W, Fr (fun _ => False) w W → W.cell? ⟨b, 0, none⟩ = some (.slice so s.S.length sc)) := fun W hW => by rw [← hse]; exact (h.fr hW).cells.1
 have HC := hide hCB
 have HH := hide h
 have HS : Hid (∀ W, CB w W w.heap.size r → W.cell? ⟨b, 0, none⟩ = some (.slice so s.S.length sc) ∧ W.cell? ⟨w.heap.size, 2, none⟩ = some (.int .u32 (r.ac : Nat))) := fun W hW => ⟨(unhide HSt) W hW.f, hW.cells.2.2.1⟩
 have HR4 : Hid (∀ W, CB w W w.heap.size r → W.cell? ⟨w.heap.size, 4, none⟩ = some (.int .u32 (r.rc : Nat)) ∧ W.cell? ⟨w.heap.size, 5, none⟩ = some (.int .u32 (r.ve : Nat)) ∧ W.cell? ⟨w.heap.size, 2, none⟩ = some (.int .u32 (r.ac : Nat))) := fun W hW => ⟨hW.cells.2.2.2.2.1, hW.cells.2.2.2.2.2.1, hW.cells.2.2.1⟩
 have HRf : Hid (∀ (cd : Nat) W, Calls Tryz.prog 36 #[.int .u8 (cd : Nat)] W fun e w' => e = .returned (.agg #[.int .u32 0, .int .u32 0, .int .u8 (cd : Nat), .int .u32 0, .int .u32 0, .slice none 0 0, .slice none 0 0]) ∧ Fr (fun _ => False) W w') := fun cd W => refusal_any cd W
 have HE0 : Hid (seCode s.S r.ac c ≠ 0 → s.seal r c = (s, RA.no (seCode s.S r.ac c))) := fun h => by simp [RM.seal, h]
 have HE1 : Hid (seCode s.S r.ac c = 0 → s.seal r c = (⟨s.S, s.C.set i ⟨c.wa, c.ow, decide (r.ve = 1), [], c.V⟩⟩, ⟨0, r.rc, 0, [], []⟩)) := fun h => by rw [RM.seal, if_neg (by simp [h]), show r.rc - 1 = i by omega]
 generalize s.seal r c = X at *
 generalize seCode s.S r.ac c = code at *
 have HFIN : Hid (∀ w2 W8 : World, CB w w2 w.heap.size r → Fr (fun k => k = w.heap.size + 1) ((w2.setCell ⟨g, i * 5 + 2, none⟩ (.bool (decide (r.ve = 1)))).setCell ⟨g, i * 5 + 3, none⟩ (.slice none 0 0)) W8 → RsTo w W8 b s ⟨s.S, s.C.set i ⟨c.wa, c.ow, decide (r.ve = 1), [], c.V⟩⟩ q M) := fun w2 W8 h2 h8 => seal_end h hc hcv h2 h8
 have HK : Hid (∀ W, Fr (fun _ => False) w W → W.cell? ⟨g, i * 5 + 2, none⟩ = some (.bool c.sl) ∧ W.cell? ⟨g, i * 5 + 3, none⟩ = some (.slice go c.G.length gc) ∧ W.frozen? ⟨g, i * 5 + 2, none⟩ = false ∧ W.frozen? ⟨g, i * 5 + 3, none⟩ = false ∧ g < w.heap.size) := fun W hW => by
  obtain ⟨g2, cc2, hcv2, k0, k1, k2, k3, k4, kz⟩ := (h.fr hW).chart hc
  rw [hcv] at hcv2
  cases hcv2
  exact ⟨k2, by rw [← hge]; exact k3, kz _, kz _, h.lt g (h.mc g (by rw [hcv]; rfl))⟩
 obtain ⟨d3, d4, _⟩ := (unhide HR4) _ (unhide HC)
 simp only [RQ.v, RQ.cs] at *
 rw [hfv] at hW1 ⊢
 clear hCB h hse hge hc hrc hG
 go_enter Tryz.func62, Tryz.ntmps62
 go_wp2_with fail
 rw [← hW1]
 clear hW1
 go_wp2_with fail
 refine ((unhide HCt) _ (unhide HC).f).mono ?_
 rintro e w' ⟨rfl, rfl⟩
 clear d3 d4
 go_wp2_with fail
 go_region_held3 (fun W => W.cell? ⟨b, 0, none⟩ = some (.slice so s.S.length sc) ∧ W.cell? ⟨w.heap.size, 2, none⟩ = some (.int .u32 (r.ac : Nat)))
  (first | exact (unhide HS) _ ((unhide HC).step (Fr.refl _ _).drew) | exact (unhide HS) _ (unhide H1) | exact (unhide HS) _ (unhide H2))
  (first
   | (go_at_call 77; refine ((unhide HSh) _ ((unhide HC).step (Fr.refl _ _).drew).f).mono ?_; rintro e w1 ⟨rfl, hf1⟩; have H1 := hide (((unhide HC).step (Fr.refl _ _).drew).step hf1); clear hf1)
   | (go_at_call 85; refine ((unhide HP) _ (unhide H1).f).mono ?_; rintro e w2 ⟨rfl, hf2⟩; have H2 := hide ((unhide H1).step hf2); clear hf2))
 all_goals
  by_cases hz : code = 0
  ·subst hz
   obtain ⟨k2, k3, z2, z3, hgl⟩ := (unhide HK) _ (unhide H2).f
   obtain ⟨d3, d4, _⟩ := (unhide HR4) _ (unhide H2)
   have hve : ((r.ve : Int) == 1) = decide (r.ve = 1) := by
    by_cases h1 : r.ve = 1
    ·rw [h1]; rfl
    ·rw [decide_eq_false h1, beq_eq_false_iff_ne]; omega
   obtain ⟨e0, e1, e2, e3, e4, e5, e6, y0, y1, y2, y3, y4, y5, y6⟩ := (unhide H2).ans
   have hne : g ≠ w.heap.size + 1 := by omega
   have hne2 : g ≠ w.heap.size := by omega
   clear HRf HP HS HSt HC HCt HSh HR4 HK H1
   go_wp2_with fail
   refine bodyPost_ret (results_cell_mid rfl _ _ (w.heap.size + 1) 0 [.int .u32 0, .int .u32 0, .int .u8 0, .int .u32 (r.rc : Nat), .int .u32 0, .slice none 0 0, .slice none 0 0] _ rfl ?_ Tryz.underlying45 rfl (by kernel_rfl)) rfl ?_
   ·intro j v hv
    rcases j with _ | _ | _ | _ | _ | _ | _ | j
    ·simp at hv; subst hv; go_simp
    ·simp at hv; subst hv; go_simp
    ·simp at hv; subst hv; go_simp
    ·simp at hv; subst hv; go_simp
    ·simp at hv; subst hv; go_simp
    ·simp at hv; subst hv; go_simp
    ·simp at hv; subst hv; go_simp
    ·simp at hv
   ·rw [(unhide HE1) (by trivial)]; exact OpPost.put rfl ((unhide HFIN) w2 _ (unhide H2) (set7_fr _ _ _ _ _ _ _ _ _))
  ·have hc' : ((code : Int) != 0) = true := by rw [bne_iff_ne]; omega
   clear HP HS HSt HC HCt HSh HR4 HK H1
   go_wp2_with fail
   refine ((unhide HRf) code _).mono ?_
   rintro e w3 ⟨rfl, hf3⟩
   have h3 := (unhide H2).step hf3
   obtain ⟨e0, e1, e2, e3, e4, e5, e6, z0, z1, z2, z3, z4, z5, z6⟩ := h3.ans
   have H3 := hide h3.f
   clear h3 hf3
   go_wp2_with fail
   (try simp only [Exit.inBlock, Exit.then])
   refine bodyPost_ret (results_cell_mid rfl _ _ (w.heap.size + 1) 0 [.int .u32 0, .int .u32 0, .int .u8 ((code : Nat) : Int), .int .u32 0, .int .u32 0, .slice none 0 0, .slice none 0 0] _ rfl ?_ Tryz.underlying45 rfl (by kernel_rfl)) rfl ?_
   ·intro j v hv
    rcases j with _ | _ | _ | _ | _ | _ | _ | j
    ·simp at hv; subst hv; go_simp
    ·simp at hv; subst hv; go_simp
    ·simp at hv; subst hv; go_simp
    ·simp at hv; subst hv; go_simp
    ·simp at hv; subst hv; go_simp
    ·simp at hv; subst hv; go_simp
    ·simp at hv; subst hv; go_simp
    ·simp at hv
   ·rw [(unhide HE0) hz]; refine OpPost.no rfl ?_
    repeat refine Fr.setCell ?_ (.inr (by simp)) _
    exact unhide H3
set_option maxRecDepth 100000 in
theorem vredact_any (g o : Nat) (x : Value) (xo : Option Addr) (xn xc : Nat) (d : Bool) (w : World) (hx : x = .slice xo xn xc) (c2 : w.cell? ⟨g, o + 2, none⟩ = some x) (c3 : w.cell? ⟨g, o + 3, none⟩ = some (.bool d)) (z2 : w.frozen? ⟨g, o + 2, none⟩ = false) (z3 : w.frozen? ⟨g, o + 3, none⟩ = false) :
  Calls Tryz.prog 82 #[.pointer (some ⟨g, o, none⟩)] w fun e w' => e = .returned (.tuple #[]) ∧ w' = (w.setCell ⟨g, o + 2, none⟩ (.slice none 0 0)).setCell ⟨g, o + 3, none⟩ (.bool true) := by
 subst hx
 go_enter Tryz.func82, Tryz.ntmps82
 go_wp2_with fail
 go_end0
 exact ⟨rfl, rfl⟩
theorem redact_end {w w2 W8 : World} {b : Nat} {s : RM} {q : RW} {M : Nat → Prop} {r : RQ} {i j : Nat} {c : CM} {v : VM} {vg vc : Nat} (h : RsAt w b s q M) (hc : s.C[i]? = some c) (hv : c.V[j]? = some v) (hvv : q.vv i = .slice (some ⟨vg, 0, none⟩) c.V.length vc) (h2 : CB w w2 w.heap.size r)
  (h8 : Fr (fun k => k = w.heap.size + 1) ((w2.setCell ⟨vg, j * 4 + 2, none⟩ (.slice none 0 0)).setCell ⟨vg, j * 4 + 3, none⟩ (.bool true)) W8) :
  RsTo w W8 b s ⟨s.S, s.C.set i ⟨c.wa, c.ow, c.sl, c.G, c.V.set j ⟨v.au, v.ev, [], true⟩⟩⟩ q M := by
 have hj : j < c.V.length := (List.getElem?_eq_some_iff.1 hv).1
 have hg : (q.vv i).ownBlock = some vg := by rw [hvv]; rfl
 have hgl : vg < w.heap.size := h.lt vg (h.mv i c hc vg hg)
 have f28 : Fr (fun k => k = vg ∨ k = w.heap.size + 1) w2 W8 := by
  have h0 := Fr.refl (fun k => k = vg ∨ k = w.heap.size + 1) w2
  have h1 := h0.setCell (p := ⟨vg, j * 4 + 2, none⟩) (.inl (.inl rfl)) (.slice none 0 0)
  have h3 := h1.setCell (p := ⟨vg, j * 4 + 3, none⟩) (.inl (.inl rfl)) (.bool true)
  exact h3.trans h8 (fun _ _ h => .inr h)
 have f08 : Fr (fun k => q.cv.ownBlock = some k ∨ (q.gv i).ownBlock = some k ∨ (q.vv i).ownBlock = some k) w W8 := (h2.f.mono (fun _ _ h => h.elim)).trans f28 (fun k hk hx => by
  rcases hx with rfl | hx
  ·exact .inr (.inr hg)
  ·omega)
 have hr2 := (h.fr h2.f).ve i c hc
 have hr3 := own_set (own_set hr2 hvv (j * 4 + 2) (.slice none 0 0)) hvv (j * 4 + 3) (.bool true)
 have hve : W8.ownsRow 0 110 4 (q.vv i) c.V.length (((vcells (q.fv i) 0 c.V).set (j * 4 + 2) (.slice none 0 0)).set (j * 4 + 3) (.bool true)) := ownsRow_of_block hr3 (fun k hk => h8.block k (hr3.lt k hk).2 (fun hx => by
  rw [hg] at hk; cases hk; omega))
 have hkeep : ∀ {e size n : Nat} {v : Value} {xs : List Value}, w.ownsRow 0 e size v n xs → e ≠ 110 → W8.ownsRow 0 e size v n xs := fun {e size n v xs} hr he => ownsRow_of_block hr (fun k hk => by
  have h1 := (hr.lt k hk).2
  rw [f28.block k (Nat.lt_of_lt_of_le h1 h2.f.size) (fun hx => by
   rcases hx with rfl | hx
   ·exact own_ne hr (h.ve i c hc) he k hk hg
   ·omega)]
  exact h2.f.block k h1 (fun h => h))
 have hSM : ∀ k, (q.cv.ownBlock = some k ∨ (q.gv i).ownBlock = some k ∨ (q.vv i).ownBlock = some k) → M k := fun k hk => by
  rcases hk with hk | hk | hk
  ·exact h.mc k hk
  ·exact h.mg i c hc k hk
  ·exact h.mv i c hc k hk
 have hMM : ∀ k, (M k ∨ (q.gv i).ownBlock = some k ∨ (q.vv i).ownBlock = some k) → M k ∨ w.heap.size ≤ k := fun k hk => by
  rcases hk with hk | hk | hk
  ·exact .inl hk
  ·exact .inl (h.mg i c hc k hk)
  ·exact .inl (h.mv i c hc k hk)
 obtain ⟨a0, a1, a2, a3⟩ := vcells_at (q.fv i) c.V 0 j v hv
 have ev : vcells (fun k => if k = j then .slice none 0 0 else q.fv i k) 0 (c.V.set j ⟨v.au, v.ev, [], true⟩) = ((vcells (q.fv i) 0 c.V).set (j * 4 + 2) (.slice none 0 0)).set (j * 4 + 3) (.bool true) := by
  have e := vcells_put (q.fv i) (.slice none 0 0) ⟨v.au, v.ev, [], true⟩ c.V 0 j hj
  rw [Nat.zero_add] at e
  rw [e, set_id a0, set_id a1]
 have hput := h.put hc ⟨c.wa, c.ow, c.sl, c.G, c.V.set j ⟨v.au, v.ev, [], true⟩⟩ (q.gv i) (q.vv i) (fun k => if k = j then .slice none 0 0 else q.fv i k) f08 (by rw [cput_0 (c' := ⟨c.wa, c.ow, c.sl, c.G, c.V.set j ⟨v.au, v.ev, [], true⟩⟩) hc rfl rfl rfl]; exact hkeep h.ch (by decide)) (hkeep (h.gr i c hc) (by decide)) (by rw [ev, List.length_set]; exact hve) (fun k u hu => by
  by_cases hkj : k = j
  ·subst hkj
   rw [List.getElem?_set_self hj] at hu
   cases hu
   rw [if_pos rfl]
   exact ⟨fds_nil _, fun g o n c e h0 => (by cases e), fun xo n c e => (by cases e; exact Nat.le_refl _), fun n c e => (by cases e; rfl)⟩
  ·rw [List.getElem?_set_ne (fun e => hkj e.symm)] at hu
   rw [if_neg hkj]
   exact (h.fl i c k u hc hu).more f08 hSM hMM) (fun k hk => .inl hk) (fun k hk => .inl hk)
 refine ⟨_, _, hput, hMM, fun k hk => (RW.uses_put hc _ _ _ _ hk).elim .inl (fun ⟨jj, u, hu, o, n, m, e, h0⟩ => ?_), f08.mono (fun k _ hk => hSM k hk)⟩
 by_cases hj : jj = j
 ·subst hj
  change (if jj = jj then Value.slice none 0 0 else q.fv i jj) = _ at e
  rw [if_pos rfl] at e
  cases e
 ·change (if jj = j then Value.slice none 0 0 else q.fv i jj) = _ at e
  rw [if_neg hj] at e
  rw [List.getElem?_set_ne (fun e => hj e.symm)] at hu
  exact .inl (.inr ⟨i, c, jj, u, hc, hu, o, n, m, e, h0⟩)
set_option maxHeartbeats 4000000 in
set_option maxRecDepth 100000 in
theorem redact_any (b : Nat) (s : RM) (q : RW) (M : Nat → Prop) (r : RQ) (xo : Option Addr) (xn xc : Nat) (place i : Nat) (c : CM) (w : World) (h : RsAt w b s q M) (hfv : r.fv = .slice xo xn xc) (hS : s.S.length ≤ 140737488355328) (hl : s.C.length ≤ 256) (hc : s.C[i]? = some c) (hrc : r.rc = i + 1) (hG : c.G.length ≤ 140737488355328) (hV : c.V.length ≤ 1000) :
  Calls Tryz.prog 60 #[.pointer (some ⟨b, 0, none⟩), r.v, .int .u32 (place : Nat)] w fun e w' => OpPost w b s q M 0 0 (s.redact r c) e w' := by
 obtain ⟨W1, hW1⟩ : ∃ W1, W1 = (w.alloc (.cells r.cs 41)).alloc (.cells #[.int .u32 0, .int .u32 0, .int .u8 0, .int .u32 0, .int .u32 0, .slice none 0 0, .slice none 0 0] 45) := ⟨_, rfl⟩
 have hCB : CB w W1 w.heap.size r := by rw [hW1]; exact CB.new w r
 obtain ⟨g, ccap, hcv, _⟩ := h.chart hc
 obtain ⟨so, sc, hse⟩ := h.st.form
 obtain ⟨go, gc, hge⟩ := own_formX (h.gr i c hc)
 have HCt : Hid (∀ W, Fr (fun _ => False) w W → Calls Tryz.prog 72 #[.pointer (some ⟨b, 0, none⟩), .int .u32 (r.rc : Nat)] W fun e w' => e = .returned (.pointer (some ⟨g, i * 5, none⟩)) ∧ w' = W) := fun W hW => by rw [hrc]; exact chart_any b i c s q M W (h.fr hW) hc hl g ccap hcv
 have HSh : Hid (∀ W, Fr (fun _ => False) w W → Calls Tryz.prog 77 #[.pointer (some ⟨g, i * 5, none⟩)] W fun e w' => e = .returned (.agg #[.int .u32 (c.wa : Nat), .int .u32 (c.ow : Nat), .bool c.sl, .slice go c.G.length gc]) ∧ Fr (fun _ => False) W w') := fun W hW => by
  obtain ⟨g2, cc2, hcv2, k0, k1, k2, k3, k4, kz⟩ := (h.fr hW).chart hc
  rw [hcv] at hcv2
  cases hcv2
  rw [← hge]
  exact sheet_any g (i * 5) c.wa c.ow c.sl (q.gv i) go c.G.length gc W hge k0 k1 k2 k3
 have HP : Hid (∀ W, Fr (fun _ => False) w W → Calls Tryz.prog 81 #[.slice so s.S.length sc, .agg #[.int .u32 (c.wa : Nat), .int .u32 (c.ow : Nat), .bool c.sl, .slice go c.G.length gc], .int .u32 (r.ac : Nat)] W fun e w' => e = .returned (.int .u8 ((reCode s.S r.ac c : Nat) : Int)) ∧ Fr (fun _ => False) W w') := fun W hW => by
  rw [← hse, ← hge]
  exact predact_any q.sv s.S c.wa c.ow c.sl (q.gv i) c.G r.ac W ((h.fr hW).st) hS (own_us ((h.fr hW).gr i c hc)) hG
 have HSt : Hid (∀ W, Fr (fun _ => False) w W → W.cell? ⟨b, 0, none⟩ = some (.slice so s.S.length sc)) := fun W hW => by rw [← hse]; exact (h.fr hW).cells.1
 have HC := hide hCB
 have HH := hide h
 have HS : Hid (∀ W, CB w W w.heap.size r → W.cell? ⟨b, 0, none⟩ = some (.slice so s.S.length sc) ∧ W.cell? ⟨w.heap.size, 2, none⟩ = some (.int .u32 (r.ac : Nat))) := fun W hW => ⟨(unhide HSt) W hW.f, hW.cells.2.2.1⟩
 have HR4 : Hid (∀ W, CB w W w.heap.size r → W.cell? ⟨w.heap.size, 4, none⟩ = some (.int .u32 (r.rc : Nat)) ∧ W.cell? ⟨w.heap.size, 5, none⟩ = some (.int .u32 (r.ve : Nat)) ∧ W.cell? ⟨w.heap.size, 2, none⟩ = some (.int .u32 (r.ac : Nat))) := fun W hW => ⟨hW.cells.2.2.2.2.1, hW.cells.2.2.2.2.2.1, hW.cells.2.2.1⟩
 have HRf : Hid (∀ (cd : Nat) W, Calls Tryz.prog 36 #[.int .u8 (cd : Nat)] W fun e w' => e = .returned (.agg #[.int .u32 0, .int .u32 0, .int .u8 (cd : Nat), .int .u32 0, .int .u32 0, .slice none 0 0, .slice none 0 0]) ∧ Fr (fun _ => False) W w') := fun cd W => refusal_any cd W
 have HE0 : Hid (reCode s.S r.ac c ≠ 0 → s.redact r c = (s, RA.no (reCode s.S r.ac c))) := fun h => by simp [RM.redact, h]
 have HE1 : Hid (reCode s.S r.ac c = 0 → r.ve = 0 → s.redact r c = (s, RA.no 4)) := fun h h1 => by simp [RM.redact, h, h1]
 have HE2 : Hid (reCode s.S r.ac c = 0 → ¬ r.ve = 0 → c.V[r.ve - 1]? = none → s.redact r c = (s, RA.no 4)) := fun h h1 h2 => by simp [RM.redact, h, h1, h2]
 have HE3 : Hid (∀ v, reCode s.S r.ac c = 0 → ¬ r.ve = 0 → c.V[r.ve - 1]? = some v → v.rd = true → s.redact r c = (s, RA.no 8)) := fun v h h1 h2 h3 => by simp [RM.redact, h, h1, h2, h3]
 have HE4 : Hid (∀ v, reCode s.S r.ac c = 0 → ¬ r.ve = 0 → c.V[r.ve - 1]? = some v → v.rd = false → s.redact r c = (⟨s.S, s.C.set i ⟨c.wa, c.ow, c.sl, c.G, c.V.set (r.ve - 1) ⟨v.au, v.ev, [], true⟩⟩⟩, ⟨0, r.rc, r.ve, [], []⟩)) := fun v h h1 h2 h3 => by simp [RM.redact, h, h1, h2, h3, show r.rc - 1 = i by omega]
 generalize s.redact r c = X at *
 generalize reCode s.S r.ac c = code at *
 obtain ⟨vo, vc, hve0⟩ := own_formX (h.ve i c hc)
 have HV4 : Hid (∀ W, Fr (fun _ => False) w W → W.cell? ⟨g, i * 5 + 4, none⟩ = some (.slice vo c.V.length vc)) := fun W hW => by
  obtain ⟨g2, cc2, hcv2, k0, k1, k2, k3, k4, kz⟩ := (h.fr hW).chart hc
  rw [hcv] at hcv2
  cases hcv2
  rw [← hve0]
  exact k4
 have HHas : Hid (∀ (m : Nat) W, Fr (fun _ => False) w W → Calls Tryz.prog 78 #[.pointer (some ⟨g, i * 5, none⟩), .int .u32 (m : Nat)] W fun e w' => e = .returned (.bool (decide (1 ≤ m) && decide (m ≤ c.V.length))) ∧ w' = W) := fun m W hW => chas_any g (i * 5) c.V.length m vo vc W ((unhide HV4) W hW) hV
 have HVer : Hid (∀ (m j : Nat) (v : VM) W, Fr (fun _ => False) w W → m = j + 1 → c.V[j]? = some v → ∃ vg, q.vv i = .slice (some ⟨vg, 0, none⟩) c.V.length vc ∧ W.cell? ⟨vg, j * 4, none⟩ = some (.int .u32 (v.au : Nat)) ∧ W.cell? ⟨vg, j * 4 + 1, none⟩ = some (.int .u32 (v.ev : Nat)) ∧ W.cell? ⟨vg, j * 4 + 2, none⟩ = some (q.fv i j) ∧ W.cell? ⟨vg, j * 4 + 3, none⟩ = some (.bool v.rd) ∧ (W.frozen? ⟨vg, j * 4 + 2, none⟩ = false ∧ W.frozen? ⟨vg, j * 4 + 3, none⟩ = false) ∧ vg < w.heap.size ∧ Calls Tryz.prog 73 #[.pointer (some ⟨g, i * 5, none⟩), .int .u32 (m : Nat)] W fun e w' => e = .returned (.pointer (some ⟨vg, j * 4, none⟩)) ∧ w' = W) := fun m j v W hW hm hv => by
  obtain ⟨vg, cc2, e1, k0, k1, k2, k3, kz⟩ := (h.fr hW).version hc hv
  have e2 := hve0
  rw [e1] at e2
  cases e2
  subst hm
  exact ⟨vg, e1, k0, k1, k2, k3, ⟨kz _, kz _⟩, h.lt vg (h.mv i c hc vg (by rw [e1]; rfl)), version_any g (i * 5) c.V.length j vg vc W (by rw [(unhide HV4) W hW]) (List.getElem?_eq_some_iff.1 hv).1 hV⟩
 have HFIN : Hid (∀ (w2 W8 : World) (j vg : Nat) (v : VM), c.V[j]? = some v → q.vv i = .slice (some ⟨vg, 0, none⟩) c.V.length vc → CB w w2 w.heap.size r → Fr (fun k => k = w.heap.size + 1) ((w2.setCell ⟨vg, j * 4 + 2, none⟩ (.slice none 0 0)).setCell ⟨vg, j * 4 + 3, none⟩ (.bool true)) W8 → RsTo w W8 b s ⟨s.S, s.C.set i ⟨c.wa, c.ow, c.sl, c.G, c.V.set j ⟨v.au, v.ev, [], true⟩⟩⟩ q M) := fun w2 W8 j vg v hv hvv h2 h8 => redact_end h hc hv hvv h2 h8
 have HFF : Hid (∀ j v, c.V[j]? = some v → ∃ xo xn xc, q.fv i j = .slice xo xn xc) := fun j v hv => by
  obtain ⟨xo, xc, e⟩ := (h.fl i c j v hc hv).f.form
  exact ⟨xo, _, xc, e⟩
 clear hve0
 obtain ⟨d3, d4, _⟩ := (unhide HR4) _ (unhide HC)
 simp only [RQ.v, RQ.cs] at *
 rw [hfv] at hW1 ⊢
 clear hCB h hse hge hc hrc hG
 go_enter Tryz.func60, Tryz.ntmps60
 go_wp2_with fail
 rw [← hW1]
 clear hW1
 go_wp2_with fail
 refine ((unhide HCt) _ (unhide HC).f).mono ?_
 rintro e w' ⟨rfl, rfl⟩
 clear d3 d4
 go_wp2_with fail
 go_region_held3 (fun W => W.cell? ⟨b, 0, none⟩ = some (.slice so s.S.length sc) ∧ W.cell? ⟨w.heap.size, 2, none⟩ = some (.int .u32 (r.ac : Nat)))
  (first | exact (unhide HS) _ ((unhide HC).step (Fr.refl _ _).drew) | exact (unhide HS) _ (unhide H1) | exact (unhide HS) _ (unhide H2))
  (first
   | (go_at_call 77; refine ((unhide HSh) _ ((unhide HC).step (Fr.refl _ _).drew).f).mono ?_; rintro e w1 ⟨rfl, hf1⟩; have H1 := hide (((unhide HC).step (Fr.refl _ _).drew).step hf1); clear hf1)
   | (go_at_call 81; refine ((unhide HP) _ (unhide H1).f).mono ?_; rintro e w2 ⟨rfl, hf2⟩; have H2 := hide ((unhide H1).step hf2); clear hf2))
 all_goals
  clear HP HS HSt HC HCt HSh H1
  by_cases hz : code = 0
  ·subst hz
   obtain ⟨d3, d4, _⟩ := (unhide HR4) _ (unhide H2)
   by_cases h1 : r.ve = 0
   ·have HB := hide ((unhide HHas) r.ve w2 (unhide H2).f)
    rw [h1, show (decide (1 ≤ 0) && decide (0 ≤ c.V.length)) = false from rfl] at HB
    rw [h1] at d4
    have HX := hide ((unhide HE1) (by trivial) h1)
    clear HE0 HE1 HE2 HE3 HE4
    clear HHas HVer HFIN HFF
    go_wp2_with fail
    refine (unhide HB).mono ?_
    rintro e w' ⟨rfl, rfl⟩
    clear HB
    go_wp2_with fail
    refine ((unhide HRf) 4 _).mono ?_
    rintro e w3 ⟨rfl, hf3⟩
    have h3 := (unhide H2).step hf3
    obtain ⟨e0, e1, e2, e3, e4, e5, e6, z0, z1, z2, z3, z4, z5, z6⟩ := h3.ans
    have H3 := hide h3.f
    clear h3 hf3
    go_wp2_with fail
    (try simp only [Exit.inBlock, Exit.then])
    refine bodyPost_ret (results_cell_mid rfl _ _ (w.heap.size + 1) 0 [.int .u32 0, .int .u32 0, .int .u8 ((4 : Nat) : Int), .int .u32 0, .int .u32 0, .slice none 0 0, .slice none 0 0] _ rfl ?_ Tryz.underlying45 rfl (by kernel_rfl)) rfl ?_
    ·intro j v hv
     rcases j with _ | _ | _ | _ | _ | _ | _ | j
     ·simp at hv; subst hv; go_simp
     ·simp at hv; subst hv; go_simp
     ·simp at hv; subst hv; go_simp
     ·simp at hv; subst hv; go_simp
     ·simp at hv; subst hv; go_simp
     ·simp at hv; subst hv; go_simp
     ·simp at hv; subst hv; go_simp
     ·simp at hv
    ·rw [unhide HX]; refine OpPost.no rfl ?_
     repeat refine Fr.setCell ?_ (.inr (by simp)) _
     exact unhide H3
   ·by_cases h2 : r.ve ≤ c.V.length
    ·obtain ⟨j, hj⟩ : ∃ j, r.ve = j + 1 := ⟨r.ve - 1, by omega⟩
     obtain ⟨v, hv⟩ : ∃ v, c.V[j]? = some v := ⟨c.V[j], List.getElem?_eq_getElem (by omega)⟩
     obtain ⟨vg, hvv, v0, v1, v2, v3, ⟨x2, x3⟩, hvl, hcall⟩ := (unhide HVer) r.ve j v w2 (unhide H2).f hj hv
     have HCV := hide hcall
     clear hcall
     have ej : r.ve - 1 = j := by omega
     have HB := hide ((unhide HHas) r.ve w2 (unhide H2).f)
     rw [decide_eq_true (by omega : 1 ≤ r.ve), decide_eq_true h2, Bool.true_and] at HB
     have hvn : ¬ r.ve = 0 := h1
     have hv' : c.V[r.ve - 1]? = some v := by rw [ej]; exact hv
     obtain ⟨xo2, xn2, xc2, hx2⟩ := (unhide HFF) j v hv
     cases hrd : v.rd with
     | true =>
      rw [hrd] at v3
      have HX := hide ((unhide HE3) v (by trivial) h1 hv' hrd)
      clear HE0 HE1 HE2 HE3 HE4 hv' hv ej hj hvv HHas HVer HFIN HFF
      go_wp2_with fail
      refine (unhide HB).mono ?_
      rintro e w' ⟨rfl, rfl⟩
      clear HB
      go_wp2_with fail
      refine (unhide HCV).mono ?_
      rintro e w' ⟨rfl, rfl⟩
      go_wp2_with fail
      refine ((unhide HRf) 8 _).mono ?_
      rintro e w3 ⟨rfl, hf3⟩
      have h3 := (unhide H2).step hf3
      obtain ⟨e0, e1, e2, e3, e4, e5, e6, z0, z1, z2, z3, z4, z5, z6⟩ := h3.ans
      have H3 := hide h3.f
      clear h3 hf3
      go_wp2_with fail
      (try simp only [Exit.inBlock, Exit.then])
      refine bodyPost_ret (results_cell_mid rfl _ _ (w.heap.size + 1) 0 [.int .u32 0, .int .u32 0, .int .u8 ((8 : Nat) : Int), .int .u32 0, .int .u32 0, .slice none 0 0, .slice none 0 0] _ rfl ?_ Tryz.underlying45 rfl (by kernel_rfl)) rfl ?_
      ·intro j v hv
       rcases j with _ | _ | _ | _ | _ | _ | _ | j
       ·simp at hv; subst hv; go_simp
       ·simp at hv; subst hv; go_simp
       ·simp at hv; subst hv; go_simp
       ·simp at hv; subst hv; go_simp
       ·simp at hv; subst hv; go_simp
       ·simp at hv; subst hv; go_simp
       ·simp at hv; subst hv; go_simp
       ·simp at hv
      ·rw [unhide HX]; refine OpPost.no rfl ?_
       repeat refine Fr.setCell ?_ (.inr (by simp)) _
       exact unhide H3
     | false =>
      rw [hrd] at v3
      have HVR := hide (vredact_any vg (j * 4) (q.fv i j) xo2 xn2 xc2 false w2 hx2 v2 v3 x2 x3)
      have HX := hide ((unhide HE4) v (by trivial) h1 hv' hrd)
      rw [ej] at HX
      have HFN := hide (fun W8 h8 => (unhide HFIN) w2 W8 j vg v hv hvv (unhide H2) h8)
      clear HE0 HE1 HE2 HE3 HE4 hv' hv ej hj hvv HFIN
      have hne : vg ≠ w.heap.size + 1 := by omega
      have hne2 : vg ≠ w.heap.size := by omega
      obtain ⟨e0, e1, e2, e3, e4, e5, e6, y0, y1, y2, y3, y4, y5, y6⟩ := (unhide H2).ans
      clear HHas HVer HFF
      go_wp2_with fail
      refine (unhide HB).mono ?_
      rintro e w' ⟨rfl, rfl⟩
      clear HB
      go_wp2_with fail
      refine (unhide HCV).mono ?_
      rintro e w' ⟨rfl, rfl⟩
      go_wp2_with fail
      refine (unhide HCV).mono ?_
      rintro e w' ⟨rfl, rfl⟩
      go_wp2_with fail
      refine (unhide HVR).mono ?_
      rintro e w' ⟨rfl, rfl⟩
      go_wp2_with fail
      refine bodyPost_ret (results_cell_mid rfl _ _ (w.heap.size + 1) 0 [.int .u32 0, .int .u32 0, .int .u8 0, .int .u32 (r.rc : Nat), .int .u32 (r.ve : Nat), .slice none 0 0, .slice none 0 0] _ rfl ?_ Tryz.underlying45 rfl (by kernel_rfl)) rfl ?_
      ·intro j v hv
       rcases j with _ | _ | _ | _ | _ | _ | _ | j
       ·simp at hv; subst hv; go_simp
       ·simp at hv; subst hv; go_simp
       ·simp at hv; subst hv; go_simp
       ·simp at hv; subst hv; go_simp
       ·simp at hv; subst hv; go_simp
       ·simp at hv; subst hv; go_simp
       ·simp at hv; subst hv; go_simp
       ·simp at hv
      ·rw [unhide HX]; exact OpPost.put rfl ((unhide HFN) _ (set7_fr _ _ _ _ _ _ _ _ _))
    ·have hn : c.V[r.ve - 1]? = none := List.getElem?_eq_none (by omega)
     have HB := hide ((unhide HHas) r.ve w2 (unhide H2).f)
     rw [decide_eq_false h2, Bool.and_false] at HB
     have hvn : ¬ r.ve = 0 := h1
     have HX := hide ((unhide HE2) (by trivial) h1 hn)
     clear HE0 HE1 HE2 HE3 HE4 hn HHas HVer HFIN HFF
     go_wp2_with fail
     refine (unhide HB).mono ?_
     rintro e w' ⟨rfl, rfl⟩
     clear HB
     go_wp2_with fail
     refine ((unhide HRf) 4 _).mono ?_
     rintro e w3 ⟨rfl, hf3⟩
     have h3 := (unhide H2).step hf3
     obtain ⟨e0, e1, e2, e3, e4, e5, e6, z0, z1, z2, z3, z4, z5, z6⟩ := h3.ans
     have H3 := hide h3.f
     clear h3 hf3
     go_wp2_with fail
     (try simp only [Exit.inBlock, Exit.then])
     refine bodyPost_ret (results_cell_mid rfl _ _ (w.heap.size + 1) 0 [.int .u32 0, .int .u32 0, .int .u8 ((4 : Nat) : Int), .int .u32 0, .int .u32 0, .slice none 0 0, .slice none 0 0] _ rfl ?_ Tryz.underlying45 rfl (by kernel_rfl)) rfl ?_
     ·intro j v hv
      rcases j with _ | _ | _ | _ | _ | _ | _ | j
      ·simp at hv; subst hv; go_simp
      ·simp at hv; subst hv; go_simp
      ·simp at hv; subst hv; go_simp
      ·simp at hv; subst hv; go_simp
      ·simp at hv; subst hv; go_simp
      ·simp at hv; subst hv; go_simp
      ·simp at hv; subst hv; go_simp
      ·simp at hv
     ·rw [unhide HX]; refine OpPost.no rfl ?_
      repeat refine Fr.setCell ?_ (.inr (by simp)) _
      exact unhide H3
  ·have hc' : ((code : Int) != 0) = true := by rw [bne_iff_ne]; omega
   have HX := hide ((unhide HE0) hz)
   clear HE0 HE1 HE2 HE3 HE4 HR4 HHas HVer HFIN HFF
   go_wp2_with fail
   refine ((unhide HRf) code _).mono ?_
   rintro e w3 ⟨rfl, hf3⟩
   have h3 := (unhide H2).step hf3
   obtain ⟨e0, e1, e2, e3, e4, e5, e6, z0, z1, z2, z3, z4, z5, z6⟩ := h3.ans
   have H3 := hide h3.f
   clear h3 hf3
   go_wp2_with fail
   (try simp only [Exit.inBlock, Exit.then])
   refine bodyPost_ret (results_cell_mid rfl _ _ (w.heap.size + 1) 0 [.int .u32 0, .int .u32 0, .int .u8 ((code : Nat) : Int), .int .u32 0, .int .u32 0, .slice none 0 0, .slice none 0 0] _ rfl ?_ Tryz.underlying45 rfl (by kernel_rfl)) rfl ?_
   ·intro j v hv
    rcases j with _ | _ | _ | _ | _ | _ | _ | j
    ·simp at hv; subst hv; go_simp
    ·simp at hv; subst hv; go_simp
    ·simp at hv; subst hv; go_simp
    ·simp at hv; subst hv; go_simp
    ·simp at hv; subst hv; go_simp
    ·simp at hv; subst hv; go_simp
    ·simp at hv; subst hv; go_simp
    ·simp at hv
   ·rw [unhide HX]; refine OpPost.no rfl ?_
    repeat refine Fr.setCell ?_ (.inr (by simp)) _
    exact unhide H3
theorem CB.setVe {w W : World} {B : Nat} {r : RQ} (h : CB w W B r) (n : Nat) : CB w (W.setCell ⟨B, 5, none⟩ (.int .u32 (n : Nat))) B { r with ve := n } :=
 ⟨heap_setCell_same W B 5 r.cs _ _ h.r, (heap_setCell_other W ⟨B, 5, none⟩ (B + 1) _ (by show B + 1 ≠ B; omega)).trans h.a, h.f.setCell (.inr (by have := h.n; show _ ≤ B; omega)) _, h.n⟩
theorem Tryz.nf1 (a : Addr) (n c : Nat) (w : World) : (binOp .eql 39 (.slice (some a) n c) (.slice none 0 0)).run Tryz.prog w = .ok (.bool false) w := by kernel_rfl
theorem Tryz.nf0 (n c : Nat) (w : World) : (binOp .eql 39 (.slice none n c) (.slice none 0 0)).run Tryz.prog w = .ok (.bool true) w := by kernel_rfl
set_option maxRecDepth 100000 in
theorem fclone_any (x : Value) (l : List F5) (w : World) (hx : FdC w w.heap.size x l) (hl : l.length ≤ 1000) :
  Calls Tryz.prog 53 #[x] w fun e w' => ∃ v, e = .returned v ∧ OwF w' w.heap.size v l ∧ Fr (fun _ => False) w w' := by
 obtain ⟨xo, xc, rfl⟩ := hx.f.form
 cases xo with
 | none =>
  have h0 : l.length = 0 := by
   have h1 := hx.c _ _ _ rfl
   have h2 := hx.z _ _ rfl
   omega
  obtain rfl := List.length_eq_zero_iff.1 h0
  have n0 := Tryz.nf0
  clear hx h0
  go_enter Tryz.func53, Tryz.ntmps53
  go_wp2_with fail
  go_ret
  exact ⟨_, rfl, World.ownsRow_nil _ _ _ _, Fr.refl _ _⟩
 | some a =>
  have hx1 : FdC (w.alloc (.cells #[] 55)) w.heap.size (.slice (some a) l.length xc) l := hx.frS ((box1 w _).mono (fun _ _ h => h.elim))
  obtain ⟨ao, cap, w2, hr, ho, hf⟩ := app_flds (w.alloc (.cells #[] 55)) w.heap.size (.slice (some ⟨w.heap.size, 0, none⟩) 0 0) _ [] l (World.ownsRow_made w #[] 0 (Nat.le_refl _) (Nat.zero_le _) rfl) (by simp) hx1 (by simp; omega)
  have HR := hide hr
  have HA := hide (And.intro ho hf)
  clear hr ho hf hx hx1
  have n1 := Tryz.nf1
  go_enter Tryz.func53, Tryz.ntmps53
  go_wp2_with (at_builtin; refine wpList_app rfl _ _ 39 39 rfl _ _ _ rfl rfl (unhide HR) ?_)
  go_ret
  obtain ⟨ho, hf⟩ := unhide HA
  exact ⟨_, rfl, by simpa using ho, (box1 w _).absorb hf (fun i hi => by simp [Value.ownBlock] at hi; omega)⟩
theorem step_stN {P : Program} {w w' : World} {ops : Array Oper} {op : Oper} {a : Act} {K : Act → World → Prop} {Q : Exit → Act → World → Prop} {E : Prop} (hgd : op.guard = none) (ty : TypeId) (x y : Operand) (ho : op.op = .store ty x y)
  (p v : Value) (hx : a.eval x = p) (hy : a.eval y = v) (hr : (Instr.storeAt ty p v).run P w = .ok () w')
  (h : K (a.put op.dst undef) w') : if Region.wanted op (yielded ops a.tmps) = true then Oper.wp P op a w K Q else E := by
 have hw : Region.wanted op (yielded ops a.tmps) = true := by simp [Region.wanted, hgd]
 rw [if_pos hw]
 unfold Oper.wp execOp
 simp only [ho, hx, hy, Sem.run_bind, hr, Result.andThen_ok, Sem.run_pure]
 exact h
theorem wp_stN {P : Program} {w w' : World} {op : Oper} {a : Act} {K : Act → World → Prop} {Q : Exit → Act → World → Prop} (ty : TypeId) (x y : Operand) (ho : op.op = .store ty x y)
  (p v : Value) (hx : a.eval x = p) (hy : a.eval y = v) (hr : (Instr.storeAt ty p v).run P w = .ok () w')
  (h : K (a.put op.dst undef) w') : op.wp P a w K Q := by
 unfold Oper.wp execOp
 simp only [ho, hx, hy, Sem.run_bind, hr, Result.andThen_ok, Sem.run_pure]
 exact h
theorem wpList_stN {P : Program} {w w' : World} {ops : Array Oper} {rest : List Oper} {op : Oper} {a : Act} {Q : Exit → Act → World → Prop} (hgd : op.guard = none) (ty : TypeId) (x y : Operand) (ho : op.op = .store ty x y)
  (p v : Value) (hx : a.eval x = p) (hy : a.eval y = v) (hr : (Instr.storeAt ty p v).run P w = .ok () w')
  (h : wpList P ops Q rest (a.put op.dst undef) w') : wpList P ops Q (op :: rest) a w :=
 wpList_plain hgd fun _ hK => by
  unfold Oper.wp execOp
  simp only [ho, hx, hy, Sem.run_bind, hr, Result.andThen_ok, Sem.run_pure]
  exact hK _ _ h
theorem range_of_block {W : World} {b : Nat} {cs : List Value} {t : TypeId} (h : W.heap[b]? = some (.cells cs.toArray t)) : W.rangeAt b 0 cs := by
 intro j v hv
 simp only [World.cell?, h]
 simpa using hv
theorem ans_put {W : World} {g : Nat} {a0 a1 a2 a3 a4 a5 a6 : Value} (hb : W.heap[g]? = some (.cells #[a0, a1, a2, a3, a4, a5, a6] 45)) (c0 c1 c2 c3 c4 c5 c6 : Value) (h1 : ∀ v ∈ [c0, c1, c2, c3, c4, c5, c6], v.oneCell' = true) :
  ∃ W8, (Instr.storeAt 45 (.pointer (some ⟨g, 0, none⟩)) (.agg #[c0, c1, c2, c3, c4, c5, c6])).run Tryz.prog W = .ok () W8 ∧ W8.heap[g]? = some (.cells #[c0, c1, c2, c3, c4, c5, c6] 45) ∧ Fr (fun k => k = g) W W8 := by
 refine ⟨W.setCells g 0 [c0, c1, c2, c3, c4, c5, c6], run_storeAt_mid W g 0 45 #[c0, c1, c2, c3, c4, c5, c6] (fun j hj => ?_) (by kernel_rfl) (all_oneCell_toArray (cs := [c0, c1, c2, c3, c4, c5, c6]) h1), ?_, ?_⟩
 ·have hj : j < 7 := hj
  refine ⟨?_, by simp [World.frozen?, hb]⟩
  rcases j with _ | _ | _ | _ | _ | _ | _ | j
  ·simp [World.cell?, hb]
  ·simp [World.cell?, hb]
  ·simp [World.cell?, hb]
  ·simp [World.cell?, hb]
  ·simp [World.cell?, hb]
  ·simp [World.cell?, hb]
  ·simp [World.cell?, hb]
  ·omega
 ·have k0 := heap_setCell_same W g 0 #[a0, a1, a2, a3, a4, a5, a6] 45 c0 hb
  have k1 := heap_setCell_same _ g 1 _ 45 c1 k0
  have k2 := heap_setCell_same _ g 2 _ 45 c2 k1
  have k3 := heap_setCell_same _ g 3 _ 45 c3 k2
  have k4 := heap_setCell_same _ g 4 _ 45 c4 k3
  have k5 := heap_setCell_same _ g 5 _ 45 c5 k4
  have k6 := heap_setCell_same _ g 6 _ 45 c6 k5
  simp only [List.setIfInBounds_toArray, List.set_cons_zero, List.set_cons_succ] at k6
  exact k6
 ·exact set7_fr W g c0 c1 c2 c3 c4 c5 c6
theorem OwF.out {w W w' w'' : World} {B : Nat} {v : Value} {l : List F5} (h : OwF w' W.heap.size v l) (hs : w.heap.size ≤ W.heap.size) (hB : B < W.heap.size) (h2 : Fr (fun k => k = B) w' w'') : OwF w'' w.heap.size v l :=
 ownsRow_base (ownsRow_of_block h (fun g hg => h2.block g (h.lt g hg).2 (fun hk => by have := (h.lt g hg).1; omega))) hs
set_option linter.unusedSimpArgs false in
set_option maxHeartbeats 4000000 in
set_option maxRecDepth 100000 in
theorem read_A (b : Nat) (s : RM) (q : RW) (M : Nat → Prop) (r : RQ) (xo : Option Addr) (xn xc : Nat) (place i : Nat) (c : CM) (w : World) (h : RsAt w b s q M) (hfv : r.fv = .slice xo xn xc) (hS : s.S.length ≤ 140737488355328) (hl : s.C.length ≤ 256) (hc : s.C[i]? = some c) (hrc : r.rc = i + 1) (hG : c.G.length ≤ 140737488355328) (hV : c.V.length ≤ 1000) (hVF : ∀ v ∈ c.V, v.F.length ≤ 1000) (hv0 : r.ve = 0) :
  Calls Tryz.prog 59 #[.pointer (some ⟨b, 0, none⟩), r.v, .int .u32 (place : Nat)] w fun e w' => OpPost w b s q M 0 0 (s.read r c) e w' := by
 obtain ⟨N, hN⟩ : ∃ N, r.vn c = N := ⟨_, rfl⟩
 have hNv : N = c.V.length := by rw [← hN, RQ.vn, if_pos hv0]
 obtain ⟨W1, hW1⟩ : ∃ W1, W1 = (w.alloc (.cells r.cs 41)).alloc (.cells #[.int .u32 0, .int .u32 0, .int .u8 0, .int .u32 0, .int .u32 0, .slice none 0 0, .slice none 0 0] 45) := ⟨_, rfl⟩
 have hCB : CB w W1 w.heap.size r := by rw [hW1]; exact CB.new w r
 obtain ⟨g, ccap, hcv, _⟩ := h.chart hc
 obtain ⟨so, sc, hse⟩ := h.st.form
 obtain ⟨go, gc, hge⟩ := own_formX (h.gr i c hc)
 have HCt : Hid (∀ W, Fr (fun _ => False) w W → Calls Tryz.prog 72 #[.pointer (some ⟨b, 0, none⟩), .int .u32 (r.rc : Nat)] W fun e w' => e = .returned (.pointer (some ⟨g, i * 5, none⟩)) ∧ w' = W) := fun W hW => by rw [hrc]; exact chart_any b i c s q M W (h.fr hW) hc hl g ccap hcv
 have HSh : Hid (∀ W, Fr (fun _ => False) w W → Calls Tryz.prog 77 #[.pointer (some ⟨g, i * 5, none⟩)] W fun e w' => e = .returned (.agg #[.int .u32 (c.wa : Nat), .int .u32 (c.ow : Nat), .bool c.sl, .slice go c.G.length gc]) ∧ Fr (fun _ => False) W w') := fun W hW => by
  obtain ⟨g2, cc2, hcv2, k0, k1, k2, k3, k4, kz⟩ := (h.fr hW).chart hc
  rw [hcv] at hcv2
  cases hcv2
  rw [← hge]
  exact sheet_any g (i * 5) c.wa c.ow c.sl (q.gv i) go c.G.length gc W hge k0 k1 k2 k3
 have HP : Hid (∀ W, Fr (fun _ => False) w W → Calls Tryz.prog 80 #[.slice so s.S.length sc, .agg #[.int .u32 (c.wa : Nat), .int .u32 (c.ow : Nat), .bool c.sl, .slice go c.G.length gc], .int .u32 (r.ac : Nat)] W fun e w' => e = .returned (.int .u8 ((rdCode s.S r.ac c : Nat) : Int)) ∧ Fr (fun _ => False) W w') := fun W hW => by
  rw [← hse, ← hge]
  exact pread_any q.sv s.S c.wa c.ow c.sl (q.gv i) c.G r.ac W ((h.fr hW).st) hS (own_us ((h.fr hW).gr i c hc)) hG
 have HSt : Hid (∀ W, Fr (fun _ => False) w W → W.cell? ⟨b, 0, none⟩ = some (.slice so s.S.length sc)) := fun W hW => by rw [← hse]; exact (h.fr hW).cells.1
 have HC := hide hCB
 have HH := hide h
 have HS : Hid (∀ W, CB w W w.heap.size { r with ve := N } → W.cell? ⟨b, 0, none⟩ = some (.slice so s.S.length sc) ∧ W.cell? ⟨w.heap.size, 2, none⟩ = some (.int .u32 (r.ac : Nat))) := fun W hW => ⟨(unhide HSt) W hW.f, hW.cells.2.2.1⟩
 have HR4 : Hid (∀ W, CB w W w.heap.size { r with ve := N } → W.cell? ⟨w.heap.size, 4, none⟩ = some (.int .u32 (r.rc : Nat)) ∧ W.cell? ⟨w.heap.size, 5, none⟩ = some (.int .u32 (N : Nat)) ∧ W.cell? ⟨w.heap.size, 2, none⟩ = some (.int .u32 (r.ac : Nat))) := fun W hW => ⟨hW.cells.2.2.2.2.1, hW.cells.2.2.2.2.2.1, hW.cells.2.2.1⟩
 have HRf : Hid (∀ (cd : Nat) W, Calls Tryz.prog 36 #[.int .u8 (cd : Nat)] W fun e w' => e = .returned (.agg #[.int .u32 0, .int .u32 0, .int .u8 (cd : Nat), .int .u32 0, .int .u32 0, .slice none 0 0, .slice none 0 0]) ∧ Fr (fun _ => False) W w') := fun cd W => refusal_any cd W
 have HE0 : Hid (rdCode s.S r.ac c ≠ 0 → s.read r c = (s, RA.no (rdCode s.S r.ac c))) := fun h => by simp [RM.read, h]
 have HE1 : Hid (rdCode s.S r.ac c = 0 → N = 0 → s.read r c = (s, RA.no 4)) := fun h h1 => by simp [RM.read, h, hN, h1]
 have HE2 : Hid (rdCode s.S r.ac c = 0 → ¬ N = 0 → c.V[N - 1]? = none → s.read r c = (s, RA.no 4)) := fun h h1 h2 => by simp [RM.read, h, hN, h1, h2]
 have HE3 : Hid (∀ v, rdCode s.S r.ac c = 0 → ¬ N = 0 → c.V[N - 1]? = some v → v.rd = true → s.read r c = (s, RA.no 8)) := fun v h h1 h2 h3 => by simp [RM.read, h, hN, h1, h2, h3]
 have HE4 : Hid (∀ v, rdCode s.S r.ac c = 0 → ¬ N = 0 → c.V[N - 1]? = some v → v.rd = false → s.read r c = (s, ⟨0, r.rc, N, v.F, []⟩)) := fun v h h1 h2 h3 => by simp [RM.read, h, hN, h1, h2, h3]
 generalize s.read r c = X at *
 generalize rdCode s.S r.ac c = code at *
 obtain ⟨vo, vc, hve0⟩ := own_formX (h.ve i c hc)
 have HV4 : Hid (∀ W, Fr (fun _ => False) w W → W.cell? ⟨g, i * 5 + 4, none⟩ = some (.slice vo c.V.length vc)) := fun W hW => by
  obtain ⟨g2, cc2, hcv2, k0, k1, k2, k3, k4, kz⟩ := (h.fr hW).chart hc
  rw [hcv] at hcv2
  cases hcv2
  rw [← hve0]
  exact k4
 have HLa : Hid (∀ W, Fr (fun _ => False) w W → Calls Tryz.prog 74 #[.pointer (some ⟨g, i * 5, none⟩)] W fun e w' => e = .returned (.int .u32 (c.V.length : Nat)) ∧ w' = W) := fun W hW => last_any g (i * 5) c.V.length vo vc W ((unhide HV4) W hW) hV
 rw [← hNv] at HLa
 have HHas : Hid (∀ W, Fr (fun _ => False) w W → Calls Tryz.prog 78 #[.pointer (some ⟨g, i * 5, none⟩), .int .u32 (N : Nat)] W fun e w' => e = .returned (.bool (decide (1 ≤ N) && decide (N ≤ c.V.length))) ∧ w' = W) := fun W hW => chas_any g (i * 5) c.V.length N vo vc W ((unhide HV4) W hW) hV
 have HVer : Hid (∀ (j : Nat) (v : VM), N = j + 1 → c.V[j]? = some v → ∃ vg xo2 xn2 xc2, q.fv i j = .slice xo2 xn2 xc2 ∧ (∀ W, Fr (fun _ => False) w W → W.cell? ⟨vg, j * 4 + 2, none⟩ = some (.slice xo2 xn2 xc2) ∧ W.cell? ⟨vg, j * 4 + 3, none⟩ = some (.bool v.rd)) ∧ vg < w.heap.size ∧ (∀ W, Fr (fun _ => False) w W → Calls Tryz.prog 73 #[.pointer (some ⟨g, i * 5, none⟩), .int .u32 (N : Nat)] W fun e w' => e = .returned (.pointer (some ⟨vg, j * 4, none⟩)) ∧ w' = W) ∧ ∀ W, Fr (fun _ => False) w W → Calls Tryz.prog 53 #[.slice xo2 xn2 xc2] W fun e w' => ∃ x, e = .returned x ∧ OwF w' W.heap.size x v.F ∧ Fr (fun _ => False) W w') := fun j v hm hv => by
  obtain ⟨vg, cc2, e1, _⟩ := h.version hc hv
  have hfl := h.fl i c j v hc hv
  obtain ⟨xo2, xc2, ex⟩ := hfl.f.form
  have e2 := hve0
  rw [e1] at e2
  cases e2
  subst hm
  refine ⟨vg, xo2, _, xc2, ex, fun W hW => ?_, h.lt vg (h.mv i c hc vg (by rw [e1]; rfl)), fun W hW => version_any g (i * 5) c.V.length j vg vc W (by rw [(unhide HV4) W hW]) (List.getElem?_eq_some_iff.1 hv).1 hV, fun W hW => ?_⟩
  ·obtain ⟨vg3, cc3, e3, k0, k1, k2, k3, kz⟩ := (h.fr hW).version hc hv
   rw [e1] at e3
   cases e3
   rw [← ex]
   exact ⟨k2, k3⟩
  ·have hw := (h.fr hW).fl i c j v hc hv
   rw [← ex]
   exact fclone_any _ v.F W ⟨hw.f, fun g o n c e h0 => hw.ltg e h0, hw.c, hw.z⟩ (hVF v (List.mem_of_getElem? hv))
 have HNv := hide hNv
 have HV0 := hide hv0
 clear hve0 hVF hN hv0
 clear hNv
 obtain ⟨_, _, _, _, d3, d4, _⟩ := (unhide HC).cells
 have HZ := hide (unhide HC).r
 simp only [RQ.v, RQ.cs] at *
 rw [hfv] at hW1 ⊢
 clear hCB h hse hge hc hrc hG
 go_enter Tryz.func59, Tryz.ntmps59
 go_wp2_with fail
 rw [← hW1]
 clear hW1
 go_wp2_with fail
 refine ((unhide HCt) _ (unhide HC).f).mono ?_
 rintro e w' ⟨rfl, hw⟩
 obtain rfl := hw.symm
 clear hw
 rw [unhide HV0] at d4
 go_wp2_with fail
 refine ((unhide HLa) _ (unhide HC).f).mono ?_
 rintro e w' ⟨rfl, hw⟩
 obtain rfl := hw.symm
 have z5 : W1.frozen? ⟨w.heap.size, 5, none⟩ = false := by simp [World.frozen?, unhide HZ]
 clear hw
 go_wp2_with fail
 generalize hW2 : W1.setCell ⟨w.heap.size, 5, none⟩ (.int .u32 (N : Nat)) = W2
 have HC2 : Hid (CB w W2 w.heap.size { r with ve := N }) := by rw [← hW2]; exact (unhide HC).setVe N
 clear hW2 HC d3 d4 z5 HZ
 have HC := HC2
 clear HC2
 go_wp2_with fail
 go_region_held3 (fun W => W.cell? ⟨b, 0, none⟩ = some (.slice so s.S.length sc) ∧ W.cell? ⟨w.heap.size, 2, none⟩ = some (.int .u32 (r.ac : Nat)))
  (first | exact (unhide HS) _ ((unhide HC).step (Fr.refl _ _).drew) | exact (unhide HS) _ (unhide H1) | exact (unhide HS) _ (unhide H2))
  (first
   | (go_at_call 77; refine ((unhide HSh) _ ((unhide HC).step (Fr.refl _ _).drew).f).mono ?_; rintro e w1 ⟨rfl, hf1⟩; have H1 := hide (((unhide HC).step (Fr.refl _ _).drew).step hf1); clear hf1)
   | (go_at_call 80; refine ((unhide HP) _ (unhide H1).f).mono ?_; rintro e w2 ⟨rfl, hf2⟩; have H2 := hide ((unhide H1).step hf2); clear hf2))
 all_goals
  clear HP HS HSt HC HCt HSh H1
  have HR4' := hide ((unhide HR4) _ (unhide H2))
  by_cases hz : code = 0
  ·subst hz
   obtain ⟨d3, d4, _⟩ := unhide HR4'
   by_cases h1 : N = 0
   ·have HB := hide ((unhide HHas) w2 (unhide H2).f)
    rw [h1, show (decide (1 ≤ 0) && decide (0 ≤ c.V.length)) = false from rfl] at HB
    rw [h1] at d4
    have HX := hide ((unhide HE1) (by trivial) h1)
    clear HE0 HE1 HE2 HE3 HE4 HHas HVer HLa HV4 HR4'
    go_wp2_with fail
    refine (unhide HB).mono ?_
    rintro e w' ⟨rfl, rfl⟩
    clear HB
    go_wp2_with fail
    refine ((unhide HRf) 4 _).mono ?_
    rintro e w3 ⟨rfl, hf3⟩
    have h3 := (unhide H2).step hf3
    obtain ⟨e0, e1, e2, e3, e4, e5, e6, z0, z1, z2, z3, z4, z5, z6⟩ := h3.ans
    have H3 := hide h3.f
    clear h3 hf3
    go_wp2_with fail
    (try simp only [Exit.inBlock, Exit.then])
    refine bodyPost_ret (results_cell_mid rfl _ _ (w.heap.size + 1) 0 [.int .u32 0, .int .u32 0, .int .u8 ((4 : Nat) : Int), .int .u32 0, .int .u32 0, .slice none 0 0, .slice none 0 0] _ rfl ?_ Tryz.underlying45 rfl (by kernel_rfl)) rfl ?_
    ·intro j v hv
     rcases j with _ | _ | _ | _ | _ | _ | _ | j
     ·simp at hv; subst hv; go_simp
     ·simp at hv; subst hv; go_simp
     ·simp at hv; subst hv; go_simp
     ·simp at hv; subst hv; go_simp
     ·simp at hv; subst hv; go_simp
     ·simp at hv; subst hv; go_simp
     ·simp at hv; subst hv; go_simp
     ·simp at hv
    ·rw [unhide HX]; refine OpPost.no rfl ?_
     repeat refine Fr.setCell ?_ (.inr (by simp)) _
     exact unhide H3
   ·by_cases h2 : N ≤ c.V.length
    ·obtain ⟨j, hj⟩ : ∃ j, N = j + 1 := ⟨N - 1, by omega⟩
     obtain ⟨v, hv⟩ : ∃ v, c.V[j]? = some v := ⟨c.V[j], List.getElem?_eq_getElem (by omega)⟩
     obtain ⟨vg, xo2, xn2, xc2, hx2, hvc, hvl, hcall, hclone⟩ := (unhide HVer) j v hj hv
     have HVc := hide hvc
     have HCV := hide hcall
     have HCl := hide hclone
     have ej : N - 1 = j := by omega
     have HB := hide ((unhide HHas) w2 (unhide H2).f)
     rw [decide_eq_true (by omega : 1 ≤ N), decide_eq_true h2, Bool.true_and] at HB
     have hv' : c.V[N - 1]? = some v := by rw [ej]; exact hv
     obtain ⟨v2, v3⟩ := (unhide HVc) _ (unhide H2).f
     cases hrd : v.rd with
     | true =>
      have HX := hide ((unhide HE3) v (by trivial) h1 hv' hrd)
      rw [hrd] at v3
      clear HE0 HE1 HE2 HE3 HE4 hv' hv ej hj hcall hclone hvc HHas HVer HLa HV4 hx2 hvl HVc HCl
      go_wp2_with fail
      refine (unhide HB).mono ?_
      rintro e w' ⟨rfl, rfl⟩
      clear HB
      go_wp2_with fail
      refine ((unhide HCV) _ (unhide H2).f).mono ?_
      rintro e w' ⟨rfl, rfl⟩
      go_wp2_with fail
      refine ((unhide HRf) 8 _).mono ?_
      rintro e w3 ⟨rfl, hf3⟩
      have h3 := (unhide H2).step hf3
      obtain ⟨e0, e1, e2, e3, e4, e5, e6, z0, z1, z2, z3, z4, z5, z6⟩ := h3.ans
      have H3 := hide h3.f
      clear h3 hf3
      go_wp2_with fail
      (try simp only [Exit.inBlock, Exit.then])
      refine bodyPost_ret (results_cell_mid rfl _ _ (w.heap.size + 1) 0 [.int .u32 0, .int .u32 0, .int .u8 ((8 : Nat) : Int), .int .u32 0, .int .u32 0, .slice none 0 0, .slice none 0 0] _ rfl ?_ Tryz.underlying45 rfl (by kernel_rfl)) rfl ?_
      ·intro j v hv
       rcases j with _ | _ | _ | _ | _ | _ | _ | j
       ·simp at hv; subst hv; go_simp
       ·simp at hv; subst hv; go_simp
       ·simp at hv; subst hv; go_simp
       ·simp at hv; subst hv; go_simp
       ·simp at hv; subst hv; go_simp
       ·simp at hv; subst hv; go_simp
       ·simp at hv; subst hv; go_simp
       ·simp at hv
      ·rw [unhide HX]; refine OpPost.no rfl ?_
       repeat refine Fr.setCell ?_ (.inr (by simp)) _
       exact unhide H3
     | false =>
      have HX := hide ((unhide HE4) v (by trivial) h1 hv' hrd)
      rw [hrd] at v3 HVc
      have HS11 : Hid (∀ W, CB w W w.heap.size { r with ve := N } → W.cell? ⟨w.heap.size, 4, none⟩ = some (.int .u32 (r.rc : Nat)) ∧ W.cell? ⟨w.heap.size, 5, none⟩ = some (.int .u32 (N : Nat)) ∧ W.cell? ⟨vg, j * 4 + 2, none⟩ = some (.slice xo2 xn2 xc2)) := fun W hW => ⟨((unhide HR4) W hW).1, ((unhide HR4) W hW).2.1, ((unhide HVc) W hW.f).1⟩
      have HPUT : Hid (∀ x w4, OwF w4 w2.drew.heap.size x v.F → Fr (fun _ => False) w2.drew w4 → ∃ xo4 xc4 W8, x = .slice xo4 v.F.length xc4 ∧ (Instr.storeAt 45 (.pointer (some ⟨w.heap.size + 1, 0, none⟩)) (.agg #[.int .u32 0, .int .u32 0, .int .u8 0, .int .u32 (r.rc : Nat), .int .u32 (N : Nat), .slice xo4 v.F.length xc4, .slice none 0 0])).run Tryz.prog w4 = .ok () W8 ∧ (W8.cell? ⟨w.heap.size, 4, none⟩ = some (.int .u32 (r.rc : Nat)) ∧ W8.cell? ⟨w.heap.size, 5, none⟩ = some (.int .u32 (N : Nat)) ∧ W8.cell? ⟨vg, j * 4 + 2, none⟩ = some (.slice xo2 xn2 xc2)) ∧ (W8.heap[w.heap.size + 1]? = some (.cells [Value.int .u32 0, .int .u32 0, .int .u8 0, .int .u32 (r.rc : Nat), .int .u32 (N : Nat), .slice xo4 v.F.length xc4, .slice none 0 0].toArray 45) ∧ Fr (fun _ => False) w W8 ∧ OwF W8 w.heap.size (.slice xo4 v.F.length xc4) v.F)) := fun x w4 ho hf => by
       obtain ⟨xo4, xc4, rfl⟩ := own_formX ho
       have h4 := ((unhide H2).step (Fr.refl _ _).drew).step hf
       obtain ⟨W8, hst, hb8, hf8⟩ := ans_put h4.a (.int .u32 0) (.int .u32 0) (.int .u8 0) (.int .u32 (r.rc : Nat)) (.int .u32 (N : Nat)) (.slice xo4 v.F.length xc4) (.slice none 0 0) (fun u hu => by simp at hu; rcases hu with rfl | rfl | rfl | rfl | rfl | rfl | rfl <;> rfl)
       obtain ⟨s1, s2, s3⟩ := (unhide HS11) w4 h4
       have hB : w.heap.size + 1 < w2.drew.heap.size := lt_of_block (unhide H2).a
       exact ⟨xo4, xc4, W8, rfl, hst, ⟨(hf8.cell (p := ⟨w.heap.size, 4, none⟩) (lt_of_cell s1) (by show ¬ w.heap.size = w.heap.size + 1; omega)).trans s1, (hf8.cell (p := ⟨w.heap.size, 5, none⟩) (lt_of_cell s2) (by show ¬ w.heap.size = w.heap.size + 1; omega)).trans s2, (hf8.cell (p := ⟨vg, j * 4 + 2, none⟩) (lt_of_cell s3) (by show ¬ vg = w.heap.size + 1; omega)).trans s3⟩, hb8, h4.f.absorb hf8 (fun i hi => by omega), ho.out (by have := (unhide H2).f.size; exact this) hB hf8⟩
      clear HE0 HE1 HE2 HE3 HE4 hv' hv ej hj hcall hclone hvc HHas HVer HLa HV4 hx2 hrd
      go_wp2_with fail
      refine (unhide HB).mono ?_
      rintro e w' ⟨rfl, hw⟩
      obtain rfl := hw.symm
      clear HB hw
      go_wp2_with fail
      refine ((unhide HCV) _ (unhide H2).f).mono ?_
      rintro e w' ⟨rfl, hw⟩
      obtain rfl := hw.symm
      clear hw
      go_wp2_with fail
      refine wp_region_last (n := 13) (m := 13) (S := (fun W => W.cell? ⟨w.heap.size, 4, none⟩ = some (.int .u32 (r.rc : Nat)) ∧ W.cell? ⟨w.heap.size, 5, none⟩ = some (.int .u32 (N : Nat)) ∧ W.cell? ⟨vg, j * 4 + 2, none⟩ = some (.slice xo2 xn2 xc2))) (by kernel_rfl) rfl rfl rfl (by kernel_rfl) (by kernel_rfl) ((unhide HS11) _ ((unhide H2).step (Fr.refl _ _).drew)) (fun hHeld => ?_)
      refine wtk2 (i := 0) rfl hHeld ?_
      (try simp only [Act.put, nrm])
      refine wtk2 (i := 1) rfl hHeld ?_
      (try simp only [Act.put, nrm])
      refine wtk2 (i := 2) rfl hHeld ?_
      (try simp only [Act.put, nrm])
      refine wtk2 (i := 3) rfl hHeld ?_
      (try simp only [Act.put, nrm])
      refine wtk2 (i := 4) rfl hHeld ?_
      (try simp only [Act.put, nrm])
      refine wtk2 (i := 5) rfl hHeld ?_
      (try simp only [Act.put, nrm])
      refine wtk2 (i := 6) rfl hHeld ?_
      (try simp only [Act.put, nrm])
      refine wpAnyH_ready (rs := [7]) (by kernel_rfl) (by simp) (AllReadyH.cons rfl (fun K hK => ?_) AllReadyH.nil)
      go_simp
      refine ((unhide HCV) _ ((unhide H2).step (Fr.refl _ _).drew).f).mono ?_
      rintro e w' ⟨rfl, hw⟩
      obtain rfl := hw.symm
      clear hw
      go_simp
      refine hK.out _ _ ((unhide HS11) _ ((unhide H2).step (Fr.refl _ _).drew)) (fun hHeld => ?_)
      clear hK K
      (try simp only [Act.put, nrm])
      refine wtk2 (i := 8) rfl hHeld ?_
      (try simp only [Act.put, nrm])
      refine wtk2 (i := 9) rfl hHeld ?_
      (try simp only [Act.put, nrm])
      refine wtk2 (i := 10) rfl hHeld ?_
      (try simp only [Act.put, nrm])
      refine wpAnyH_ready (rs := [11]) (by kernel_rfl) (by simp) (AllReadyH.cons rfl (fun K hK => ?_) AllReadyH.nil)
      go_simp
      refine ((unhide HCl) _ ((unhide H2).step (Fr.refl _ _).drew).f).mono ?_
      rintro e w4 ⟨x, rfl, ho, hf4⟩
      obtain ⟨xo4, xc4, W8, rfl, hst, hS8, hO8⟩ := (unhide HPUT) x w4 ho hf4
      have H4 := hide (((unhide H2).step (Fr.refl _ _).drew).step hf4)
      have HST := hide hst
      have HO8 := hide hO8
      clear ho hf4 hst hO8 hS8
      go_simp
      refine hK.out _ _ ((unhide HS11) _ (unhide H4)) (fun hHeld => ?_)
      clear hK K
      (try simp only [Act.put, nrm])
      refine wtk2 (i := 12) rfl hHeld ?_
      (try simp only [Act.put, nrm])
      refine wpAnyH_done (by kernel_rfl) ?_ _
      simp only [lastQ]
      refine wp_stN 45 (.tmp 6) (.tmp 61) rfl _ _ (by simp [Act.eval]) (by simp [Act.eval]) (unhide HST) ?_
      (try simp only [Act.put, nrm])
      (
       obtain ⟨b8, f8, o8⟩ := unhide HO8
       have HR8 := hide (range_of_block b8)
       have HO9 := hide (And.intro f8 o8)
       clear b8 f8 o8 HO8 H4 HST HPUT HS11 HCV HCl HVc
       go_wp2_with fail
       refine bodyPost_ret (results_cell_mid rfl _ _ (w.heap.size + 1) 0 _ _ rfl (unhide HR8) Tryz.underlying45 rfl (by kernel_rfl)) rfl ?_
       rw [unhide HX]
       exact ⟨_, _, rfl, .inl ⟨rfl, (unhide HO9).1, (unhide HO9).2, World.ownsRow_nil _ _ _ _⟩⟩)
    ·have hn : c.V[N - 1]? = none := List.getElem?_eq_none (by omega)
     have HB := hide ((unhide HHas) w2 (unhide H2).f)
     rw [decide_eq_false h2, Bool.and_false] at HB
     have HX := hide ((unhide HE2) (by trivial) h1 hn)
     clear HE0 HE1 HE2 HE3 HE4 hn HHas HVer HLa HV4
     go_wp2_with fail
     refine (unhide HB).mono ?_
     rintro e w' ⟨rfl, rfl⟩
     clear HB
     go_wp2_with fail
     refine ((unhide HRf) 4 _).mono ?_
     rintro e w3 ⟨rfl, hf3⟩
     have h3 := (unhide H2).step hf3
     obtain ⟨e0, e1, e2, e3, e4, e5, e6, z0, z1, z2, z3, z4, z5, z6⟩ := h3.ans
     have H3 := hide h3.f
     clear h3 hf3
     go_wp2_with fail
     (try simp only [Exit.inBlock, Exit.then])
     refine bodyPost_ret (results_cell_mid rfl _ _ (w.heap.size + 1) 0 [.int .u32 0, .int .u32 0, .int .u8 ((4 : Nat) : Int), .int .u32 0, .int .u32 0, .slice none 0 0, .slice none 0 0] _ rfl ?_ Tryz.underlying45 rfl (by kernel_rfl)) rfl ?_
     ·intro j v hv
      rcases j with _ | _ | _ | _ | _ | _ | _ | j
      ·simp at hv; subst hv; go_simp
      ·simp at hv; subst hv; go_simp
      ·simp at hv; subst hv; go_simp
      ·simp at hv; subst hv; go_simp
      ·simp at hv; subst hv; go_simp
      ·simp at hv; subst hv; go_simp
      ·simp at hv; subst hv; go_simp
      ·simp at hv
     ·rw [unhide HX]; refine OpPost.no rfl ?_
      repeat refine Fr.setCell ?_ (.inr (by simp)) _
      exact unhide H3
  ·have hc' : ((code : Int) != 0) = true := by rw [bne_iff_ne]; omega
   have HX := hide ((unhide HE0) hz)
   clear HE0 HE1 HE2 HE3 HE4 HR4 HR4' HHas HVer HLa HV4
   go_wp2_with fail
   refine ((unhide HRf) code _).mono ?_
   rintro e w3 ⟨rfl, hf3⟩
   have h3 := (unhide H2).step hf3
   obtain ⟨e0, e1, e2, e3, e4, e5, e6, z0, z1, z2, z3, z4, z5, z6⟩ := h3.ans
   have H3 := hide h3.f
   clear h3 hf3
   go_wp2_with fail
   (try simp only [Exit.inBlock, Exit.then])
   refine bodyPost_ret (results_cell_mid rfl _ _ (w.heap.size + 1) 0 [.int .u32 0, .int .u32 0, .int .u8 ((code : Nat) : Int), .int .u32 0, .int .u32 0, .slice none 0 0, .slice none 0 0] _ rfl ?_ Tryz.underlying45 rfl (by kernel_rfl)) rfl ?_
   ·intro j v hv
    rcases j with _ | _ | _ | _ | _ | _ | _ | j
    ·simp at hv; subst hv; go_simp
    ·simp at hv; subst hv; go_simp
    ·simp at hv; subst hv; go_simp
    ·simp at hv; subst hv; go_simp
    ·simp at hv; subst hv; go_simp
    ·simp at hv; subst hv; go_simp
    ·simp at hv; subst hv; go_simp
    ·simp at hv
   ·rw [unhide HX]; refine OpPost.no rfl ?_
    repeat refine Fr.setCell ?_ (.inr (by simp)) _
    exact unhide H3
set_option linter.unusedSimpArgs false in
set_option maxHeartbeats 4000000 in
set_option maxRecDepth 100000 in
theorem read_B (b : Nat) (s : RM) (q : RW) (M : Nat → Prop) (r : RQ) (xo : Option Addr) (xn xc : Nat) (place i : Nat) (c : CM) (w : World) (h : RsAt w b s q M) (hfv : r.fv = .slice xo xn xc) (hS : s.S.length ≤ 140737488355328) (hl : s.C.length ≤ 256) (hc : s.C[i]? = some c) (hrc : r.rc = i + 1) (hG : c.G.length ≤ 140737488355328) (hV : c.V.length ≤ 1000) (hVF : ∀ v ∈ c.V, v.F.length ≤ 1000) (hv0 : ¬ r.ve = 0) :
  Calls Tryz.prog 59 #[.pointer (some ⟨b, 0, none⟩), r.v, .int .u32 (place : Nat)] w fun e w' => OpPost w b s q M 0 0 (s.read r c) e w' := by
 obtain ⟨N, hN⟩ : ∃ N, r.vn c = N := ⟨_, rfl⟩
 have hNv : N = r.ve := by rw [← hN, RQ.vn, if_neg hv0]
 obtain ⟨W1, hW1⟩ : ∃ W1, W1 = (w.alloc (.cells r.cs 41)).alloc (.cells #[.int .u32 0, .int .u32 0, .int .u8 0, .int .u32 0, .int .u32 0, .slice none 0 0, .slice none 0 0] 45) := ⟨_, rfl⟩
 have hCB : CB w W1 w.heap.size r := by rw [hW1]; exact CB.new w r
 obtain ⟨g, ccap, hcv, _⟩ := h.chart hc
 obtain ⟨so, sc, hse⟩ := h.st.form
 obtain ⟨go, gc, hge⟩ := own_formX (h.gr i c hc)
 have HCt : Hid (∀ W, Fr (fun _ => False) w W → Calls Tryz.prog 72 #[.pointer (some ⟨b, 0, none⟩), .int .u32 (r.rc : Nat)] W fun e w' => e = .returned (.pointer (some ⟨g, i * 5, none⟩)) ∧ w' = W) := fun W hW => by rw [hrc]; exact chart_any b i c s q M W (h.fr hW) hc hl g ccap hcv
 have HSh : Hid (∀ W, Fr (fun _ => False) w W → Calls Tryz.prog 77 #[.pointer (some ⟨g, i * 5, none⟩)] W fun e w' => e = .returned (.agg #[.int .u32 (c.wa : Nat), .int .u32 (c.ow : Nat), .bool c.sl, .slice go c.G.length gc]) ∧ Fr (fun _ => False) W w') := fun W hW => by
  obtain ⟨g2, cc2, hcv2, k0, k1, k2, k3, k4, kz⟩ := (h.fr hW).chart hc
  rw [hcv] at hcv2
  cases hcv2
  rw [← hge]
  exact sheet_any g (i * 5) c.wa c.ow c.sl (q.gv i) go c.G.length gc W hge k0 k1 k2 k3
 have HP : Hid (∀ W, Fr (fun _ => False) w W → Calls Tryz.prog 80 #[.slice so s.S.length sc, .agg #[.int .u32 (c.wa : Nat), .int .u32 (c.ow : Nat), .bool c.sl, .slice go c.G.length gc], .int .u32 (r.ac : Nat)] W fun e w' => e = .returned (.int .u8 ((rdCode s.S r.ac c : Nat) : Int)) ∧ Fr (fun _ => False) W w') := fun W hW => by
  rw [← hse, ← hge]
  exact pread_any q.sv s.S c.wa c.ow c.sl (q.gv i) c.G r.ac W ((h.fr hW).st) hS (own_us ((h.fr hW).gr i c hc)) hG
 have HSt : Hid (∀ W, Fr (fun _ => False) w W → W.cell? ⟨b, 0, none⟩ = some (.slice so s.S.length sc)) := fun W hW => by rw [← hse]; exact (h.fr hW).cells.1
 have HC := hide hCB
 have HH := hide h
 have HS : Hid (∀ W, CB w W w.heap.size { r with ve := N } → W.cell? ⟨b, 0, none⟩ = some (.slice so s.S.length sc) ∧ W.cell? ⟨w.heap.size, 2, none⟩ = some (.int .u32 (r.ac : Nat))) := fun W hW => ⟨(unhide HSt) W hW.f, hW.cells.2.2.1⟩
 have HR4 : Hid (∀ W, CB w W w.heap.size { r with ve := N } → W.cell? ⟨w.heap.size, 4, none⟩ = some (.int .u32 (r.rc : Nat)) ∧ W.cell? ⟨w.heap.size, 5, none⟩ = some (.int .u32 (N : Nat)) ∧ W.cell? ⟨w.heap.size, 2, none⟩ = some (.int .u32 (r.ac : Nat))) := fun W hW => ⟨hW.cells.2.2.2.2.1, hW.cells.2.2.2.2.2.1, hW.cells.2.2.1⟩
 have HRf : Hid (∀ (cd : Nat) W, Calls Tryz.prog 36 #[.int .u8 (cd : Nat)] W fun e w' => e = .returned (.agg #[.int .u32 0, .int .u32 0, .int .u8 (cd : Nat), .int .u32 0, .int .u32 0, .slice none 0 0, .slice none 0 0]) ∧ Fr (fun _ => False) W w') := fun cd W => refusal_any cd W
 have HE0 : Hid (rdCode s.S r.ac c ≠ 0 → s.read r c = (s, RA.no (rdCode s.S r.ac c))) := fun h => by simp [RM.read, h]
 have HE1 : Hid (rdCode s.S r.ac c = 0 → N = 0 → s.read r c = (s, RA.no 4)) := fun h h1 => by simp [RM.read, h, hN, h1]
 have HE2 : Hid (rdCode s.S r.ac c = 0 → ¬ N = 0 → c.V[N - 1]? = none → s.read r c = (s, RA.no 4)) := fun h h1 h2 => by simp [RM.read, h, hN, h1, h2]
 have HE3 : Hid (∀ v, rdCode s.S r.ac c = 0 → ¬ N = 0 → c.V[N - 1]? = some v → v.rd = true → s.read r c = (s, RA.no 8)) := fun v h h1 h2 h3 => by simp [RM.read, h, hN, h1, h2, h3]
 have HE4 : Hid (∀ v, rdCode s.S r.ac c = 0 → ¬ N = 0 → c.V[N - 1]? = some v → v.rd = false → s.read r c = (s, ⟨0, r.rc, N, v.F, []⟩)) := fun v h h1 h2 h3 => by simp [RM.read, h, hN, h1, h2, h3]
 generalize s.read r c = X at *
 generalize rdCode s.S r.ac c = code at *
 obtain ⟨vo, vc, hve0⟩ := own_formX (h.ve i c hc)
 have HV4 : Hid (∀ W, Fr (fun _ => False) w W → W.cell? ⟨g, i * 5 + 4, none⟩ = some (.slice vo c.V.length vc)) := fun W hW => by
  obtain ⟨g2, cc2, hcv2, k0, k1, k2, k3, k4, kz⟩ := (h.fr hW).chart hc
  rw [hcv] at hcv2
  cases hcv2
  rw [← hve0]
  exact k4
 have HLa : Hid (∀ W, Fr (fun _ => False) w W → Calls Tryz.prog 74 #[.pointer (some ⟨g, i * 5, none⟩)] W fun e w' => e = .returned (.int .u32 (c.V.length : Nat)) ∧ w' = W) := fun W hW => last_any g (i * 5) c.V.length vo vc W ((unhide HV4) W hW) hV
 have HHas : Hid (∀ W, Fr (fun _ => False) w W → Calls Tryz.prog 78 #[.pointer (some ⟨g, i * 5, none⟩), .int .u32 (N : Nat)] W fun e w' => e = .returned (.bool (decide (1 ≤ N) && decide (N ≤ c.V.length))) ∧ w' = W) := fun W hW => chas_any g (i * 5) c.V.length N vo vc W ((unhide HV4) W hW) hV
 have HVer : Hid (∀ (j : Nat) (v : VM), N = j + 1 → c.V[j]? = some v → ∃ vg xo2 xn2 xc2, q.fv i j = .slice xo2 xn2 xc2 ∧ (∀ W, Fr (fun _ => False) w W → W.cell? ⟨vg, j * 4 + 2, none⟩ = some (.slice xo2 xn2 xc2) ∧ W.cell? ⟨vg, j * 4 + 3, none⟩ = some (.bool v.rd)) ∧ vg < w.heap.size ∧ (∀ W, Fr (fun _ => False) w W → Calls Tryz.prog 73 #[.pointer (some ⟨g, i * 5, none⟩), .int .u32 (N : Nat)] W fun e w' => e = .returned (.pointer (some ⟨vg, j * 4, none⟩)) ∧ w' = W) ∧ ∀ W, Fr (fun _ => False) w W → Calls Tryz.prog 53 #[.slice xo2 xn2 xc2] W fun e w' => ∃ x, e = .returned x ∧ OwF w' W.heap.size x v.F ∧ Fr (fun _ => False) W w') := fun j v hm hv => by
  obtain ⟨vg, cc2, e1, _⟩ := h.version hc hv
  have hfl := h.fl i c j v hc hv
  obtain ⟨xo2, xc2, ex⟩ := hfl.f.form
  have e2 := hve0
  rw [e1] at e2
  cases e2
  subst hm
  refine ⟨vg, xo2, _, xc2, ex, fun W hW => ?_, h.lt vg (h.mv i c hc vg (by rw [e1]; rfl)), fun W hW => version_any g (i * 5) c.V.length j vg vc W (by rw [(unhide HV4) W hW]) (List.getElem?_eq_some_iff.1 hv).1 hV, fun W hW => ?_⟩
  ·obtain ⟨vg3, cc3, e3, k0, k1, k2, k3, kz⟩ := (h.fr hW).version hc hv
   rw [e1] at e3
   cases e3
   rw [← ex]
   exact ⟨k2, k3⟩
  ·have hw := (h.fr hW).fl i c j v hc hv
   rw [← ex]
   exact fclone_any _ v.F W ⟨hw.f, fun g o n c e h0 => hw.ltg e h0, hw.c, hw.z⟩ (hVF v (List.mem_of_getElem? hv))
 have HNv := hide hNv
 have HV0 := hide hv0
 clear hve0 hVF hN hv0
 clear hNv
 obtain ⟨_, _, _, _, d3, d4, _⟩ := (unhide HC).cells
 have HZ := hide (unhide HC).r
 simp only [RQ.v, RQ.cs] at *
 rw [hfv] at hW1 ⊢
 clear hCB h hse hge hc hrc hG
 go_enter Tryz.func59, Tryz.ntmps59
 go_wp2_with fail
 rw [← hW1]
 clear hW1
 go_wp2_with fail
 refine ((unhide HCt) _ (unhide HC).f).mono ?_
 rintro e w' ⟨rfl, hw⟩
 obtain rfl := hw.symm
 clear hw
 have h5 : ¬ (r.ve : Int) = 0 := by have := unhide HV0; omega
 go_wp2_with fail
 have HC2 : Hid (CB w W1 w.heap.size { r with ve := N }) := by rw [unhide HNv]; exact unhide HC
 clear HC d3 d4 HZ h5
 have HC := HC2
 clear HC2
 go_wp2_with fail
 go_region_held3 (fun W => W.cell? ⟨b, 0, none⟩ = some (.slice so s.S.length sc) ∧ W.cell? ⟨w.heap.size, 2, none⟩ = some (.int .u32 (r.ac : Nat)))
  (first | exact (unhide HS) _ ((unhide HC).step (Fr.refl _ _).drew) | exact (unhide HS) _ (unhide H1) | exact (unhide HS) _ (unhide H2))
  (first
   | (go_at_call 77; refine ((unhide HSh) _ ((unhide HC).step (Fr.refl _ _).drew).f).mono ?_; rintro e w1 ⟨rfl, hf1⟩; have H1 := hide (((unhide HC).step (Fr.refl _ _).drew).step hf1); clear hf1)
   | (go_at_call 80; refine ((unhide HP) _ (unhide H1).f).mono ?_; rintro e w2 ⟨rfl, hf2⟩; have H2 := hide ((unhide H1).step hf2); clear hf2))
 all_goals
  clear HP HS HSt HC HCt HSh H1
  have HR4' := hide ((unhide HR4) _ (unhide H2))
  by_cases hz : code = 0
  ·subst hz
   obtain ⟨d3, d4, _⟩ := unhide HR4'
   by_cases h1 : N = 0
   ·have HB := hide ((unhide HHas) w2 (unhide H2).f)
    rw [h1, show (decide (1 ≤ 0) && decide (0 ≤ c.V.length)) = false from rfl] at HB
    rw [h1] at d4
    have HX := hide ((unhide HE1) (by trivial) h1)
    clear HE0 HE1 HE2 HE3 HE4 HHas HVer HLa HV4 HR4'
    go_wp2_with fail
    refine (unhide HB).mono ?_
    rintro e w' ⟨rfl, rfl⟩
    clear HB
    go_wp2_with fail
    refine ((unhide HRf) 4 _).mono ?_
    rintro e w3 ⟨rfl, hf3⟩
    have h3 := (unhide H2).step hf3
    obtain ⟨e0, e1, e2, e3, e4, e5, e6, z0, z1, z2, z3, z4, z5, z6⟩ := h3.ans
    have H3 := hide h3.f
    clear h3 hf3
    go_wp2_with fail
    (try simp only [Exit.inBlock, Exit.then])
    refine bodyPost_ret (results_cell_mid rfl _ _ (w.heap.size + 1) 0 [.int .u32 0, .int .u32 0, .int .u8 ((4 : Nat) : Int), .int .u32 0, .int .u32 0, .slice none 0 0, .slice none 0 0] _ rfl ?_ Tryz.underlying45 rfl (by kernel_rfl)) rfl ?_
    ·intro j v hv
     rcases j with _ | _ | _ | _ | _ | _ | _ | j
     ·simp at hv; subst hv; go_simp
     ·simp at hv; subst hv; go_simp
     ·simp at hv; subst hv; go_simp
     ·simp at hv; subst hv; go_simp
     ·simp at hv; subst hv; go_simp
     ·simp at hv; subst hv; go_simp
     ·simp at hv; subst hv; go_simp
     ·simp at hv
    ·rw [unhide HX]; refine OpPost.no rfl ?_
     repeat refine Fr.setCell ?_ (.inr (by simp)) _
     exact unhide H3
   ·by_cases h2 : N ≤ c.V.length
    ·obtain ⟨j, hj⟩ : ∃ j, N = j + 1 := ⟨N - 1, by omega⟩
     obtain ⟨v, hv⟩ : ∃ v, c.V[j]? = some v := ⟨c.V[j], List.getElem?_eq_getElem (by omega)⟩
     obtain ⟨vg, xo2, xn2, xc2, hx2, hvc, hvl, hcall, hclone⟩ := (unhide HVer) j v hj hv
     have HVc := hide hvc
     have HCV := hide hcall
     have HCl := hide hclone
     have ej : N - 1 = j := by omega
     have HB := hide ((unhide HHas) w2 (unhide H2).f)
     rw [decide_eq_true (by omega : 1 ≤ N), decide_eq_true h2, Bool.true_and] at HB
     have hv' : c.V[N - 1]? = some v := by rw [ej]; exact hv
     obtain ⟨v2, v3⟩ := (unhide HVc) _ (unhide H2).f
     cases hrd : v.rd with
     | true =>
      have HX := hide ((unhide HE3) v (by trivial) h1 hv' hrd)
      rw [hrd] at v3
      clear HE0 HE1 HE2 HE3 HE4 hv' hv ej hj hcall hclone hvc HHas HVer HLa HV4 hx2 hvl HVc HCl
      go_wp2_with fail
      refine (unhide HB).mono ?_
      rintro e w' ⟨rfl, rfl⟩
      clear HB
      go_wp2_with fail
      refine ((unhide HCV) _ (unhide H2).f).mono ?_
      rintro e w' ⟨rfl, rfl⟩
      go_wp2_with fail
      refine ((unhide HRf) 8 _).mono ?_
      rintro e w3 ⟨rfl, hf3⟩
      have h3 := (unhide H2).step hf3
      obtain ⟨e0, e1, e2, e3, e4, e5, e6, z0, z1, z2, z3, z4, z5, z6⟩ := h3.ans
      have H3 := hide h3.f
      clear h3 hf3
      go_wp2_with fail
      (try simp only [Exit.inBlock, Exit.then])
      refine bodyPost_ret (results_cell_mid rfl _ _ (w.heap.size + 1) 0 [.int .u32 0, .int .u32 0, .int .u8 ((8 : Nat) : Int), .int .u32 0, .int .u32 0, .slice none 0 0, .slice none 0 0] _ rfl ?_ Tryz.underlying45 rfl (by kernel_rfl)) rfl ?_
      ·intro j v hv
       rcases j with _ | _ | _ | _ | _ | _ | _ | j
       ·simp at hv; subst hv; go_simp
       ·simp at hv; subst hv; go_simp
       ·simp at hv; subst hv; go_simp
       ·simp at hv; subst hv; go_simp
       ·simp at hv; subst hv; go_simp
       ·simp at hv; subst hv; go_simp
       ·simp at hv; subst hv; go_simp
       ·simp at hv
      ·rw [unhide HX]; refine OpPost.no rfl ?_
       repeat refine Fr.setCell ?_ (.inr (by simp)) _
       exact unhide H3
     | false =>
      have HX := hide ((unhide HE4) v (by trivial) h1 hv' hrd)
      rw [hrd] at v3 HVc
      have HS11 : Hid (∀ W, CB w W w.heap.size { r with ve := N } → W.cell? ⟨w.heap.size, 4, none⟩ = some (.int .u32 (r.rc : Nat)) ∧ W.cell? ⟨w.heap.size, 5, none⟩ = some (.int .u32 (N : Nat)) ∧ W.cell? ⟨vg, j * 4 + 2, none⟩ = some (.slice xo2 xn2 xc2)) := fun W hW => ⟨((unhide HR4) W hW).1, ((unhide HR4) W hW).2.1, ((unhide HVc) W hW.f).1⟩
      have HPUT : Hid (∀ x w4, OwF w4 w2.drew.heap.size x v.F → Fr (fun _ => False) w2.drew w4 → ∃ xo4 xc4 W8, x = .slice xo4 v.F.length xc4 ∧ (Instr.storeAt 45 (.pointer (some ⟨w.heap.size + 1, 0, none⟩)) (.agg #[.int .u32 0, .int .u32 0, .int .u8 0, .int .u32 (r.rc : Nat), .int .u32 (N : Nat), .slice xo4 v.F.length xc4, .slice none 0 0])).run Tryz.prog w4 = .ok () W8 ∧ (W8.cell? ⟨w.heap.size, 4, none⟩ = some (.int .u32 (r.rc : Nat)) ∧ W8.cell? ⟨w.heap.size, 5, none⟩ = some (.int .u32 (N : Nat)) ∧ W8.cell? ⟨vg, j * 4 + 2, none⟩ = some (.slice xo2 xn2 xc2)) ∧ (W8.heap[w.heap.size + 1]? = some (.cells [Value.int .u32 0, .int .u32 0, .int .u8 0, .int .u32 (r.rc : Nat), .int .u32 (N : Nat), .slice xo4 v.F.length xc4, .slice none 0 0].toArray 45) ∧ Fr (fun _ => False) w W8 ∧ OwF W8 w.heap.size (.slice xo4 v.F.length xc4) v.F)) := fun x w4 ho hf => by
       obtain ⟨xo4, xc4, rfl⟩ := own_formX ho
       have h4 := ((unhide H2).step (Fr.refl _ _).drew).step hf
       obtain ⟨W8, hst, hb8, hf8⟩ := ans_put h4.a (.int .u32 0) (.int .u32 0) (.int .u8 0) (.int .u32 (r.rc : Nat)) (.int .u32 (N : Nat)) (.slice xo4 v.F.length xc4) (.slice none 0 0) (fun u hu => by simp at hu; rcases hu with rfl | rfl | rfl | rfl | rfl | rfl | rfl <;> rfl)
       obtain ⟨s1, s2, s3⟩ := (unhide HS11) w4 h4
       have hB : w.heap.size + 1 < w2.drew.heap.size := lt_of_block (unhide H2).a
       exact ⟨xo4, xc4, W8, rfl, hst, ⟨(hf8.cell (p := ⟨w.heap.size, 4, none⟩) (lt_of_cell s1) (by show ¬ w.heap.size = w.heap.size + 1; omega)).trans s1, (hf8.cell (p := ⟨w.heap.size, 5, none⟩) (lt_of_cell s2) (by show ¬ w.heap.size = w.heap.size + 1; omega)).trans s2, (hf8.cell (p := ⟨vg, j * 4 + 2, none⟩) (lt_of_cell s3) (by show ¬ vg = w.heap.size + 1; omega)).trans s3⟩, hb8, h4.f.absorb hf8 (fun i hi => by omega), ho.out (by have := (unhide H2).f.size; exact this) hB hf8⟩
      clear HE0 HE1 HE2 HE3 HE4 hv' hv ej hj hcall hclone hvc HHas HVer HLa HV4 hx2 hrd
      go_wp2_with fail
      refine (unhide HB).mono ?_
      rintro e w' ⟨rfl, hw⟩
      obtain rfl := hw.symm
      clear HB hw
      go_wp2_with fail
      refine ((unhide HCV) _ (unhide H2).f).mono ?_
      rintro e w' ⟨rfl, hw⟩
      obtain rfl := hw.symm
      clear hw
      go_wp2_with fail
      refine wp_region_last (n := 13) (m := 13) (S := (fun W => W.cell? ⟨w.heap.size, 4, none⟩ = some (.int .u32 (r.rc : Nat)) ∧ W.cell? ⟨w.heap.size, 5, none⟩ = some (.int .u32 (N : Nat)) ∧ W.cell? ⟨vg, j * 4 + 2, none⟩ = some (.slice xo2 xn2 xc2))) (by kernel_rfl) rfl rfl rfl (by kernel_rfl) (by kernel_rfl) ((unhide HS11) _ ((unhide H2).step (Fr.refl _ _).drew)) (fun hHeld => ?_)
      refine wtk2 (i := 0) rfl hHeld ?_
      (try simp only [Act.put, nrm])
      refine wtk2 (i := 1) rfl hHeld ?_
      (try simp only [Act.put, nrm])
      refine wtk2 (i := 2) rfl hHeld ?_
      (try simp only [Act.put, nrm])
      refine wtk2 (i := 3) rfl hHeld ?_
      (try simp only [Act.put, nrm])
      refine wtk2 (i := 4) rfl hHeld ?_
      (try simp only [Act.put, nrm])
      refine wtk2 (i := 5) rfl hHeld ?_
      (try simp only [Act.put, nrm])
      refine wtk2 (i := 6) rfl hHeld ?_
      (try simp only [Act.put, nrm])
      refine wpAnyH_ready (rs := [7]) (by kernel_rfl) (by simp) (AllReadyH.cons rfl (fun K hK => ?_) AllReadyH.nil)
      go_simp
      refine ((unhide HCV) _ ((unhide H2).step (Fr.refl _ _).drew).f).mono ?_
      rintro e w' ⟨rfl, hw⟩
      obtain rfl := hw.symm
      clear hw
      go_simp
      refine hK.out _ _ ((unhide HS11) _ ((unhide H2).step (Fr.refl _ _).drew)) (fun hHeld => ?_)
      clear hK K
      (try simp only [Act.put, nrm])
      refine wtk2 (i := 8) rfl hHeld ?_
      (try simp only [Act.put, nrm])
      refine wtk2 (i := 9) rfl hHeld ?_
      (try simp only [Act.put, nrm])
      refine wtk2 (i := 10) rfl hHeld ?_
      (try simp only [Act.put, nrm])
      refine wpAnyH_ready (rs := [11]) (by kernel_rfl) (by simp) (AllReadyH.cons rfl (fun K hK => ?_) AllReadyH.nil)
      go_simp
      refine ((unhide HCl) _ ((unhide H2).step (Fr.refl _ _).drew).f).mono ?_
      rintro e w4 ⟨x, rfl, ho, hf4⟩
      obtain ⟨xo4, xc4, W8, rfl, hst, hS8, hO8⟩ := (unhide HPUT) x w4 ho hf4
      have H4 := hide (((unhide H2).step (Fr.refl _ _).drew).step hf4)
      have HST := hide hst
      have HO8 := hide hO8
      clear ho hf4 hst hO8 hS8
      go_simp
      refine hK.out _ _ ((unhide HS11) _ (unhide H4)) (fun hHeld => ?_)
      clear hK K
      (try simp only [Act.put, nrm])
      refine wtk2 (i := 12) rfl hHeld ?_
      (try simp only [Act.put, nrm])
      refine wpAnyH_done (by kernel_rfl) ?_ _
      simp only [lastQ]
      refine wp_stN 45 (.tmp 6) (.tmp 61) rfl _ _ (by simp [Act.eval]) (by simp [Act.eval]) (unhide HST) ?_
      (try simp only [Act.put, nrm])
      (
       obtain ⟨b8, f8, o8⟩ := unhide HO8
       have HR8 := hide (range_of_block b8)
       have HO9 := hide (And.intro f8 o8)
       clear b8 f8 o8 HO8 H4 HST HPUT HS11 HCV HCl HVc
       go_wp2_with fail
       refine bodyPost_ret (results_cell_mid rfl _ _ (w.heap.size + 1) 0 _ _ rfl (unhide HR8) Tryz.underlying45 rfl (by kernel_rfl)) rfl ?_
       rw [unhide HX]
       exact ⟨_, _, rfl, .inl ⟨rfl, (unhide HO9).1, (unhide HO9).2, World.ownsRow_nil _ _ _ _⟩⟩)
    ·have hn : c.V[N - 1]? = none := List.getElem?_eq_none (by omega)
     have HB := hide ((unhide HHas) w2 (unhide H2).f)
     rw [decide_eq_false h2, Bool.and_false] at HB
     have HX := hide ((unhide HE2) (by trivial) h1 hn)
     clear HE0 HE1 HE2 HE3 HE4 hn HHas HVer HLa HV4
     go_wp2_with fail
     refine (unhide HB).mono ?_
     rintro e w' ⟨rfl, rfl⟩
     clear HB
     go_wp2_with fail
     refine ((unhide HRf) 4 _).mono ?_
     rintro e w3 ⟨rfl, hf3⟩
     have h3 := (unhide H2).step hf3
     obtain ⟨e0, e1, e2, e3, e4, e5, e6, z0, z1, z2, z3, z4, z5, z6⟩ := h3.ans
     have H3 := hide h3.f
     clear h3 hf3
     go_wp2_with fail
     (try simp only [Exit.inBlock, Exit.then])
     refine bodyPost_ret (results_cell_mid rfl _ _ (w.heap.size + 1) 0 [.int .u32 0, .int .u32 0, .int .u8 ((4 : Nat) : Int), .int .u32 0, .int .u32 0, .slice none 0 0, .slice none 0 0] _ rfl ?_ Tryz.underlying45 rfl (by kernel_rfl)) rfl ?_
     ·intro j v hv
      rcases j with _ | _ | _ | _ | _ | _ | _ | j
      ·simp at hv; subst hv; go_simp
      ·simp at hv; subst hv; go_simp
      ·simp at hv; subst hv; go_simp
      ·simp at hv; subst hv; go_simp
      ·simp at hv; subst hv; go_simp
      ·simp at hv; subst hv; go_simp
      ·simp at hv; subst hv; go_simp
      ·simp at hv
     ·rw [unhide HX]; refine OpPost.no rfl ?_
      repeat refine Fr.setCell ?_ (.inr (by simp)) _
      exact unhide H3
  ·have hc' : ((code : Int) != 0) = true := by rw [bne_iff_ne]; omega
   have HX := hide ((unhide HE0) hz)
   clear HE0 HE1 HE2 HE3 HE4 HR4 HR4' HHas HVer HLa HV4
   go_wp2_with fail
   refine ((unhide HRf) code _).mono ?_
   rintro e w3 ⟨rfl, hf3⟩
   have h3 := (unhide H2).step hf3
   obtain ⟨e0, e1, e2, e3, e4, e5, e6, z0, z1, z2, z3, z4, z5, z6⟩ := h3.ans
   have H3 := hide h3.f
   clear h3 hf3
   go_wp2_with fail
   (try simp only [Exit.inBlock, Exit.then])
   refine bodyPost_ret (results_cell_mid rfl _ _ (w.heap.size + 1) 0 [.int .u32 0, .int .u32 0, .int .u8 ((code : Nat) : Int), .int .u32 0, .int .u32 0, .slice none 0 0, .slice none 0 0] _ rfl ?_ Tryz.underlying45 rfl (by kernel_rfl)) rfl ?_
   ·intro j v hv
    rcases j with _ | _ | _ | _ | _ | _ | _ | j
    ·simp at hv; subst hv; go_simp
    ·simp at hv; subst hv; go_simp
    ·simp at hv; subst hv; go_simp
    ·simp at hv; subst hv; go_simp
    ·simp at hv; subst hv; go_simp
    ·simp at hv; subst hv; go_simp
    ·simp at hv; subst hv; go_simp
    ·simp at hv
   ·rw [unhide HX]; refine OpPost.no rfl ?_
    repeat refine Fr.setCell ?_ (.inr (by simp)) _
    exact unhide H3
theorem setCells_block (g : Nat) : ∀ (vs : List Value) (o : Nat) (w : World) (cur : Array Value) (e : TypeId), w.heap[g]? = some (.cells cur e) → ∃ cur', (w.setCells g o vs).heap[g]? = some (.cells cur' e) ∧ cur'.size = cur.size ∧ Fr (fun k => k = g) w (w.setCells g o vs)
 | [], o, w, cur, e, h => ⟨cur, h, rfl, Fr.refl _ _⟩
 | v :: r, o, w, cur, e, h => by
  obtain ⟨cur', h1, h2, h3⟩ := setCells_block g r (o + 1) (w.setCell ⟨g, o, none⟩ v) (cur.setIfInBounds o v) e (heap_setCell_same w g o cur e v h)
  exact ⟨cur', h1, by simpa using h2, ((Fr.refl (fun k => k = g) w).setCell (p := ⟨g, o, none⟩) (.inl rfl) v).trans h3 (fun _ _ h => h)⟩
theorem own_of_cells {w : World} {g e n cap : Nat} {cur : Array Value} {xs : List Value} (hb : w.heap[g]? = some (.cells cur e)) (hs : cur.size = cap) (hn : n ≤ cap) (hm : cap ≤ maxLen) (hl : xs.length = n) (hc : ∀ j, j < n → w.cell? ⟨g, j, none⟩ = xs[j]?) : w.ownsRow 0 e 1 (.slice (some ⟨g, 0, none⟩) n cap) n xs := by
 refine ⟨by omega, .inr ⟨g, cap, cur, rfl, Nat.zero_le _, hb, hn, hm, by omega, ?_⟩⟩
 apply List.ext_getElem?
 intro j
 rw [Nat.mul_one, List.getElem?_take]
 by_cases hj : j < n
 ·rw [if_pos hj, ← hc j hj]
  simp [World.cell?, hb]
 ·rw [if_neg hj, List.getElem?_eq_none (by omega)]
theorem ncells_len (l : List Nat) : (ncells l).length = l.length := by simp [ncells]
theorem ncells_one (l : List Nat) : ∀ u ∈ ncells l, u.oneCell' = true := by
 intro u hu
 simp only [ncells, List.mem_map] at hu
 obtain ⟨z, _, rfl⟩ := hu
 rfl
theorem ins_cells (l : List Nat) (k p j : Nat) (hp : p ≤ l.length) : (ncells (l.take p ++ k :: l.drop p))[j]? = if j < p then (ncells l)[j]? else if j = p then some (.int .u32 (k : Nat)) else (ncells l)[j - 1]? := by
 simp only [ncells, List.map_append, List.map_cons, List.map_take, List.map_drop]
 by_cases h1 : j < p
 ·rw [if_pos h1, List.getElem?_append_left (by simp; omega), List.getElem?_take, if_pos h1]
 ·rw [if_neg h1, List.getElem?_append_right (by simp; omega)]
  simp only [List.length_take, List.length_map, Nat.min_eq_left hp]
  by_cases h2 : j = p
  ·subst h2
   simp
  ·rw [if_neg h2, show j - p = (j - p - 1) + 1 by omega, List.getElem?_cons_succ, List.getElem?_drop, show p + (j - p - 1) = j - 1 by omega]
theorem Tryz.infoU : (Tryz.prog.info? 31).map (fun i => (i.zero, i.size, i.bytes)) = some (some (.int .u32 0), 1, 4) := by kernel_rfl
set_option maxHeartbeats 4000000 in
set_option maxRecDepth 100000 in
theorem insert_end (v : Value) (l : List Nat) (k vb : Nat) (w : World) (hv : w.ownsRow 0 31 1 v l.length (ncells l)) (hx : w.heap[vb]? = some (.cells #[.int .u32 (k : Nat)] 31)) (hl : l.length ≤ 4294967296) :
  Calls Tryz.prog 100 #[v, .int .i64 (l.length : Nat), .slice (some ⟨vb, 0, none⟩) 1 1] w fun e w' => ∃ v', e = .returned v' ∧ w'.ownsRow 0 31 1 v' (l.length + 1) (ncells (l ++ [k])) ∧ Fr (fun g => v.ownBlock = some g) w w' ∧ ∀ g, v'.ownBlock = some g → v.ownBlock = some g ∨ w.heap.size ≤ g := by
 obtain ⟨i0, hi, hz0, hz1, hz2⟩ := info_parts Tryz.infoU
 obtain ⟨v', w2, hr, h2, h3, _, h5⟩ := run_append_own_at (P := Tryz.prog) (w := w) 0 24 24 31 i0 (.int .u32 0) 1 4 Tryz.underlying24 hi hz0 hz1 hz2 rfl (by decide) v l.length (ncells l) hv ⟨vb, 0, none⟩ 1 1 [.int .u32 (k : Nat)] rfl (fun j u hu => by
  rw [addr_add, Nat.zero_add]
  simp only [World.cell?, hx]
  simpa using hu) (fun u hu => by simp at hu; subst hu; rfl) (by simp only [maxLen]; omega) (by omega) (Nat.zero_le _)
 obtain ⟨ao, cap, rfl⟩ := own_formX h2
 have HR := hide hr
 have HE : Hid (∃ v', Ending.returned (Value.slice ao (l.length + 1) cap) = .returned v' ∧ w2.ownsRow 0 31 1 v' (l.length + 1) (ncells (l ++ [k])) ∧ Fr (fun g => v.ownBlock = some g) w w2 ∧ ∀ g, v'.ownBlock = some g → v.ownBlock = some g ∨ w.heap.size ≤ g) := by
  refine ⟨_, rfl, by simpa [ncells] using h2, (Fr.refl _ _).grown h3 (fun g hg => .inl hg), fun g hg => ?_⟩
  rcases h5 with e | e
  ·rw [e] at hg; exact .inl hg
  ·rw [e] at hg; cases hg; exact .inr (Nat.le_refl _)
 have hzn : 0 ≤ (l.length : Int) := by omega
 rcases hv.2 with ⟨rfl, h0⟩ | ⟨g, vc, cur, rfl, _, _, hnc, hcm, _, _⟩
 ·rw [h0] at *
  clear hr h2 h3 h5 hv hx
  go_enter Tryz.func100, Tryz.ntmps100
  go_wp2_with (at_builtin; refine wpList_app rfl _ _ 24 24 rfl _ _ _ rfl rfl (unhide HR) ?_)
  go_ret
  exact unhide HE
 ·generalize l.length = n at *
  clear hr h2 h3 h5 hv hx
  go_enter Tryz.func100, Tryz.ntmps100
  go_wp2_with (at_builtin; refine wpList_app rfl _ _ 24 24 rfl _ _ _ rfl rfl (unhide HR) ?_)
  all_goals
   go_ret
   exact unhide HE
theorem cell_lt {w : World} {g e c : Nat} {l : List Nat} (hv : w.ownsRow 0 e 1 (.slice (some ⟨g, 0, none⟩) l.length c) l.length (ncells l)) : ∃ cur, w.heap[g]? = some (.cells cur e) ∧ cur.size = c ∧ c ≤ maxLen ∧ (∀ j, j < c → (w.cell? ⟨g, j, none⟩).isSome = true) ∧ (∀ j, w.frozen? ⟨g, j, none⟩ = false) ∧ ∀ j u, (ncells l)[j]? = some u → w.cell? ⟨g, j, none⟩ = some u := by
 rcases hv.2 with ⟨h, _⟩ | ⟨g', c', cur, h, _, hb, hnc, hm, hs, _⟩
 ·cases h
 ·cases h
  refine ⟨cur, hb, by omega, hm, fun j hj => ?_, fun j => by simp [World.frozen?, hb], fun j u hu => ?_⟩
  ·have h1 : j < cur.size := by omega
   simp [World.cell?, hb, h1]
  ·have hj : j < l.length := by
    have := (List.getElem?_eq_some_iff.1 hu).1
    rw [ncells_len] at this
    exact this
   exact (hv.cellAt j (by omega)).trans hu
theorem run_cp (w : World) (ty : TypeId) (b o dl dc : Nat) (a : Addr) (sl sc : Nat) (cs : List Value) (hn : cs.length = Nat.min sl dl)
  (hsrc : ∀ j v, cs[j]? = some v → w.cell? (a.add j) = some v) (hc : ∀ j, j < cs.length → (w.cell? ⟨b, o + j, none⟩).isSome = true) (hf : ∀ j, j < cs.length → w.frozen? ⟨b, o + j, none⟩ = false) (h1 : ∀ v ∈ cs, v.oneCell' = true) :
  (Builtin.copy_ #[24, 24] ty #[.slice (some ⟨b, o, none⟩) dl dc, .slice (some a) sl sc]).run Tryz.prog w = .ok (goInt cs.length) (w.setCells b o cs) := by
 obtain ⟨i0, hi, hz0, hz1, hz2⟩ := info_parts Tryz.infoU
 exact run_copy_cells w _ _ ty 31 b o dl dc a sl sc cs Tryz.underlying24 (by rw [hi]; simp [hz1]) hn hsrc hc hf h1
theorem overlaps_no (w : World) (vb g o lb cb : Nat) (x : Value) (cur : Array Value) (hx : w.heap[vb]? = some (.cells #[x] 31)) (hb : w.heap[g]? = some (.cells cur 31)) (hs : cur.size ≠ 0) (hne : vb ≠ g) :
  (callFunc 108 #[.slice (some ⟨vb, 0, none⟩) 1 1, .slice (some ⟨g, o, none⟩) lb cb]).run Tryz.prog w = .ok (.value (.bool false)) w := by
 obtain ⟨i0, hi, hz0, hz1, hz2⟩ := info_parts Tryz.infoU
 rw [run_callFunc_extern (P := Tryz.prog) Tryz.func108 (by kernel_rfl) (by kernel_rfl) (by kernel_rfl) (e := Extern.SlicesOverlaps.overlaps #[24, 24] #[4]) (by kernel_rfl),
  Lib.run_overlaps_apart w 24 4 31 Tryz.underlying24 1 (fun w => by simp [Go.sizeOf, typeInfo, hi, hz1]) ⟨vb, 0, none⟩ ⟨g, o, none⟩ 1 1 lb cb hne 31 31 1 cur.size (by simp [World.shape?, hx]) (by simp [World.shape?, hb]) hs (by simp [World.frozen?, hx]) (by simp [World.frozen?, hx])]
 rfl
set_option maxHeartbeats 4000000 in
set_option maxRecDepth 100000 in
theorem insert_room (g c : Nat) (l : List Nat) (k p vb : Nat) (w : World) (hv : w.ownsRow 0 31 1 (.slice (some ⟨g, 0, none⟩) l.length c) l.length (ncells l)) (hx : w.heap[vb]? = some (.cells #[.int .u32 (k : Nat)] 31)) (hne : vb ≠ g) (hp : p < l.length) (hroom : l.length + 1 ≤ c) :
  Calls Tryz.prog 100 #[.slice (some ⟨g, 0, none⟩) l.length c, .int .i64 (p : Nat), .slice (some ⟨vb, 0, none⟩) 1 1] w fun e w' => e = .returned (.slice (some ⟨g, 0, none⟩) (l.length + 1) c) ∧ w'.ownsRow 0 31 1 (.slice (some ⟨g, 0, none⟩) (l.length + 1) c) (l.length + 1) (ncells (l.take p ++ k :: l.drop p)) ∧ Fr (fun k => k = g) w w' := by
 obtain ⟨cur, hb, hcs, hcm, hsome, hfz, hcell⟩ := cell_lt hv
 have hgl : g < w.heap.size := lt_of_block hb
 have hvl : vb < w.heap.size := lt_of_block hx
 have HOV : Hid (∀ lb cb, (callFunc 108 #[.slice (some ⟨vb, 0, none⟩) 1 1, .slice (some ⟨g, p + 1, none⟩) lb cb]).run Tryz.prog w = .ok (.value (.bool false)) w) := fun lb cb => overlaps_no w vb g (p + 1) lb cb _ cur hx hb (by omega) hne
 obtain ⟨D, hD⟩ : ∃ D, D = (ncells l).drop p := ⟨_, rfl⟩
 have hDl : D.length = l.length - p := by rw [hD, List.length_drop, ncells_len]
 obtain ⟨W1, hW1⟩ : ∃ W1, W1 = w.drew.setCells g (p + 1) D := ⟨_, rfl⟩
 have HC1 : Hid (∀ ty dl dc sl sc, dl = l.length - p → sl = l.length + 1 - p → (Builtin.copy_ #[24, 24] ty #[.slice (some ⟨g, p + 1, none⟩) dl dc, .slice (some ⟨g, p, none⟩) sl sc]).run Tryz.prog w.drew = .ok (goInt D.length) W1) := fun ty dl dc sl sc e1 e2 => by
  rw [hW1]
  exact run_cp w.drew ty g (p + 1) dl dc ⟨g, p, none⟩ sl sc D (by rw [hDl, e1, e2]; simp only [Nat.min_def]; split <;> omega) (fun j u hu => by
   rw [addr_add]
   rw [hD, List.getElem?_drop] at hu
   exact hcell _ u hu) (fun j hj => hsome _ (by omega)) (fun j hj => hfz _) (fun u hu => ncells_one l u (by rw [hD] at hu; exact List.mem_of_mem_drop hu))
 obtain ⟨cur1, hb1, hs1, hf1⟩ := setCells_block g D (p + 1) w.drew cur 31 hb
 rw [← hW1] at hb1 hf1
 have hc1 : ∀ j, j < l.length + 1 → W1.cell? ⟨g, j, none⟩ = if j < p + 1 then w.cell? ⟨g, j, none⟩ else (ncells l)[j - 1]? := fun j hj => by
  rw [hW1]
  by_cases h1 : j < p + 1
  ·rw [if_pos h1]
   exact World.cell?_setCells_out g D (p + 1) w.drew ⟨g, j, none⟩ (fun _ _ => .inl h1)
  ·rw [if_neg h1]
   have := World.cell?_setCells_in g D (p + 1) w.drew (fun i hi => hsome _ (by omega)) (j - (p + 1)) (by omega)
   rw [show p + 1 + (j - (p + 1)) = j by omega] at this
   rw [this, ← List.getElem?_eq_getElem, hD, List.getElem?_drop, show p + (j - (p + 1)) = j - 1 by omega]
 have hx1 : W1.cell? ⟨vb, 0, none⟩ = some (.int .u32 (k : Nat)) := by
  rw [hf1.cell (p := ⟨vb, 0, none⟩) hvl hne]
  show w.cell? ⟨vb, 0, none⟩ = _
  simp [World.cell?, hx]
 obtain ⟨cur2, hb2, hs2, hf2⟩ := setCells_block g [.int .u32 (k : Nat)] p W1 cur1 31 hb1
 obtain ⟨W2, hW2⟩ : ∃ W2, W2 = W1.setCells g p [.int .u32 (k : Nat)] := ⟨_, rfl⟩
 rw [← hW2] at hb2 hf2
 have HC2 : Hid (∀ ty dl dc, dl = l.length + 1 - p → (Builtin.copy_ #[24, 24] ty #[.slice (some ⟨g, p, none⟩) dl dc, .slice (some ⟨vb, 0, none⟩) 1 1]).run Tryz.prog W1 = .ok (goInt 1) W2) := fun ty dl dc e1 => by
  rw [hW2]
  refine run_cp W1 ty g p dl dc ⟨vb, 0, none⟩ 1 1 [.int .u32 (k : Nat)] (by rw [e1]; simp only [Nat.min_def, List.length_singleton]; split <;> omega) (fun j u hu => ?_) (fun j hj => ?_) (fun j hj => by simp [World.frozen?, hb1]) (fun u hu => by simp at hu; subst hu; rfl)
  ·rcases j with _ | j
   ·simp at hu; subst hu; exact hx1
   ·simp at hu
  ·simp at hj
   subst hj
   rw [Nat.add_zero, hc1 p (by omega), if_pos (by omega)]
   exact hsome p (by omega)
 have HE : Hid (W2.ownsRow 0 31 1 (.slice (some ⟨g, 0, none⟩) (l.length + 1) c) (l.length + 1) (ncells (l.take p ++ k :: l.drop p)) ∧ Fr (fun k => k = g) w W2) := by
  refine ⟨own_of_cells hb2 (by omega) hroom hcm (by simp [ncells]; omega) (fun j hj => ?_), (((Fr.refl _ _).drew).trans hf1 (fun _ _ h => h)).trans hf2 (fun _ _ h => h)⟩
  rw [ins_cells l k p j (by omega), hW2]
  by_cases h1 : j = p
  ·subst h1
   rw [if_neg (by omega), if_pos rfl]
   have := World.cell?_setCells_in g [.int .u32 (k : Nat)] j W1 (fun i hi => by
    simp at hi
    subst hi
    rw [Nat.add_zero, hc1 j (by omega), if_pos (by omega)]
    exact hsome j (by omega)) 0 (by simp)
   simpa using this
  ·rw [World.cell?_setCells_out g [.int .u32 (k : Nat)] p W1 ⟨g, j, none⟩ (fun _ _ => by simp; omega), hc1 j hj]
   by_cases h2 : j < p
   ·rw [if_pos (by omega), if_pos h2]
    have h3 : j < (ncells l).length := by rw [ncells_len]; omega
    rw [List.getElem?_eq_getElem h3]
    exact hcell j _ (List.getElem?_eq_getElem h3)
   ·rw [if_neg (by omega), if_neg h2, if_neg h1]
 have hnl : l.length ≤ 9223372036854775806 := by simp only [maxLen] at hcm; omega
 have hc63 : c ≤ 9223372036854775807 := by simp only [maxLen] at hcm; omega
 clear hW1 hW2 hD hDl hc1 hx1 hb1 hs1 hf1 hb2 hs2 hf2 hb hcs hcm hsome hfz hcell hv hx
 generalize ncells (l.take p ++ k :: l.drop p) = XS at *
 generalize l.length = n at *
 have hw1 : IntKind.i64.wrap ((p : Int) + 1) = (p : Int) + 1 := by rw [IntKind.wrap_i64]; omega
 have hw2 : IntKind.i64.wrap ((n : Int) + 1) = (n : Int) + 1 := by rw [IntKind.wrap_i64]; omega
 have hb1 : (0 : Int) ≤ (p : Int) + 1 := by omega
 have htn : ((p : Int) + 1).toNat = p + 1 := by omega
 have htn2 : ((n : Int) + 1).toNat = n + 1 := by omega
 have hb2 : ¬ (c = p + 1) := by omega
 have hb3 : (p : Int) ≤ (n : Int) + 1 := by omega
 have hb3' : (p : Int) ≤ (n : Int) := by omega
 have hb4 : ¬ (c = p) := by omega
 have hb5 : ¬ (p : Int) = (n : Int) := by omega
 have hb6 : ¬ (c : Int) < (n : Int) + 1 := by omega
 have hb7 : (n : Int) + 1 ≤ (c : Int) := by omega
 have hov := unhide HOV
 have hcp := (unhide HC1) 3 (n - p) (c - (p + 1)) (n + 1 - p) (c - p) rfl rfl
 have hcp2 := (unhide HC2) 3 (n + 1 - p) (c - p) rfl
 go_enter Tryz.func100, Tryz.ntmps100
 go_wp2_with (simp only [hov])
 go_region
 go_wp2_with fail
 go_ret
 exact ⟨rfl, unhide HE⟩
end Go.Proofs.YtiknjghcjaaenaaGreatDoor
