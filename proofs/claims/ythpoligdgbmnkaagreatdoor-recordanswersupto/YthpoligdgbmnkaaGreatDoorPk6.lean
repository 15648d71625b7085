import Derived.Test.YthpoligdgbmnkaaGreatDoorPk5
import Derived.Test.YthpoligdgbmnkaaGreatDoorPk1
import Derived.Test.YthpoligdgbmnkaaGreatDoorPk2
import Derived.Deep.Cut
import Derived.Deep.CutRange
import Derived.Test.YthpoligdgbmnkaaGreatDoorPk4
namespace Go.Proofs.YthpoligdgbmnkaaGreatDoor
open Go.RowKit Go.Shelf

theorem Us.blt {w : World} {x : Value} {l : List Nat} (h : Us w x l) {k : Nat} (hk : Blk x k) : k < w.heap.size := by
 obtain ⟨o, n, c, rfl, h0⟩ := hk
 obtain ⟨xo, xc, e⟩ := h.form
 cases e
 obtain ⟨g, o', e, c0⟩ := h.at_ 0 h0
 cases e
 exact lt_of_cell c0
theorem Fds.blt {w : World} {x : Value} {l : List F5} (h : Fds w x l) {k : Nat} (hk : Blk x k) : k < w.heap.size := by
 obtain ⟨o, n, c, rfl, h0⟩ := hk
 obtain ⟨xo, xc, e⟩ := h.form
 cases e
 obtain ⟨g, o', e, c0, _⟩ := h.at_ 0 h0
 cases e
 exact lt_of_cell c0
theorem Sms.blt {w : World} {x : Value} {l : List SM} (h : Sms w x l) {k : Nat} (hk : Blk x k) : k < w.heap.size := by
 obtain ⟨o, n, c, rfl, h0⟩ := hk
 obtain ⟨xo, xc, e⟩ := h.form
 cases e
 obtain ⟨g, o', e, c0, _⟩ := h.at_ 0 h0
 cases e
 exact lt_of_cell c0
theorem Stf.blt {w : World} {x : Value} {l : List P3} (h : Stf w x l) {k : Nat} (hk : Blk x k) : k < w.heap.size := by
 obtain ⟨o, n, c, rfl, h0⟩ := hk
 obtain ⟨xo, xc, e⟩ := h.form
 cases e
 obtain ⟨g, o', e, c0, _⟩ := h.at_ 0 h0
 cases e
 exact lt_of_cell c0
theorem Rd.blt {w : World} {z n : Nat} {x : Value} {xs : List Value} (h : Rd w z x n xs) (hz : 0 < z) {k : Nat} (hk : Blk x k) : k < w.heap.size := by
 obtain ⟨o, m, c, rfl, h0⟩ := hk
 obtain ⟨xo, xc, e⟩ := h.form
 cases e
 obtain ⟨g, o', e, hc⟩ := h.at_ h0
 cases e
 have h1 := h.1
 have h2 : 0 < xs.length := by rw [h1]; exact Nat.mul_pos h0 hz
 exact lt_of_cell (hc 0 _ (List.getElem?_eq_getElem h2))
/-- All that the document's own state reads lies in memory. -/
theorem GSt.bnd {w : World} {T : Nat → Prop} {sv rv : Value} {S : List P3} {L : List GC} (h : GSt w T sv rv S L) : GSt w (fun k => T k ∧ k < w.heap.size) sv rv S L :=
 ⟨h.s, fun k hk => ⟨h.sb k hk, h.s.blt hk⟩, h.r, fun k hk => ⟨h.rb k hk, h.r.blt (by omega) hk⟩, fun x hx => ⟨(h.c x hx).g, fun k hk => ⟨(h.c x hx).gb k hk, (h.c x hx).g.blt hk⟩, (h.c x hx).v, fun k hk => ⟨(h.c x hx).vb k hk, (h.c x hx).v.blt (by omega) hk⟩, (h.c x hx).f, fun y hy k hk => ⟨(h.c x hx).fb y hy k hk, ((h.c x hx).f y hy).blt hk⟩⟩⟩
/-- The document's own state, and the program's model that it stands for; n: how many requests there were. -/
structure GR (w : World) (T : Nat → Prop) (sv rv : Value) (n : Nat) (s : RM) (L : List GC) : Prop where
 g : GSt w T sv rv s.S L
 m : MRel s (GM s.S L)
 k : GOk n L
 o : s.Ok
 r : s.Srt
theorem GR.frS {w w' : World} {T S' : Nat → Prop} {sv rv : Value} {n : Nat} {s : RM} {L : List GC} (h : GR w T sv rv n s L) (hf : Fr S' w w') (hS : ∀ k, S' k → ¬ T k) : GR w' T sv rv n s L := ⟨h.g.frS hf hS, h.m, h.k, h.o, h.r⟩
theorem GR.fr {w w' : World} {T : Nat → Prop} {sv rv : Value} {n : Nat} {s : RM} {L : List GC} (h : GR w T sv rv n s L) (hf : Fr (fun _ => False) w w') : GR w' T sv rv n s L := h.frS hf (fun _ h => h.elim)
theorem step_S (s : RM) (r : RQ) (F : List F5) (pl : Nat) : (s.step r F pl).1.S = s.S := by
 unfold RM.step
 split
 ·rfl
 split
 ·rfl
 split
 ·unfold RM.create
  split
  ·rfl
  split <;> rfl
 split
 ·rfl
 split
 ·rfl
 rename_i c _
 unfold RM.op
 split
 ·unfold RM.amend
  split
  ·rfl
  split
  ·rfl
  split
  ·rfl
  split
  ·rfl
  split <;> rfl
 split
 ·unfold RM.read
  split
  ·rfl
  split
  ·rfl
  split
  ·rfl
  split <;> rfl
 split
 ·unfold RM.redact
  split
  ·rfl
  split
  ·rfl
  split
  ·rfl
  split <;> rfl
 split
 ·unfold RM.history
  split <;> rfl
 split
 ·unfold RM.seal
  split <;> rfl
 unfold RM.break
 split <;> rfl
/-- A request that may come: its numbers too. -/
def PGo (p : RQ × List F5) : Prop := PGood p ∧ p.1.ve < 4294967296 ∧ p.1.rc < 4294967296 ∧ p.2.length ≤ 1048576
/-- Apply of the document's own state answers as the program's model does. -/
theorem gapply_R (sv rv : Value) (s : RM) (L : List GC) (T : Nat → Prop) (n : Nat) (r : RQ) (F : List F5) (pl : Nat) (w : World) (h : GR w T sv rv n s L) (hn : n ≤ 1000000) (hF : Fds w r.fv F) (hFT : ∀ k, Blk r.fv k → T k) (hp : PGo (r, F)) (X : RM × RA) (hX : s.step r F pl = X) :
  Calls Tryz.prog 12 #[.agg #[sv, rv], r.v, .int .u32 (pl : Nat)] w fun e w' => ∃ rv' L' fo fn fc ho hn hc, e = .returned (.tuple #[.agg #[sv, rv'], .agg #[.int .u32 (r.cl : Nat), .int .u32 (r.nu : Nat), .int .u8 (X.2.co : Nat), .int .u32 (X.2.rc : Nat), .int .u32 (X.2.ve : Nat), .slice fo fn fc, .slice ho hn hc]]) ∧ rv'.oneCell' = true ∧ GR w' (fun k => (T k ∨ w.heap.size ≤ k) ∧ k < w'.heap.size) sv rv' (n + 1) X.1 L' ∧ Fds w' (.slice fo fn fc) X.2.F ∧ Sms w' (.slice ho hn hc) X.2.H ∧ (∀ k, Blk (.slice fo fn fc) k ∨ Blk (.slice ho hn hc) k → (T k ∨ w.heap.size ≤ k) ∧ k < w'.heap.size) ∧ Fr (fun _ => False) w w' := by
 subst hX
 obtain ⟨e2, hm2, hs2⟩ := gstep_rel h.m h.o h.r r F pl
 have hSl := h.o.S
 refine (gapply_any sv rv s.S L T n r F pl w h.g h.k hn hSl hF hFT hp.1.2.1 hp.1.2.2 hp.2.1 hp.2.2.1 _ rfl).mono ?_
 rintro e w' ⟨rv', L', fo, fn, fc, ho, hn', hc, he, hg, hL, hk, hf1, hf2, hb, hf⟩
 rw [e2] at he hf1 hf2
 rw [← hL] at hm2
 have hSS := step_S s r F pl
 refine ⟨rv', L', fo, fn, fc, ho, hn', hc, he, slice_one (by obtain ⟨a, b, e⟩ := hg.r.form; exact ⟨a, _, b, e⟩), ⟨?_, ?_, hk, h.o.step r F pl hp.1.2.2 hp.1.1, hs2⟩, hf1, hf2, fun k hk' => ⟨hb k hk', hk'.elim hf1.blt hf2.blt⟩, hf⟩
 ·rw [hSS]; exact hg.bnd
 ·rw [hSS]; exact hm2
end Go.Proofs.YthpoligdgbmnkaaGreatDoor

namespace Go.Proofs.YthpoligdgbmnkaaGreatDoor
open Go.ChangeShapes Go.WideShapes Go.ChangeAt Go.RowKit Go.Deep
set_option maxRecDepth 100000

/-- A request that came in. -/
theorem rq_of_trodP {H : Type} {enc : TypeId × Value → H} {W : World} {fuel : Nat} {cs : List Value} {x : DataW H × List MemPlace} (h : DataW.trod enc Tryz.prog W 0 (fun _ => true) true fuel 41 cs = some x) :
  ∃ (s : RQ) (F : List F5), cs = [.int .u32 (s.cl : Nat), .int .u32 (s.nu : Nat), .int .u32 (s.ac : Nat), .int .u8 (s.op : Nat), .int .u32 (s.rc : Nat), .int .u32 (s.ve : Nat), .int .u32 (s.wa : Nat), .int .u32 (s.ow : Nat), s.fv, .string s.rs] ∧ FdC W W.heap.size s.fv F ∧ (s.ac < 4294967296 ∧ s.ve < 4294967296 ∧ s.rc < 4294967296) ∧ (∀ f ∈ F, f.v < 4294967296 ∧ f.u < 256) ∧ F.length + 1 ≤ Rows.uptoBulk x.1 ∧ 2 ≤ Rows.uptoBulk x.1 := by
 obtain ⟨xs, n, _, rfl, hl, hlen, hf⟩ := DataW.trod_struct Tryz.underlying41 h
 rw [Tryz.cellsRq] at hl
 have h0 := hf 0 _ rfl
 have h1 := hf 1 _ rfl
 have h2 := hf 2 _ rfl
 have h3 := hf 3 _ rfl
 have h4 := hf 4 _ rfl
 have h5 := hf 5 _ rfl
 have h6 := hf 6 _ rfl
 have h7 := hf 7 _ rfl
 have h8 := hf 8 _ rfl
 match cs, hl with
 | [c0, c1, c2, c3, c4, c5, c6, c7, c8, c9], _ =>
  match xs, hlen with
  | [y0, y1, y2, y3, y4, y5, y6, y7, y8], _ =>
   simp [Tryz.cellsU32, Tryz.cellsU8, Tryz.cellsId, Tryz.cellsSlf, Tryz.cellsStr] at h0 h1 h2 h3 h4 h5 h6 h7 h8
   obtain ⟨cl, nu, e0⟩ := id_of_trod h0
   obtain ⟨ac, e1, q1, w1⟩ := DataW.trod_int Tryz.underlying31 h1
   obtain ⟨op, e2, q2, w2⟩ := DataW.trod_int Tryz.underlying5 h2
   obtain ⟨rc, e3, q3, w3⟩ := DataW.trod_int Tryz.underlying31 h3
   obtain ⟨ve, e4, q4, w4⟩ := DataW.trod_int Tryz.underlying31 h4
   obtain ⟨wa, e5, q5, w5⟩ := DataW.trod_int Tryz.underlying31 h5
   obtain ⟨ow, e6, q6, w6⟩ := DataW.trod_int Tryz.underlying31 h6
   obtain ⟨F, hF, hFb, bF⟩ := fdc_of_trod h7
   obtain ⟨rs, e8, q8, _⟩ := DataW.trod_string Tryz.underlying9 h8
   simp only [List.cons.injEq, and_true] at e0 e1 e2 e3 e4 e5 e6 e8
   obtain ⟨rfl, rfl⟩ := e0
   subst e1 e2 e3 e4 e5 e6 e8
   obtain ⟨ac, rfl, hac⟩ := nat_u32 w1
   obtain ⟨op, rfl, _⟩ := nat_u8 w2
   obtain ⟨rc, rfl, hrc⟩ := nat_u32 w3
   obtain ⟨ve, rfl, hve⟩ := nat_u32 w4
   obtain ⟨wa, rfl, _⟩ := nat_u32 w5
   obtain ⟨ow, rfl, _⟩ := nat_u32 w6
   refine ⟨⟨cl, nu, ac, op, rc, ve, wa, ow, c8, rs⟩, F, rfl, hF, ⟨hac, hve, hrc⟩, hFb, ?_, ?_⟩
   ·have := bulk_in ([y0, y1, y2, y3, y4, y5, y6, y7, y8].map (·.1)) y7.1 (by simp)
    simp only [Rows.uptoBulk]
    omega
   ·have h9 := bulk_len ([y0, y1, y2, y3, y4, y5, y6, y7, y8].map (·.1))
    simp only [List.length_map, List.length_cons, List.length_nil] at h9
    simp only [Rows.uptoBulk]
    omega
/-- Requests that came in. -/
theorem rqs_of_trodP {H : Type} {enc : TypeId × Value → H} {W : World} {fuel : Nat} {v : Value} {x : DataW H × List MemPlace} (hf : DataW.trod enc Tryz.prog W 0 (fun _ => true) true fuel 23 [v] = some x) (hbk : Rows.uptoBulk x.1 ≤ 1048576) :
  ∃ A : List (RQ × List F5), Rqs W v A ∧ (∀ p ∈ A, PGo p) ∧ 2 * A.length + 1 ≤ Rows.uptoBulk x.1 := by
 rcases open_slice Tryz.underlying23 hf with ⟨hcs, hx⟩ | ⟨a, len', cap', m, n, D, Pl, hcs, _, hl, hm, hmm, hx, hel⟩
 ·simp only [List.cons.injEq, and_true] at hcs
  subst hcs
  exact ⟨[], ⟨.inl ⟨none, 0, rfl, rfl⟩, fun p hp => (by cases hp)⟩, fun p hp => (by cases hp), bulk_pos _⟩
 ·simp only [List.cons.injEq, and_true] at hcs
  subst hcs
  subst hx
  simp only [if_true] at hmm
  subst hmm
  have hp : ∀ i, ∃ s : RQ × List F5, i < m → (∀ j, j < 10 → W.cell? ((a.add (i * 10)).add j) = [Value.int .u32 ((s.1).cl : Nat), .int .u32 ((s.1).nu : Nat), .int .u32 ((s.1).ac : Nat), .int .u8 ((s.1).op : Nat), .int .u32 ((s.1).rc : Nat), .int .u32 ((s.1).ve : Nat), .int .u32 ((s.1).wa : Nat), .int .u32 ((s.1).ow : Nat), (s.1).fv, .string (s.1).rs][j]?) ∧ FdC W W.heap.size s.1.fv s.2 ∧ (s.1.ac < 4294967296 ∧ s.1.ve < 4294967296 ∧ s.1.rc < 4294967296) ∧ (∀ f ∈ s.2, f.v < 4294967296 ∧ f.u < 256) ∧ s.2.length + 1 ≤ Rows.uptoBulk (D i) ∧ 2 ≤ Rows.uptoBulk (D i) := fun i => by
   by_cases hi : i < m
   ·obtain ⟨cs', h1, h2⟩ := hel i hi
    rw [Tryz.cellsRq] at h1
    obtain ⟨_, hlen, hcell⟩ := World.cells?_some h1
    obtain ⟨s, F, rfl, r1, r2, r3, r4, r5⟩ := rq_of_trodP h2
    exact ⟨(s, F), fun _ => ⟨hcell, r1, r2, r3, r4, r5⟩⟩
   ·exact ⟨(⟨0, 0, 0, 0, 0, 0, 0, 0, .slice none 0 0, ByteArray.empty⟩, []), fun h => absurd h hi⟩
  obtain ⟨Q, hQ⟩ : ∃ Q : Nat → RQ × List F5, ∀ i, i < m → (∀ j, j < 10 → W.cell? ((a.add (i * 10)).add j) = [Value.int .u32 (((Q i).1).cl : Nat), .int .u32 (((Q i).1).nu : Nat), .int .u32 (((Q i).1).ac : Nat), .int .u8 (((Q i).1).op : Nat), .int .u32 (((Q i).1).rc : Nat), .int .u32 (((Q i).1).ve : Nat), .int .u32 (((Q i).1).wa : Nat), .int .u32 (((Q i).1).ow : Nat), ((Q i).1).fv, .string ((Q i).1).rs][j]?) ∧ FdC W W.heap.size (Q i).1.fv (Q i).2 ∧ ((Q i).1.ac < 4294967296 ∧ (Q i).1.ve < 4294967296 ∧ (Q i).1.rc < 4294967296) ∧ (∀ f ∈ (Q i).2, f.v < 4294967296 ∧ f.u < 256) ∧ (Q i).2.length + 1 ≤ Rows.uptoBulk (D i) ∧ 2 ≤ Rows.uptoBulk (D i) := ⟨fun i => Classical.choose (hp i), fun i => Classical.choose_spec (hp i)⟩
  have hbulk := bulk_two ((List.range len').map D) (fun d hd => by
   obtain ⟨i, hi, rfl⟩ := List.mem_map.1 hd
   have hi' : i < len' := by simpa using hi
   exact (hQ i (by omega)).2.2.2.2.2)
  have hd : Rows.uptoBulkAll ((List.range len').map D) + 1 ≤ Rows.uptoBulk (DataW.slice ((List.range len').map D) ((List.range (m - len')).map fun j => D (len' + j)) : DataW H) := by
   simp only [Rows.uptoBulk]; omega
  have hin : ∀ p ∈ (List.range len').map Q, FdC W W.heap.size p.1.fv p.2 ∧ PGo p := fun p hp => by
   obtain ⟨i, hi, rfl⟩ := List.mem_map.1 hp
   have hi' : i < len' := by simpa using hi
   obtain ⟨_, r1, r2, r3, r4, _⟩ := hQ i (by omega)
   have hb := bulk_in ((List.range len').map D) (D i) (List.mem_map.2 ⟨i, hi, rfl⟩)
   simp only at hbk
   exact ⟨r1, ⟨r2.1, by omega, r3⟩, r2.2.1, r2.2.2, by omega⟩
  refine ⟨(List.range len').map Q, ⟨?_, fun p hp => (hin p hp).1⟩, fun p hp => (hin p hp).2, by simp at hbulk ⊢; omega⟩
  by_cases h0 : len' = 0
  ·subst h0
   exact .inl ⟨some a, m, by simp, by simp⟩
  ·have hc0 := (hQ 0 (by omega)).1 0 (by decide)
   obtain ⟨g, o, sp⟩ := a
   have hsp : sp = none := by simpa [Addr.add] using World.cell?_spot hc0
   subst hsp
   refine .inr ⟨g, o, m, by simp, fun j hj => ?_⟩
   have hj' : j < len' := by simpa using hj
   have hq := (hQ j (by omega)).1
   have e : ∀ i, ((⟨g, o, none⟩ : Addr).add (j * 10)).add i = ⟨g, o + j * 10 + i, none⟩ := fun i => by rw [addr_add, addr_add]
   have q0 := hq 0 (by decide)
   have q1 := hq 1 (by decide)
   have q2 := hq 2 (by decide)
   have q3 := hq 3 (by decide)
   have q4 := hq 4 (by decide)
   have q5 := hq 5 (by decide)
   have q6 := hq 6 (by decide)
   have q7 := hq 7 (by decide)
   have q8 := hq 8 (by decide)
   have q9 := hq 9 (by decide)
   rw [e] at q0 q1 q2 q3 q4 q5 q6 q7 q8 q9
   simp at q0 q1 q2 q3 q4 q5 q6 q7 q8 q9
   simp only [List.getElem_map, List.getElem_range]
   exact ⟨q0, q1, q2, q3, q4, q5, q6, q7, q8, q9⟩
/-- A play that came in. -/
theorem play_of_readingP {H : Type} {enc : TypeId × Value → H} {W : World} {base : Nat} {v : Value} {d : DataW H} {p : List MemPlace} (hval : Value.okWide Tryz.prog W .any base 26 v) (h : DataW.Trod enc Tryz.prog W 0 (fun _ => true) true 26 v d p) (hbk : Rows.uptoBulk d ≤ 1048576) :
  ∃ (sv rv pv : Value) (S : List P3) (l : List (RQ × List F5)) (pl : List Nat), v = .agg #[sv, rv, pv] ∧ Stf W sv S ∧ Rqs W rv l ∧ Us W pv pl ∧ (∀ p ∈ l, PGo p) ∧ 2 * S.length ≤ Rows.uptoBulk d ∧ 2 * l.length + 1 ≤ Rows.uptoBulk d := by
 obtain ⟨cs, rfl, hsz⟩ := okWide_struct Tryz.underlying26 hval
 obtain ⟨fuel, hf0⟩ := h
 obtain ⟨xs, n, _, hx, hl, hlen, hfs⟩ := DataW.trod_struct Tryz.underlying26 hf0
 rw [Tryz.cellsPlay] at hl
 simp only [Prod.mk.injEq] at hx
 obtain ⟨rfl, -⟩ := hx
 have h0 := hfs 0 _ rfl
 have h1 := hfs 1 _ rfl
 have h2 := hfs 2 _ rfl
 have hc : (Value.agg cs).cells.toList = cs.toList := rfl
 rw [hc] at hl h0 h1 h2
 obtain ⟨l⟩ := cs
 simp only at hl h0 h1 h2
 match l, hl with
 | [c0, c1, c2], _ =>
  match xs, hlen with
  | [y0, y1, y2], _ =>
   simp [Tryz.cellsSls, Tryz.cellsSlq, Tryz.cellsSlu] at h0 h1 h2
   have hbi : ∀ y : DataW H, y ∈ [y0, y1, y2].map (·.1) → Rows.uptoBulk y ≤ Rows.uptoBulk (DataW.agg ([y0, y1, y2].map (·.1)) : DataW H) := fun y hy => by
    have := bulk_in _ y hy
    simp only [Rows.uptoBulk]
    omega
   have b0 := hbi y0.1 (by simp)
   have b1 := hbi y1.1 (by simp)
   obtain ⟨S, hS, _⟩ := stf_of_trod h0
   have bS := stf_len h0 hS
   obtain ⟨l, hq, hp, bl⟩ := rqs_of_trodP h1 (by omega)
   obtain ⟨pl, hu, _⟩ := us_of_trod h2
   exact ⟨c0, c1, c2, S, l, pl, rfl, hS, hq, hu, hp, by omega, by omega⟩
end Go.Proofs.YthpoligdgbmnkaaGreatDoor

namespace Go.Proofs.YthpoligdgbmnkaaGreatDoor
open Go.RowKit Go.Shelf

/-- Answers of one's own, in memory, and what is told. -/
structure AnsL (w : World) (base : Nat) (T : Nat → Prop) (l : List (RQ × List F5)) (xs : List RA) (ov : Value) (al0 : List AN) : Prop where
 o : w.ownsRow base 45 7 ov al0.length (acells al0)
 ot : ∀ g, ov.ownBlock = some g → ¬ T g
 n : al0.length = xs.length
 a : ∀ (i : Nat) (a : AN), al0[i]? = some a → ∃ (p : RQ × List F5) (x : RA), l[i]? = some p ∧ xs[i]? = some x ∧ AnOk w base T p.1 a x
/-- What holds at Answers' loop. -/
structure AI (w wr : World) (b : Nat) (y : Value) (l : List (RQ × List F5)) (s0 : RM) (j : Nat) (ov : Value) (T : Nat → Prop) (al0 : List AN) : Prop where
 r : RsB wr b T (endM s0 0 (l.take j))
 t : ∀ k, T k → w.heap.size ≤ k ∧ k < wr.heap.size
 q : Rqs wr y l
 lo : ∀ k, Rqb y l k → k < w.heap.size
 u : GU wr
 uv : 1 < w.heap.size
 al : AnsL wr w.heap.size T l (runM s0 0 (l.take j)) ov al0
 f : Fr (fun _ => False) w wr
theorem AI.step {w wr W : World} {b j : Nat} {y ov : Value} {l : List (RQ × List F5)} {s0 : RM} {T : Nat → Prop} {al0 : List AN} (h : AI w wr b y l s0 j ov T al0) (hf : Fr (fun _ => False) wr W) : AI w W b y l s0 j ov T al0 :=
 ⟨h.r.fr hf, fun k hk => ⟨(h.t k hk).1, Nat.lt_of_lt_of_le (h.t k hk).2 hf.size⟩, h.q.fr hf, h.lo, h.u.fr hf, h.uv, ⟨ownsRow_of_block h.al.o (fun g hg => hf.block g (h.al.o.lt g hg).2 (fun h => h)), h.al.ot, h.al.n, fun i a ha => by
  obtain ⟨p, x, h1, h2, h3⟩ := h.al.a i a ha
  exact ⟨p, x, h1, h2, h3.frS hf (fun _ _ h => h) (fun _ _ h => h)⟩⟩, h.f.trans hf (fun _ _ h => h)⟩
/-- A request more is answered. -/
theorem AI.next {w W8 w3 : World} {b j : Nat} {y ov : Value} {l : List (RQ × List F5)} {s0 : RM} {T T' : Nat → Prop} {al0 : List AN} {p : RQ × List F5} {X : RM × RA} {fv hv : Value} (h : AI w W8 b y l s0 j ov T al0) (hp : l[j]? = some p) (hX : (endM s0 0 (l.take j)).step p.1 p.2 j = X) (hf : Fr T W8 w3)
  (hr : RsB w3 b T' X.1) (k2 : ∀ k, T' k → T k ∨ W8.heap.size ≤ k) (k3 : ∀ k, T' k → k < w3.heap.size) (hof : OwF w3 W8.heap.size fv X.2.F) (hos : OwS w3 W8.heap.size hv X.2.H) (tf : ∀ g, fv.ownBlock = some g → ¬ T' g) (th : ∀ g, hv.ownBlock = some g → ¬ T' g) (hfo : fv.oneCell' = true) (hho : hv.oneCell' = true) (hl : l.length ≤ 1000000000) :
  ∃ ao cap w7, (Builtin.append_ #[58, 58] 58 #[ov, .slice (some ⟨w3.heap.size, 0, none⟩) 1 1]).run Tryz.prog (w3.alloc (.cells (AN.mk p.1.cl p.1.nu X.2.co X.2.rc X.2.ve fv hv).cs.toArray 45)) = .ok (.slice ao (al0.length + 1) cap) w7 ∧ AI w w7 b y l s0 (j + 1) (.slice ao (al0.length + 1) cap) T' (al0 ++ [AN.mk p.1.cl p.1.nu X.2.co X.2.rc X.2.ve fv hv]) := by
 have hj : j < l.length := (List.getElem?_eq_some_iff.1 hp).1
 have hs := h.f.size
 have hs3 := hf.size
 have htk : (l.take j).length = j := by simp; omega
 have hasl : al0.length = j := by rw [h.al.n, runM_len, htk]
 have ho3 : w3.ownsRow w.heap.size 45 7 ov al0.length (acells al0) := ownsRow_of_block h.al.o (fun g hg => hf.block g (h.al.o.lt g hg).2 (h.al.ot g hg))
 obtain ⟨Wd, hWd⟩ : ∃ Wd, Wd = w3.alloc (.cells (AN.mk p.1.cl p.1.nu X.2.co X.2.rc X.2.ve fv hv).cs.toArray 45) := ⟨_, rfl⟩
 have f3d : Fr (fun _ => False) w3 Wd := by rw [hWd]; exact box1 w3 _
 have hod : Wd.ownsRow w.heap.size 45 7 ov al0.length (acells al0) := by rw [hWd]; exact ho3.alloc _
 obtain ⟨ao, cap, w7, hr7, ho7, hf7, hn7⟩ := app_ans Wd w.heap.size w3.heap.size ov al0 (AN.mk p.1.cl p.1.nu X.2.co X.2.rc X.2.ve fv hv) hod (by have := f3d.size; omega) (by omega) (by rw [hWd]; exact Array.getElem?_push_size) (fun u hu => by
  simp only [AN.cs, List.mem_cons, List.not_mem_nil, or_false] at hu
  rcases hu with rfl | rfl | rfl | rfl | rfl | rfl | rfl
  ·rfl
  ·rfl
  ·rfl
  ·rfl
  ·rfl
  ·exact hfo
  ·exact hho)
 have hovn : ∀ g, ov.ownBlock = some g → g < W8.heap.size := fun g hg => (h.al.o.lt g hg).2
 have hov' : ∀ g, ov.ownBlock = some g → ¬ T' g := fun g hg hT => by
  rcases k2 g hT with h1 | h1
  ·exact h.al.ot g hg h1
  ·have := hovn g hg; omega
 have f37 : Fr (fun g => ov.ownBlock = some g) w3 w7 := (f3d.mono (fun _ _ h => h.elim)).trans hf7 (fun _ _ h => h)
 have hs7 := f37.size
 have hrun : runM s0 0 (l.take (j + 1)) = runM s0 0 (l.take j) ++ [X.2] ∧ endM s0 0 (l.take (j + 1)) = X.1 := by
  have e : l.take (j + 1) = l.take j ++ [p] := by rw [List.take_add_one, hp]; rfl
  obtain ⟨h1, h2⟩ := runM_snoc (l.take j) s0 0 p
  rw [htk, Nat.zero_add, hX] at h1 h2
  rw [e]
  exact ⟨h1, h2⟩
 refine ⟨ao, cap, w7, by rw [← hWd]; exact hr7, ⟨?_, fun k hk => ⟨?_, Nat.lt_of_lt_of_le (k3 k hk) hs7⟩, ?_, h.lo, ?_, h.uv, ⟨ho7, fun g hg hT => ?_, ?_, ?_⟩, ?_⟩⟩
 ·rw [hrun.2]
  exact hr.frS f37 (fun k hk hT => hov' k hk hT)
 ·rcases k2 k hk with h1 | h1
  ·exact (h.t k h1).1
  ·omega
 ·refine (h.q.frS hf (fun k hk hT => by have := h.lo k hk; have := (h.t k hT).1; omega)).frS f37 (fun k hk hov => by have := h.lo k hk; have := (h.al.o.lt k hov).1; omega)
 ·exact (h.u.frT hf (fun hT => by have := (h.t _ hT).1; have := h.uv; omega)).frT f37 (fun hov => by have := (h.al.o.lt _ hov).1; have := h.uv; omega)
 ·rcases hn7 g hg with h1 | h1
  ·exact hov' g h1 hT
  ·have := k3 g hT
   have := f3d.size
   omega
 ·rw [hrun.1]
  simp [h.al.n]
 ·intro i a ha
  by_cases hi : i < al0.length
  ·rw [List.getElem?_append_left hi] at ha
   obtain ⟨p', x, h1, h2, h3⟩ := h.al.a i a ha
   refine ⟨p', x, h1, ?_, ?_⟩
   ·rw [hrun.1, List.getElem?_append_left (by rw [← h.al.n]; exact hi)]
    exact h2
   ·have h4 := h3.frS (T' := T') hf (fun g hg => hg.elim (h3.tf g) (h3.th g)) (fun g hg hT => (k2 g hT).resolve_right (by omega))
    refine h4.frS f37 (fun g hg hov => ?_) (fun _ _ h => h)
    rcases hg with hg | hg
    ·exact own_ne h4.f ho3 (by decide) g hg hov
    ·exact own_ne h4.h ho3 (by decide) g hg hov
  ·have hi2 : i = al0.length := by
    have := (List.getElem?_eq_some_iff.1 ha).1
    simp at this
    omega
   subst hi2
   rw [List.getElem?_append_right (Nat.le_refl _), Nat.sub_self] at ha
   simp at ha
   subst ha
   refine ⟨p, X.2, by rw [hasl]; exact hp, ?_, ?_⟩
   ·rw [hrun.1, h.al.n, List.getElem?_append_right (Nat.le_refl _), Nat.sub_self]
    rfl
   ·have hk : AnOk w3 w.heap.size T' p.1 (AN.mk p.1.cl p.1.nu X.2.co X.2.rc X.2.ve fv hv) X.2 := ⟨⟨rfl, rfl, rfl, rfl, rfl⟩, ownsRow_base hof hs, ownsRow_base hos hs, tf, th⟩
    refine hk.frS f37 (fun g hg hov => ?_) (fun _ _ h => h)
    rcases hg with hg | hg
    ·exact own_ne hof ho3 (by decide) g hg hov
    ·exact own_ne hos ho3 (by decide) g hg hov
 ·exact (h.f.absorb hf (fun k hk => (h.t k hk).1)).absorb f37 (fun k hk => (h.al.o.lt k hk).1)
end Go.Proofs.YthpoligdgbmnkaaGreatDoor

namespace Go.Proofs.YthpoligdgbmnkaaGreatDoor
open Go.RowKit Go.Shelf

/-- Behind Apply of the document's own state: the state, and the answer's lists, all among T. -/
structure GQ (w : World) (T : Nat → Prop) (sv rv : Value) (n : Nat) (X : RM × RA) (L : List GC) (fv hv : Value) : Prop where
 g : GR w T sv rv n X.1 L
 f : Fds w fv X.2.F
 h : Sms w hv X.2.H
 b : ∀ k, Blk fv k ∨ Blk hv k → T k
 lt : ∀ k, T k → k < w.heap.size
theorem Sms.frB {w w' : World} {x : Value} {l : List SM} {S : Nat → Prop} (h : Sms w x l) (hf : Fr S w w') (hS : ∀ k, Blk x k → ¬ S k) : Sms w' x l := by
 rcases h with h | ⟨g, o, c, h1, h2⟩
 ·exact .inl h
 ·rcases Nat.eq_zero_or_pos l.length with h0 | h0
  ·refine .inl ⟨some ⟨g, o, none⟩, c, by rw [h1, h0], List.length_eq_zero_iff.1 h0⟩
  ·refine .inr ⟨g, o, c, h1, fun j hj => ?_⟩
   obtain ⟨c0, c1, c2, c3⟩ := h2 j hj
   have hg : g < w.heap.size := lt_of_cell c0
   have hn : ¬ S g := hS g ⟨o, _, c, h1, h0⟩
   exact ⟨(hf.cell (p := ⟨g, _, none⟩) hg hn).trans c0, (hf.cell (p := ⟨g, _, none⟩) hg hn).trans c1, (hf.cell (p := ⟨g, _, none⟩) hg hn).trans c2, (hf.cell (p := ⟨g, _, none⟩) hg hn).trans c3⟩
theorem GQ.frS {w w' : World} {T S : Nat → Prop} {sv rv : Value} {n : Nat} {X : RM × RA} {L : List GC} {fv hv : Value} (h : GQ w T sv rv n X L fv hv) (hf : Fr S w w') (hS : ∀ k, S k → ¬ T k) : GQ w' T sv rv n X L fv hv :=
 ⟨h.g.frS hf hS, h.f.frB hf (fun k hk hs => hS k hs (h.b k (.inl hk))), h.h.frB hf (fun k hk hs => hS k hs (h.b k (.inr hk))), h.b, fun k hk => Nat.lt_of_lt_of_le (h.lt k hk) hf.size⟩
theorem GQ.fr {w w' : World} {T : Nat → Prop} {sv rv : Value} {n : Nat} {X : RM × RA} {L : List GC} {fv hv : Value} (h : GQ w T sv rv n X L fv hv) (hf : Fr (fun _ => False) w w') : GQ w' T sv rv n X L fv hv := h.frS hf (fun _ h => h.elim)
/-- What Apply of the document's own state answers. -/
def QPost (w : World) (T : Nat → Prop) (sv : Value) (n cl nu : Nat) (X : RM × RA) (e : Ending) (w' : World) : Prop :=
 ∃ rv' L' fo fn fc ho hn hc T1, e = .returned (.tuple #[.agg #[sv, rv'], .agg #[.int .u32 (cl : Nat), .int .u32 (nu : Nat), .int .u8 (X.2.co : Nat), .int .u32 (X.2.rc : Nat), .int .u32 (X.2.ve : Nat), .slice fo fn fc, .slice ho hn hc]]) ∧ rv'.oneCell' = true ∧ GQ w' T1 sv rv' (n + 1) X L' (.slice fo fn fc) (.slice ho hn hc) ∧ (∀ k, T1 k → (T k ∨ w.heap.size ≤ k) ∧ k < w'.heap.size) ∧ (∀ k, T k → k < w.heap.size → T1 k) ∧ Fr (fun _ => False) w w'
theorem gapply_Q (sv rv : Value) (s : RM) (L : List GC) (T : Nat → Prop) (n : Nat) (r : RQ) (F : List F5) (pl : Nat) (w : World) (h : GR w T sv rv n s L) (hn : n ≤ 1000000) (hF : Fds w r.fv F) (hFT : ∀ k, Blk r.fv k → T k) (hp : PGo (r, F)) (X : RM × RA) (hX : s.step r F pl = X) :
  Calls Tryz.prog 12 #[.agg #[sv, rv], r.v, .int .u32 (pl : Nat)] w fun e w' => QPost w T sv n r.cl r.nu X e w' := by
 refine (gapply_R sv rv s L T n r F pl w h hn hF hFT hp X hX).mono ?_
 rintro e w' ⟨rv', L', fo, fn, fc, ho, hn', hc, he, h1, hg, hf1, hf2, hb, hf⟩
 exact ⟨rv', L', fo, fn, fc, ho, hn', hc, _, he, h1, ⟨hg, hf1, hf2, hb, fun k hk => hk.2⟩, fun k hk => hk, fun k hk hl => ⟨.inl hk, Nat.lt_of_lt_of_le hl hf.size⟩, hf⟩
/-- An answer that the document's own state told. -/
structure AnG (w : World) (T : Nat → Prop) (r : RQ) (a : AN) (x : RA) : Prop where
 e : a.cl = r.cl ∧ a.nu = r.nu ∧ a.co = x.co ∧ a.rc = x.rc ∧ a.ve = x.ve
 f : Fds w a.fv x.F
 h : Sms w a.hv x.H
 t : ∀ k, Blk a.fv k ∨ Blk a.hv k → T k
theorem AnG.frS {w w' : World} {T T' S : Nat → Prop} {r : RQ} {a : AN} {x : RA} (h : AnG w T r a x) (hf : Fr S w w') (hS : ∀ k, S k → ¬ T k) (hT : ∀ k, T k → T' k) : AnG w' T' r a x :=
 ⟨h.e, h.f.frB hf (fun k hk hs => hS k hs (h.t k (.inl hk))), h.h.frB hf (fun k hk hs => hS k hs (h.t k (.inr hk))), fun k hk => hT k (h.t k hk)⟩
structure AnsG (w : World) (base : Nat) (T : Nat → Prop) (l : List (RQ × List F5)) (xs : List RA) (ov : Value) (al : List AN) : Prop where
 o : w.ownsRow base 45 7 ov al.length (acells al)
 n : al.length = xs.length
 a : ∀ (i : Nat) (a : AN), al[i]? = some a → ∃ (p : RQ × List F5) (x : RA), l[i]? = some p ∧ xs[i]? = some x ∧ AnG w T p.1 a x
theorem AnsG.frS {w w' : World} {base : Nat} {T T' S : Nat → Prop} {l : List (RQ × List F5)} {xs : List RA} {ov : Value} {al : List AN} (h : AnsG w base T l xs ov al) (hf : Fr S w w') (hS : ∀ k, S k → ¬ T k) (ho : ∀ g, ov.ownBlock = some g → ¬ S g) (hT : ∀ k, T k → T' k) : AnsG w' base T' l xs ov al :=
 ⟨ownsRow_of_block h.o (fun g hg => hf.block g (h.o.lt g hg).2 (ho g hg)), h.n, fun i a ha => by
  obtain ⟨p, x, h1, h2, h3⟩ := h.a i a ha
  exact ⟨p, x, h1, h2, h3.frS hf hS hT⟩⟩
/-- What holds at the loop of the document's Answers. -/
structure GI (w wr : World) (sv rv yv ov : Value) (S : List P3) (l : List (RQ × List F5)) (j : Nat) (T : Nat → Prop) (al : List AN) (L : List GC) : Prop where
 b : wr.heap[w.heap.size]? = some (.cells #[sv, rv] 36)
 g : GR wr T sv rv j (endM ⟨S, []⟩ 0 (l.take j)) L
 t : ∀ k, T k → k < wr.heap.size ∧ k ≠ w.heap.size ∧ ¬ ov.ownBlock = some k
 q : Rqs wr yv l
 qt : ∀ k, Rqb yv l k → T k
 al : AnsG wr (w.heap.size + 1) T l (runM ⟨S, []⟩ 0 (l.take j)) ov al
 f : Fr (fun _ => False) w wr
/-- Behind Apply: the new state and the answer in their boxes. -/
structure GJ (w wx : World) (sv rv rv' yv ov : Value) (S : List P3) (l : List (RQ × List F5)) (j : Nat) (T : Nat → Prop) (al : List AN) (L : List GC) (z8 z9 : Nat) (p : RQ × List F5) (a : AN) (X : RM × RA) : Prop where
 b : wx.heap[w.heap.size]? = some (.cells #[sv, rv] 36)
 k8 : wx.heap[z8]? = some (.cells #[sv, rv'] 36)
 k9 : wx.heap[z9]? = some (.cells a.cs.toArray 45)
 n8 : z8 ≠ w.heap.size
 n9 : z9 ≠ w.heap.size
 g : GR wx T sv rv' (j + 1) X.1 L
 t : ∀ k, T k → k < wx.heap.size ∧ k ≠ w.heap.size ∧ ¬ ov.ownBlock = some k
 q : Rqs wx yv l
 qt : ∀ k, Rqb yv l k → T k
 al : AnsG wx (w.heap.size + 1) T l (runM ⟨S, []⟩ 0 (l.take j)) ov al
 an : AnG wx T p.1 a X.2
 f : Fr (fun _ => False) w wx
theorem GI.after {w wr wx : World} {sv rv rv' yv ov fv hv : Value} {S : List P3} {l : List (RQ × List F5)} {j : Nat} {T T1 : Nat → Prop} {al : List AN} {L L' : List GC} {z8 z9 : Nat} {p : RQ × List F5} {X : RM × RA} {sz : Nat}
  (h : GI w wr sv rv yv ov S l j T al L) (hf : Fr (fun _ => False) wr wx) (hq : GQ wx T1 sv rv' (j + 1) X L' fv hv) (ht1 : ∀ k, T1 k → (T k ∨ sz ≤ k) ∧ k < wx.heap.size) (hsz : wr.heap.size ≤ sz) (ht2 : ∀ k, T k → T1 k) (h8 : wr.heap.size ≤ z8 ∧ wx.heap[z8]? = some (.cells #[sv, rv'] 36)) (h9 : wr.heap.size ≤ z9 ∧ wx.heap[z9]? = some (.cells (AN.mk p.1.cl p.1.nu X.2.co X.2.rc X.2.ve fv hv).cs.toArray 45)) :
  GJ w wx sv rv rv' yv ov S l j T1 al L' z8 z9 p (AN.mk p.1.cl p.1.nu X.2.co X.2.rc X.2.ve fv hv) X := by
 have hb := lt_of_block h.b
 refine ⟨(hf.block _ hb (fun h => h)).trans h.b, h8.2, h9.2, by omega, by omega, hq.g, fun k hk => ?_, h.q.fr hf, fun k hk => ht2 k (h.qt k hk), h.al.frS hf (fun _ h => h.elim) (fun _ _ h => h) ht2, ⟨⟨rfl, rfl, rfl, rfl, rfl⟩, hq.f, hq.h, hq.b⟩, h.f.trans hf (fun _ _ h => h)⟩
 obtain ⟨h1, h2⟩ := ht1 k hk
 rcases h1 with h1 | h1
 ·obtain ⟨h3, h4, h5⟩ := h.t k h1
  exact ⟨h2, h4, h5⟩
 ·refine ⟨h2, by omega, fun e => ?_⟩
  have := (h.al.o.lt k e).2
  omega
/-- The answer joins the others. -/
theorem GJ.next {w wx : World} {sv rv rv' yv ov : Value} {S : List P3} {l : List (RQ × List F5)} {j : Nat} {T : Nat → Prop} {al : List AN} {L : List GC} {z8 z9 : Nat} {p : RQ × List F5} {a : AN} {X : RM × RA} (h : GJ w wx sv rv rv' yv ov S l j T al L z8 z9 p a X) (hp : l[j]? = some p) (hX : (endM ⟨S, []⟩ 0 (l.take j)).step p.1 p.2 j = X) (hl : l.length ≤ 1000000000) (ha : ∀ u ∈ a.cs, u.oneCell' = true) :
  ∃ ao cap w7, (Builtin.append_ #[58, 58] 58 #[ov, .slice (some ⟨wx.heap.size, 0, none⟩) 1 1]).run Tryz.prog (((wx.setCell ⟨w.heap.size, 0, none⟩ sv).setCell ⟨w.heap.size, 1, none⟩ rv').alloc (.cells a.cs.toArray 45)) = .ok (.slice ao (al.length + 1) cap) w7 ∧ GI w w7 sv rv' yv (.slice ao (al.length + 1) cap) S l (j + 1) T (al ++ [a]) L := by
 obtain ⟨W5, hW5⟩ : ∃ W5, W5 = (wx.setCell ⟨w.heap.size, 0, none⟩ sv).setCell ⟨w.heap.size, 1, none⟩ rv' := ⟨_, rfl⟩
 have f5 : Fr (fun k => k = w.heap.size) wx W5 := by
  rw [hW5]
  exact ((Fr.refl (fun k => k = w.heap.size) wx).setCell (p := ⟨w.heap.size, 0, none⟩) (.inl rfl) sv).setCell (p := ⟨w.heap.size, 1, none⟩) (.inl rfl) rv'
 have hsz5 : W5.heap.size = wx.heap.size := by rw [hW5]; simp
 have b5 : W5.heap[w.heap.size]? = some (.cells #[sv, rv'] 36) := by
  have k0 := heap_setCell_same wx w.heap.size 0 _ 36 sv h.b
  have k1 := heap_setCell_same _ w.heap.size 1 _ 36 rv' k0
  simp only [List.setIfInBounds_toArray, List.set_cons_zero, List.set_cons_succ] at k1
  rw [hW5]
  exact k1
 rw [← hW5]
 have hb := lt_of_block h.b
 have hj : j < l.length := (List.getElem?_eq_some_iff.1 hp).1
 have htk : (l.take j).length = j := by simp; omega
 have hasl : al.length = j := by rw [h.al.n, runM_len, htk]
 have al5 := h.al.frS f5 (T' := T) (fun k hk ht => by have := (h.t k ht).2.1; omega) (fun g hg e => by have h1 : w.heap.size + 1 ≤ g := (h.al.o.lt g hg).1; omega) (fun _ h => h)
 obtain ⟨Wd, hWd⟩ : ∃ Wd, Wd = W5.alloc (.cells a.cs.toArray 45) := ⟨_, rfl⟩
 have f5d : Fr (fun _ => False) W5 Wd := by rw [hWd]; exact box1 W5 _
 have ald := al5.frS f5d (T' := T) (fun _ h => h.elim) (fun _ _ h => h) (fun _ h => h)
 obtain ⟨ao, cap, w7, hr7, ho7, hf7, hn7⟩ := app_ans Wd (w.heap.size + 1) wx.heap.size ov al a ald.o (by have := f5d.size; omega) (by omega) (by rw [hWd, ← hsz5]; exact Array.getElem?_push_size) ha
 refine ⟨ao, cap, w7, by rw [← hWd]; exact hr7, ?_⟩
 have hrun : runM ⟨S, []⟩ 0 (l.take (j + 1)) = runM ⟨S, []⟩ 0 (l.take j) ++ [X.2] ∧ endM ⟨S, []⟩ 0 (l.take (j + 1)) = X.1 := by
  have e : l.take (j + 1) = l.take j ++ [p] := by rw [List.take_add_one, hp]; rfl
  obtain ⟨h1, h2⟩ := runM_snoc (l.take j) ⟨S, []⟩ 0 p
  rw [htk, Nat.zero_add, hX] at h1 h2
  rw [e]
  exact ⟨h1, h2⟩
 have hlo : ∀ g, ov.ownBlock = some g → w.heap.size + 1 ≤ g := fun g hg => (h.al.o.lt g hg).1
 have f57 : Fr (fun g => ov.ownBlock = some g) W5 w7 := (f5d.mono (fun _ _ h => h.elim)).trans hf7 (fun _ _ h => h)
 have hs7 := f57.size
 have hT5 : ∀ k, k = w.heap.size → ¬ T k := fun k hk ht => (h.t k ht).2.1 hk
 have hT7 : ∀ k, ov.ownBlock = some k → ¬ T k := fun k hk ht => (h.t k ht).2.2 hk
 refine ⟨(f57.block _ (by omega) (fun e => by have := hlo _ e; omega)).trans b5, ?_, fun k hk => ⟨?_, (h.t k hk).2.1, fun e => ?_⟩, ?_, h.qt, ⟨ho7, ?_, fun i a' ha' => ?_⟩, ?_⟩
 ·rw [hrun.2]
  exact (h.g.frS f5 hT5).frS f57 hT7
 ·have := (h.t k hk).1
  omega
 ·rcases hn7 k e with h1 | h1
  ·exact hT7 k h1 hk
  ·have := (h.t k hk).1
   have := f5d.size
   omega
 ·exact (h.q.frS f5 (fun k hk e => hT5 k e (h.qt k hk))).frS f57 (fun k hk e => hT7 k e (h.qt k hk))
 ·rw [hrun.1]
  simp [h.al.n]
 ·by_cases hi : i < al.length
  ·rw [List.getElem?_append_left hi] at ha'
   obtain ⟨p', x, h1, h2, h3⟩ := al5.a i a' ha'
   refine ⟨p', x, h1, ?_, h3.frS f57 hT7 (fun _ h => h)⟩
   rw [hrun.1, List.getElem?_append_left (by rw [← h.al.n]; exact hi)]
   exact h2
  ·have hi2 : i = al.length := by
    have := (List.getElem?_eq_some_iff.1 ha').1
    simp at this
    omega
   subst hi2
   rw [List.getElem?_append_right (Nat.le_refl _), Nat.sub_self] at ha'
   simp at ha'
   subst ha'
   refine ⟨p, X.2, by rw [hasl]; exact hp, ?_, (h.an.frS f5 hT5 (fun _ h => h)).frS f57 hT7 (fun _ h => h)⟩
   rw [hrun.1, h.al.n, List.getElem?_append_right (Nat.le_refl _), Nat.sub_self]
   rfl
 ·exact (h.f.absorb f5 (fun k hk => by omega)).absorb f57 (fun k hk => by have := hlo k hk; omega)
end Go.Proofs.YthpoligdgbmnkaaGreatDoor

namespace Go.Proofs.YthpoligdgbmnkaaGreatDoor
open Go.RowKit Go.Shelf

set_option maxHeartbeats 8000000 in
set_option maxRecDepth 100000 in
/-- The document's Answers. -/
theorem ganswers_any (sv yv : Value) (S : List P3) (l : List (RQ × List F5)) (w : World) (hs : Stf w sv S) (hS : S.length ≤ 1000000) (hq : Rqs w yv l) (hl : l.length ≤ 1000000) (hp : ∀ p ∈ l, PGo p) :
  Calls Tryz.prog 17 #[sv, yv] w fun e w' => ∃ ov al T, e = .returned ov ∧ AnsG w' (w.heap.size + 1) T l (runM ⟨S, []⟩ 0 l) ov al ∧ Fr (fun _ => False) w w' := by
 obtain ⟨so, sc, rfl⟩ := hs.form
 obtain ⟨yo, yc, rfl⟩ := hq.form
 have HP := hide (And.intro hp hl)
 obtain ⟨W1, hW1⟩ : ∃ W1, W1 = w.alloc (.cells #[.slice so S.length sc, .slice none 0 0] 36) := ⟨_, rfl⟩
 have f1 : Fr (fun _ => False) w W1 := by rw [hW1]; exact box1 w _
 have hlo : ∀ k, (Blk (.slice so S.length sc) k ∨ Rqb (.slice yo l.length yc) l k) → k < w.heap.size := fun k hk => hk.elim (fun h => hs.blt h) (fun h => hq.lt h)
 have HI0 : Hid (GI w W1 (.slice so S.length sc) (.slice none 0 0) (.slice yo l.length yc) (.slice none 0 0) S l 0 (fun k => Blk (.slice so S.length sc) k ∨ Rqb (.slice yo l.length yc) l k) [] []) := by
  refine ⟨by rw [hW1]; exact Array.getElem?_push_size, ⟨⟨hs.fr f1, fun k hk => .inl hk, ⟨rfl, .inl ⟨none, 0, rfl, rfl⟩⟩, fun k hk => (blk_nil hk).elim, fun x hx => (by cases hx)⟩, ⟨rfl, rfl, fun i c d hc => (by simp [endM] at hc)⟩, ⟨by simp, fun x hx => (by cases hx)⟩, ⟨by show S.length ≤ _; omega, by show 0 ≤ 256; omega, fun c hc => (by cases hc)⟩, ⟨fun c hc => (by cases hc)⟩⟩, fun k hk => ⟨?_, ?_, fun e => (by cases e)⟩, hq.fr f1, fun k hk => .inr hk, ⟨World.ownsRow_nil _ _ _ _, rfl, fun i a ha => (by simp at ha)⟩, f1⟩
  ·have := hlo k hk
   have := f1.size
   omega
  ·have := hlo k hk
   omega
 clear hs hq hp f1 hlo
 go_enter Tryz.func17, Tryz.ntmps17
 go_wp2_with fail
 rw [← hW1]
 clear hW1
 go_loopw [6, 7] (fun ov kv wr => ∃ j : Nat, j ≤ l.length ∧ kv = .int .i64 (j : Nat) ∧ ∃ rv T al L, GI w wr (.slice so S.length sc) rv (.slice yo l.length yc) ov S l j T al L) (fun _ kv _ => l.length - (intOf kv).toNat)
 case atStart => exact ⟨0, Nat.zero_le _, rfl, _, _, _, _, unhide HI0⟩
 case round =>
  clear HI0
  obtain ⟨j, hj, rfl, rv, T, al, L, hi⟩ := hrel
  by_cases hlt : j < l.length
  ·obtain ⟨p, hpe⟩ : ∃ p, l[j] = p := ⟨_, rfl⟩
   have hpe2 : l[j]? = some p := by rw [List.getElem?_eq_getElem hlt, hpe]
   obtain ⟨g, o, rfl, c⟩ := hi.q.at_ j hlt
   rw [hpe] at c
   have hpm : p ∈ l := List.mem_of_getElem? hpe2
   have hgo := (unhide HP).1 p hpm
   have hfd := hi.q.d p hpm
   obtain ⟨oo, oc, rfl⟩ := own_formX hi.al.o
   obtain ⟨ro, rcap, rfl⟩ := hi.g.g.r.form
   obtain ⟨⟨cl, nu, ac, op, rc, ve, wa, ow, fv, rs⟩, F⟩ := p
   obtain ⟨xo2, xc2, rfl⟩ : ∃ xo2 xc2, fv = .slice xo2 F.length xc2 := hfd.f.form
   obtain ⟨X, hX⟩ : ∃ X, (endM ⟨S, []⟩ 0 (l.take j)).step ⟨cl, nu, ac, op, rc, ve, wa, ow, .slice xo2 F.length xc2, rs⟩ F j = X := ⟨_, rfl⟩
   have HA : Hid (∀ W, Fr (fun _ => False) wr W → Calls Tryz.prog 12 #[.agg #[.slice so S.length sc, .slice ro L.length rcap], .agg #[.int .u32 (cl : Nat), .int .u32 (nu : Nat), .int .u32 (ac : Nat), .int .u8 (op : Nat), .int .u32 (rc : Nat), .int .u32 (ve : Nat), .int .u32 (wa : Nat), .int .u32 (ow : Nat), .slice xo2 F.length xc2, .string rs], .int .u32 (j : Nat)] W fun e w' => QPost W T (.slice so S.length sc) j cl nu X e w') := fun W hW =>
    gapply_Q _ _ (endM ⟨S, []⟩ 0 (l.take j)) L T j ⟨cl, nu, ac, op, rc, ve, wa, ow, .slice xo2 F.length xc2, rs⟩ F j W (hi.g.fr hW) (by have := (unhide HP).2; omega) (hfd.f.fr hW) (fun k hk => hi.qt k (.inr ⟨_, hpm, hk⟩)) hgo X hX
   have HT : Hid (∀ k, T k → k < wr.heap.size) := fun k hk => (hi.t k hk).1
   have HI := hide hi
   have HX := hide (And.intro hpe2 hX)
   have HS : Hid (∀ W, Fr (fun _ => False) wr W → (W.cell? ⟨w.heap.size, 0, none⟩ = some (.slice so S.length sc) ∧ W.cell? ⟨w.heap.size, 1, none⟩ = some (.slice ro L.length rcap)) ∧ W.cell? ⟨g, o + j * 10, none⟩ = some (.int .u32 (cl : Nat)) ∧ W.cell? ⟨g, o + j * 10 + 1, none⟩ = some (.int .u32 (nu : Nat)) ∧ W.cell? ⟨g, o + j * 10 + 2, none⟩ = some (.int .u32 (ac : Nat)) ∧ W.cell? ⟨g, o + j * 10 + 3, none⟩ = some (.int .u8 (op : Nat)) ∧ W.cell? ⟨g, o + j * 10 + 4, none⟩ = some (.int .u32 (rc : Nat)) ∧ W.cell? ⟨g, o + j * 10 + 5, none⟩ = some (.int .u32 (ve : Nat)) ∧ W.cell? ⟨g, o + j * 10 + 6, none⟩ = some (.int .u32 (wa : Nat)) ∧ W.cell? ⟨g, o + j * 10 + 7, none⟩ = some (.int .u32 (ow : Nat)) ∧ W.cell? ⟨g, o + j * 10 + 8, none⟩ = some (.slice xo2 F.length xc2) ∧ W.cell? ⟨g, o + j * 10 + 9, none⟩ = some (.string rs)) := fun W hW => by
    have hb := (hW.block _ (lt_of_block hi.b) (fun h => h)).trans hi.b
    obtain ⟨c0, c1, c2, c3, c4, c5, c6, c7, c8, c9⟩ := c.frS hW (fun h => h)
    exact ⟨⟨by simp [World.cell?, hb], by simp [World.cell?, hb]⟩, c0, c1, c2, c3, c4, c5, c6, c7, c8, c9⟩
   have hkl : (j : Int) < (l.length : Int) := by omega
   have hwr : IntKind.u32.wrap (j : Int) = (j : Int) := by have := (unhide HP).2; rw [IntKind.wrap_u32]; omega
   have hlt' := hide hlt
   clear hi hpe hpe2 hpm hgo hfd c hX hj hlt
   go_upto_region 6 with fail
   go_cut [8, 9] from 12 to 33 (fun s8 s9 wx => ∃ z8 z9 rv' L' T1 fo fn fc ho hn hc, s8 = .pointer (some ⟨z8, 0, none⟩) ∧ s9 = .pointer (some ⟨z9, 0, none⟩) ∧ GJ w wx (.slice so S.length sc) (.slice ro L.length rcap) rv' (.slice (some ⟨g, o, none⟩) l.length yc) (.slice oo al.length oc) S l j T1 al L' z8 z9 ((⟨cl, nu, ac, op, rc, ve, wa, ow, .slice xo2 F.length xc2, rs⟩ : RQ), F) (AN.mk cl nu X.2.co X.2.rc X.2.ve (.slice fo fn fc) (.slice ho hn hc)) X)
   case first =>
    refine wp_region_noPanic ?_
    refine wp_region_held_drew (S := (fun W => (W.cell? ⟨w.heap.size, 0, none⟩ = some (.slice so S.length sc) ∧ W.cell? ⟨w.heap.size, 1, none⟩ = some (.slice ro L.length rcap)) ∧ W.cell? ⟨g, o + j * 10, none⟩ = some (.int .u32 (cl : Nat)) ∧ W.cell? ⟨g, o + j * 10 + 1, none⟩ = some (.int .u32 (nu : Nat)) ∧ W.cell? ⟨g, o + j * 10 + 2, none⟩ = some (.int .u32 (ac : Nat)) ∧ W.cell? ⟨g, o + j * 10 + 3, none⟩ = some (.int .u8 (op : Nat)) ∧ W.cell? ⟨g, o + j * 10 + 4, none⟩ = some (.int .u32 (rc : Nat)) ∧ W.cell? ⟨g, o + j * 10 + 5, none⟩ = some (.int .u32 (ve : Nat)) ∧ W.cell? ⟨g, o + j * 10 + 6, none⟩ = some (.int .u32 (wa : Nat)) ∧ W.cell? ⟨g, o + j * 10 + 7, none⟩ = some (.int .u32 (ow : Nat)) ∧ W.cell? ⟨g, o + j * 10 + 8, none⟩ = some (.slice xo2 F.length xc2) ∧ W.cell? ⟨g, o + j * 10 + 9, none⟩ = some (.string rs))) (by kernel_rfl) ((unhide HS) _ (Fr.refl _ _).drew) (fun hHeld => ?_)
    refine wtk (i := 0) (v := ?_) rfl (Or.inl ⟨by rfl, ?_⟩) hHeld ?_
    rotate_left
    ·intro w hSw; (try dsimp only at hSw); go_simp; (try with_reducible rfl)
    (try simp only [Act.put, nrm])
    refine wtk (i := 1) (v := ?_) rfl (Or.inl ⟨by rfl, ?_⟩) hHeld ?_
    rotate_left
    ·intro w hSw; (try dsimp only at hSw); go_simp; (try with_reducible rfl)
    (try simp only [Act.put, nrm])
    refine wtk (i := 2) (v := ?_) rfl (Or.inl ⟨by rfl, ?_⟩) hHeld ?_
    rotate_left
    ·intro w hSw; (try dsimp only at hSw); go_simp; (try with_reducible rfl)
    (try simp only [Act.put, nrm])
    refine wtk (i := 3) (v := ?_) rfl (Or.inl ⟨by rfl, ?_⟩) hHeld ?_
    rotate_left
    ·intro w hSw; (try dsimp only at hSw); go_simp; (try with_reducible rfl)
    (try simp only [Act.put, nrm])
    refine wtk (i := 4) (v := ?_) rfl (Or.inl ⟨by rfl, ?_⟩) hHeld ?_
    rotate_left
    ·intro w hSw; (try dsimp only at hSw); go_simp; (try with_reducible rfl)
    (try simp only [Act.put, nrm])
    refine wtk (i := 5) (v := ?_) rfl (Or.inl ⟨by rfl, ?_⟩) hHeld ?_
    rotate_left
    ·intro w hSw; (try dsimp only at hSw); go_simp; (try with_reducible rfl)
    (try simp only [Act.put, nrm])
    refine wtk (i := 6) (v := ?_) rfl (Or.inl ⟨by rfl, ?_⟩) hHeld ?_
    rotate_left
    ·intro w hSw; (try dsimp only at hSw); go_simp; (try with_reducible rfl)
    (try simp only [Act.put, nrm])
    obtain ⟨W0, hW0⟩ : ∃ W0, W0 = wr.drew := ⟨_, rfl⟩
    rw [← hW0]
    have fk0 : Fr (fun _ => False) wr W0 := by rw [hW0]; exact (Fr.refl _ _).drew
    clear hW0
    refine wpAnyH_ready (rs := [7, 11, 12]) (by kernel_rfl) (by simp) (AllReadyH.cons rfl (fun K hK => ?_) (AllReadyH.cons rfl (fun K hK => ?_) (AllReadyH.cons rfl (fun K hK => ?_) (AllReadyH.nil))))
    focus
     go_simp
     refine ((unhide HA) W0 fk0).mono ?_
     rintro e wk1 ⟨rv', L', fo, fn, fc, ho, hn, hc, T1, rfl, hone', hrr, ht1, ht2, gk1⟩
     have fk1 := fk0.trans gk1 (fun _ _ h => h)
     have HSZ := hide (fk0.size)
     have HRR := hide hrr
     have HT1 := hide ht1
     have HT2 := hide (show ∀ k, T k → T1 k from fun k hk => ht2 k hk (Nat.lt_of_lt_of_le ((unhide HT) k hk) fk0.size))
     have HONE := hide hone'
     clear hrr ht1 ht2 hone'
     go_simp
     refine hK.out _ _ ((unhide HS) _ fk1) (fun hHeld => ?_)
     clear hK K
     (try simp only [Act.put, nrm])
     refine wtk (i := 8) (v := ?_) rfl (Or.inl ⟨by rfl, ?_⟩) hHeld ?_
     rotate_left
     ·intro w hSw; (try dsimp only at hSw); go_simp; (try with_reducible rfl)
     (try simp only [Act.put, nrm])
     refine wtk (i := 9) (v := ?_) rfl (Or.inl ⟨by rfl, ?_⟩) hHeld ?_
     rotate_left
     ·intro w hSw; (try dsimp only at hSw); go_simp; (try with_reducible rfl)
     (try simp only [Act.put, nrm])
     refine wtk (i := 10) (v := ?_) rfl (Or.inl ⟨by rfl, ?_⟩) hHeld ?_
     rotate_left
     ·intro w hSw; (try dsimp only at hSw); go_simp; (try with_reducible rfl)
     (try simp only [Act.put, nrm])
     refine wpAnyH_ready (rs := [11, 12]) (by kernel_rfl) (by simp) (AllReadyH.cons rfl (fun K hK => ?_) (AllReadyH.cons rfl (fun K hK => ?_) (AllReadyH.nil)))
     focus
      go_simp
      obtain ⟨wk2, hwk2⟩ : ∃ wk2, wk2 = wk1.alloc (.cells #[.slice none 0 0, .slice none 0 0] 36) := ⟨_, rfl⟩
      obtain ⟨zA, hzA⟩ : ∃ zA, zA = wk1.heap.size := ⟨_, rfl⟩
      have gk2 : Fr (fun _ => False) wk1 wk2 := by rw [hwk2]; exact box1 _ _
      have fk2 := fk1.trans gk2 (fun _ _ h => h)
      have HKA : Hid (wr.heap.size ≤ zA ∧ wk2.heap[zA]? = some (.cells #[.slice none 0 0, .slice none 0 0] 36)) := ⟨by rw [hzA]; exact fk1.size, by rw [hwk2, hzA]; exact Array.getElem?_push_size⟩
      have HNA : Hid (¬ T1 zA) := fun h => by
       have h1 := (unhide HRR).lt zA h
       omega
      replace HRR := hide ((unhide HRR).fr gk2)
      rw [← hwk2, ← hzA]
      clear hwk2 hzA
      refine hK.out _ _ ((unhide HS) _ fk2) (fun hHeld => ?_)
      clear hK K
      (try simp only [Act.put, nrm])
      refine wpAnyH_ready (rs := [12]) (by kernel_rfl) (by simp) (AllReadyH.cons rfl (fun K hK => ?_) (AllReadyH.nil))
      go_simp
      obtain ⟨wk3, hwk3⟩ : ∃ wk3, wk3 = wk2.alloc (.cells #[.int .u32 0, .int .u32 0, .int .u8 0, .int .u32 0, .int .u32 0, .slice none 0 0, .slice none 0 0] 45) := ⟨_, rfl⟩
      obtain ⟨zB, hzB⟩ : ∃ zB, zB = wk2.heap.size := ⟨_, rfl⟩
      have gk3 : Fr (fun _ => False) wk2 wk3 := by rw [hwk3]; exact box1 _ _
      have fk3 := fk2.trans gk3 (fun _ _ h => h)
      have HKB : Hid (wr.heap.size ≤ zB ∧ wk3.heap[zB]? = some (.cells #[.int .u32 0, .int .u32 0, .int .u8 0, .int .u32 0, .int .u32 0, .slice none 0 0, .slice none 0 0] 45)) := ⟨by rw [hzB]; exact fk2.size, by rw [hwk3, hzB]; exact Array.getElem?_push_size⟩
      have HNE : Hid (zA ≠ zB) := by have h1 := lt_of_block (unhide HKA).2; show zA ≠ zB; omega
      replace HKA := hide (And.intro (unhide HKA).1 ((gk3.block zA (lt_of_block (unhide HKA).2) (fun h => h)).trans (unhide HKA).2))
      have HNB : Hid (¬ T1 zB) := fun h => by
       have h1 := (unhide HRR).lt zB h
       omega
      replace HRR := hide ((unhide HRR).fr gk3)
      rw [← hwk3, ← hzB]
      clear hwk3 hzB
      refine hK.out _ _ ((unhide HS) _ fk3) (fun hHeld => ?_)
      clear hK K
      (try simp only [Act.put, nrm])
     rotate_left
     focus
      go_simp
      obtain ⟨wk2, hwk2⟩ : ∃ wk2, wk2 = wk1.alloc (.cells #[.int .u32 0, .int .u32 0, .int .u8 0, .int .u32 0, .int .u32 0, .slice none 0 0, .slice none 0 0] 45) := ⟨_, rfl⟩
      obtain ⟨zB, hzB⟩ : ∃ zB, zB = wk1.heap.size := ⟨_, rfl⟩
      have gk2 : Fr (fun _ => False) wk1 wk2 := by rw [hwk2]; exact box1 _ _
      have fk2 := fk1.trans gk2 (fun _ _ h => h)
      have HKB : Hid (wr.heap.size ≤ zB ∧ wk2.heap[zB]? = some (.cells #[.int .u32 0, .int .u32 0, .int .u8 0, .int .u32 0, .int .u32 0, .slice none 0 0, .slice none 0 0] 45)) := ⟨by rw [hzB]; exact fk1.size, by rw [hwk2, hzB]; exact Array.getElem?_push_size⟩
      have HNB : Hid (¬ T1 zB) := fun h => by
       have h1 := (unhide HRR).lt zB h
       omega
      replace HRR := hide ((unhide HRR).fr gk2)
      rw [← hwk2, ← hzB]
      clear hwk2 hzB
      refine hK.out _ _ ((unhide HS) _ fk2) (fun hHeld => ?_)
      clear hK K
      (try simp only [Act.put, nrm])
      refine wpAnyH_ready (rs := [11]) (by kernel_rfl) (by simp) (AllReadyH.cons rfl (fun K hK => ?_) (AllReadyH.nil))
      go_simp
      obtain ⟨wk3, hwk3⟩ : ∃ wk3, wk3 = wk2.alloc (.cells #[.slice none 0 0, .slice none 0 0] 36) := ⟨_, rfl⟩
      obtain ⟨zA, hzA⟩ : ∃ zA, zA = wk2.heap.size := ⟨_, rfl⟩
      have gk3 : Fr (fun _ => False) wk2 wk3 := by rw [hwk3]; exact box1 _ _
      have fk3 := fk2.trans gk3 (fun _ _ h => h)
      have HKA : Hid (wr.heap.size ≤ zA ∧ wk3.heap[zA]? = some (.cells #[.slice none 0 0, .slice none 0 0] 36)) := ⟨by rw [hzA]; exact fk2.size, by rw [hwk3, hzA]; exact Array.getElem?_push_size⟩
      have HNE : Hid (zA ≠ zB) := by have h1 := lt_of_block (unhide HKB).2; show zA ≠ zB; omega
      replace HKB := hide (And.intro (unhide HKB).1 ((gk3.block zB (lt_of_block (unhide HKB).2) (fun h => h)).trans (unhide HKB).2))
      have HNA : Hid (¬ T1 zA) := fun h => by
       have h1 := (unhide HRR).lt zA h
       omega
      replace HRR := hide ((unhide HRR).fr gk3)
      rw [← hwk3, ← hzA]
      clear hwk3 hzA
      refine hK.out _ _ ((unhide HS) _ fk3) (fun hHeld => ?_)
      clear hK K
      (try simp only [Act.put, nrm])
    rotate_left 2
    focus
     go_simp
     obtain ⟨wk1, hwk1⟩ : ∃ wk1, wk1 = W0.alloc (.cells #[.slice none 0 0, .slice none 0 0] 36) := ⟨_, rfl⟩
     obtain ⟨zA, hzA⟩ : ∃ zA, zA = W0.heap.size := ⟨_, rfl⟩
     have gk1 : Fr (fun _ => False) W0 wk1 := by rw [hwk1]; exact box1 _ _
     have fk1 := fk0.trans gk1 (fun _ _ h => h)
     have HKA : Hid (wr.heap.size ≤ zA ∧ wk1.heap[zA]? = some (.cells #[.slice none 0 0, .slice none 0 0] 36)) := ⟨by rw [hzA]; exact fk0.size, by rw [hwk1, hzA]; exact Array.getElem?_push_size⟩
     rw [← hwk1, ← hzA]
     clear hwk1 hzA
     refine hK.out _ _ ((unhide HS) _ fk1) (fun hHeld => ?_)
     clear hK K
     (try simp only [Act.put, nrm])
     refine wpAnyH_ready (rs := [7, 12]) (by kernel_rfl) (by simp) (AllReadyH.cons rfl (fun K hK => ?_) (AllReadyH.cons rfl (fun K hK => ?_) (AllReadyH.nil)))
     focus
      go_simp
      refine ((unhide HA) wk1 fk1).mono ?_
      rintro e wk2 ⟨rv', L', fo, fn, fc, ho, hn, hc, T1, rfl, hone', hrr, ht1, ht2, gk2⟩
      have fk2 := fk1.trans gk2 (fun _ _ h => h)
      have HSZ := hide (fk1.size)
      have HRR := hide hrr
      have HT1 := hide ht1
      have HT2 := hide (show ∀ k, T k → T1 k from fun k hk => ht2 k hk (Nat.lt_of_lt_of_le ((unhide HT) k hk) fk1.size))
      have HONE := hide hone'
      clear hrr ht1 ht2 hone'
      go_simp
      refine hK.out _ _ ((unhide HS) _ fk2) (fun hHeld => ?_)
      clear hK K
      (try simp only [Act.put, nrm])
      refine wtk (i := 8) (v := ?_) rfl (Or.inl ⟨by rfl, ?_⟩) hHeld ?_
      rotate_left
      ·intro w hSw; (try dsimp only at hSw); go_simp; (try with_reducible rfl)
      (try simp only [Act.put, nrm])
      refine wtk (i := 9) (v := ?_) rfl (Or.inl ⟨by rfl, ?_⟩) hHeld ?_
      rotate_left
      ·intro w hSw; (try dsimp only at hSw); go_simp; (try with_reducible rfl)
      (try simp only [Act.put, nrm])
      refine wtk (i := 10) (v := ?_) rfl (Or.inl ⟨by rfl, ?_⟩) hHeld ?_
      rotate_left
      ·intro w hSw; (try dsimp only at hSw); go_simp; (try with_reducible rfl)
      (try simp only [Act.put, nrm])
      have HNA : Hid (¬ T1 zA) := fun h => by
       have h1 := (unhide HT1) zA h
       have h2 := lt_of_block (unhide HKA).2
       have h3 := (unhide HKA).1
       rcases h1.1 with h4 | h4
       ·have h5 := (unhide HT) zA h4
        omega
       ·omega
      replace HKA := hide (And.intro (unhide HKA).1 ((gk2.block zA (lt_of_block (unhide HKA).2) (fun h => h)).trans (unhide HKA).2))
      refine wpAnyH_ready (rs := [12]) (by kernel_rfl) (by simp) (AllReadyH.cons rfl (fun K hK => ?_) (AllReadyH.nil))
      go_simp
      obtain ⟨wk3, hwk3⟩ : ∃ wk3, wk3 = wk2.alloc (.cells #[.int .u32 0, .int .u32 0, .int .u8 0, .int .u32 0, .int .u32 0, .slice none 0 0, .slice none 0 0] 45) := ⟨_, rfl⟩
      obtain ⟨zB, hzB⟩ : ∃ zB, zB = wk2.heap.size := ⟨_, rfl⟩
      have gk3 : Fr (fun _ => False) wk2 wk3 := by rw [hwk3]; exact box1 _ _
      have fk3 := fk2.trans gk3 (fun _ _ h => h)
      have HKB : Hid (wr.heap.size ≤ zB ∧ wk3.heap[zB]? = some (.cells #[.int .u32 0, .int .u32 0, .int .u8 0, .int .u32 0, .int .u32 0, .slice none 0 0, .slice none 0 0] 45)) := ⟨by rw [hzB]; exact fk2.size, by rw [hwk3, hzB]; exact Array.getElem?_push_size⟩
      have HNE : Hid (zA ≠ zB) := by have h1 := lt_of_block (unhide HKA).2; show zA ≠ zB; omega
      replace HKA := hide (And.intro (unhide HKA).1 ((gk3.block zA (lt_of_block (unhide HKA).2) (fun h => h)).trans (unhide HKA).2))
      have HNB : Hid (¬ T1 zB) := fun h => by
       have h1 := (unhide HRR).lt zB h
       omega
      replace HRR := hide ((unhide HRR).fr gk3)
      rw [← hwk3, ← hzB]
      clear hwk3 hzB
      refine hK.out _ _ ((unhide HS) _ fk3) (fun hHeld => ?_)
      clear hK K
      (try simp only [Act.put, nrm])
     rotate_left
     focus
      go_simp
      obtain ⟨wk2, hwk2⟩ : ∃ wk2, wk2 = wk1.alloc (.cells #[.int .u32 0, .int .u32 0, .int .u8 0, .int .u32 0, .int .u32 0, .slice none 0 0, .slice none 0 0] 45) := ⟨_, rfl⟩
      obtain ⟨zB, hzB⟩ : ∃ zB, zB = wk1.heap.size := ⟨_, rfl⟩
      have gk2 : Fr (fun _ => False) wk1 wk2 := by rw [hwk2]; exact box1 _ _
      have fk2 := fk1.trans gk2 (fun _ _ h => h)
      have HKB : Hid (wr.heap.size ≤ zB ∧ wk2.heap[zB]? = some (.cells #[.int .u32 0, .int .u32 0, .int .u8 0, .int .u32 0, .int .u32 0, .slice none 0 0, .slice none 0 0] 45)) := ⟨by rw [hzB]; exact fk1.size, by rw [hwk2, hzB]; exact Array.getElem?_push_size⟩
      have HNE : Hid (zA ≠ zB) := by have h1 := lt_of_block (unhide HKA).2; show zA ≠ zB; omega
      replace HKA := hide (And.intro (unhide HKA).1 ((gk2.block zA (lt_of_block (unhide HKA).2) (fun h => h)).trans (unhide HKA).2))
      rw [← hwk2, ← hzB]
      clear hwk2 hzB
      refine hK.out _ _ ((unhide HS) _ fk2) (fun hHeld => ?_)
      clear hK K
      (try simp only [Act.put, nrm])
      refine wpAnyH_ready (rs := [7]) (by kernel_rfl) (by simp) (AllReadyH.cons rfl (fun K hK => ?_) (AllReadyH.nil))
      go_simp
      refine ((unhide HA) wk2 fk2).mono ?_
      rintro e wk3 ⟨rv', L', fo, fn, fc, ho, hn, hc, T1, rfl, hone', hrr, ht1, ht2, gk3⟩
      have fk3 := fk2.trans gk3 (fun _ _ h => h)
      have HSZ := hide (fk2.size)
      have HRR := hide hrr
      have HT1 := hide ht1
      have HT2 := hide (show ∀ k, T k → T1 k from fun k hk => ht2 k hk (Nat.lt_of_lt_of_le ((unhide HT) k hk) fk2.size))
      have HONE := hide hone'
      clear hrr ht1 ht2 hone'
      go_simp
      refine hK.out _ _ ((unhide HS) _ fk3) (fun hHeld => ?_)
      clear hK K
      (try simp only [Act.put, nrm])
      refine wtk (i := 8) (v := ?_) rfl (Or.inl ⟨by rfl, ?_⟩) hHeld ?_
      rotate_left
      ·intro w hSw; (try dsimp only at hSw); go_simp; (try with_reducible rfl)
      (try simp only [Act.put, nrm])
      refine wtk (i := 9) (v := ?_) rfl (Or.inl ⟨by rfl, ?_⟩) hHeld ?_
      rotate_left
      ·intro w hSw; (try dsimp only at hSw); go_simp; (try with_reducible rfl)
      (try simp only [Act.put, nrm])
      refine wtk (i := 10) (v := ?_) rfl (Or.inl ⟨by rfl, ?_⟩) hHeld ?_
      rotate_left
      ·intro w hSw; (try dsimp only at hSw); go_simp; (try with_reducible rfl)
      (try simp only [Act.put, nrm])
      have HNA : Hid (¬ T1 zA) := fun h => by
       have h1 := (unhide HT1) zA h
       have h2 := lt_of_block (unhide HKA).2
       have h3 := (unhide HKA).1
       rcases h1.1 with h4 | h4
       ·have h5 := (unhide HT) zA h4
        omega
       ·omega
      replace HKA := hide (And.intro (unhide HKA).1 ((gk3.block zA (lt_of_block (unhide HKA).2) (fun h => h)).trans (unhide HKA).2))
      have HNB : Hid (¬ T1 zB) := fun h => by
       have h1 := (unhide HT1) zB h
       have h2 := lt_of_block (unhide HKB).2
       have h3 := (unhide HKB).1
       rcases h1.1 with h4 | h4
       ·have h5 := (unhide HT) zB h4
        omega
       ·omega
      replace HKB := hide (And.intro (unhide HKB).1 ((gk3.block zB (lt_of_block (unhide HKB).2) (fun h => h)).trans (unhide HKB).2))
    rotate_left 2
    focus
     go_simp
     obtain ⟨wk1, hwk1⟩ : ∃ wk1, wk1 = W0.alloc (.cells #[.int .u32 0, .int .u32 0, .int .u8 0, .int .u32 0, .int .u32 0, .slice none 0 0, .slice none 0 0] 45) := ⟨_, rfl⟩
     obtain ⟨zB, hzB⟩ : ∃ zB, zB = W0.heap.size := ⟨_, rfl⟩
     have gk1 : Fr (fun _ => False) W0 wk1 := by rw [hwk1]; exact box1 _ _
     have fk1 := fk0.trans gk1 (fun _ _ h => h)
     have HKB : Hid (wr.heap.size ≤ zB ∧ wk1.heap[zB]? = some (.cells #[.int .u32 0, .int .u32 0, .int .u8 0, .int .u32 0, .int .u32 0, .slice none 0 0, .slice none 0 0] 45)) := ⟨by rw [hzB]; exact fk0.size, by rw [hwk1, hzB]; exact Array.getElem?_push_size⟩
     rw [← hwk1, ← hzB]
     clear hwk1 hzB
     refine hK.out _ _ ((unhide HS) _ fk1) (fun hHeld => ?_)
     clear hK K
     (try simp only [Act.put, nrm])
     refine wpAnyH_ready (rs := [7, 11]) (by kernel_rfl) (by simp) (AllReadyH.cons rfl (fun K hK => ?_) (AllReadyH.cons rfl (fun K hK => ?_) (AllReadyH.nil)))
     focus
      go_simp
      refine ((unhide HA) wk1 fk1).mono ?_
      rintro e wk2 ⟨rv', L', fo, fn, fc, ho, hn, hc, T1, rfl, hone', hrr, ht1, ht2, gk2⟩
      have fk2 := fk1.trans gk2 (fun _ _ h => h)
      have HSZ := hide (fk1.size)
      have HRR := hide hrr
      have HT1 := hide ht1
      have HT2 := hide (show ∀ k, T k → T1 k from fun k hk => ht2 k hk (Nat.lt_of_lt_of_le ((unhide HT) k hk) fk1.size))
      have HONE := hide hone'
      clear hrr ht1 ht2 hone'
      go_simp
      refine hK.out _ _ ((unhide HS) _ fk2) (fun hHeld => ?_)
      clear hK K
      (try simp only [Act.put, nrm])
      refine wtk (i := 8) (v := ?_) rfl (Or.inl ⟨by rfl, ?_⟩) hHeld ?_
      rotate_left
      ·intro w hSw; (try dsimp only at hSw); go_simp; (try with_reducible rfl)
      (try simp only [Act.put, nrm])
      refine wtk (i := 9) (v := ?_) rfl (Or.inl ⟨by rfl, ?_⟩) hHeld ?_
      rotate_left
      ·intro w hSw; (try dsimp only at hSw); go_simp; (try with_reducible rfl)
      (try simp only [Act.put, nrm])
      refine wtk (i := 10) (v := ?_) rfl (Or.inl ⟨by rfl, ?_⟩) hHeld ?_
      rotate_left
      ·intro w hSw; (try dsimp only at hSw); go_simp; (try with_reducible rfl)
      (try simp only [Act.put, nrm])
      have HNB : Hid (¬ T1 zB) := fun h => by
       have h1 := (unhide HT1) zB h
       have h2 := lt_of_block (unhide HKB).2
       have h3 := (unhide HKB).1
       rcases h1.1 with h4 | h4
       ·have h5 := (unhide HT) zB h4
        omega
       ·omega
      replace HKB := hide (And.intro (unhide HKB).1 ((gk2.block zB (lt_of_block (unhide HKB).2) (fun h => h)).trans (unhide HKB).2))
      refine wpAnyH_ready (rs := [11]) (by kernel_rfl) (by simp) (AllReadyH.cons rfl (fun K hK => ?_) (AllReadyH.nil))
      go_simp
      obtain ⟨wk3, hwk3⟩ : ∃ wk3, wk3 = wk2.alloc (.cells #[.slice none 0 0, .slice none 0 0] 36) := ⟨_, rfl⟩
      obtain ⟨zA, hzA⟩ : ∃ zA, zA = wk2.heap.size := ⟨_, rfl⟩
      have gk3 : Fr (fun _ => False) wk2 wk3 := by rw [hwk3]; exact box1 _ _
      have fk3 := fk2.trans gk3 (fun _ _ h => h)
      have HKA : Hid (wr.heap.size ≤ zA ∧ wk3.heap[zA]? = some (.cells #[.slice none 0 0, .slice none 0 0] 36)) := ⟨by rw [hzA]; exact fk2.size, by rw [hwk3, hzA]; exact Array.getElem?_push_size⟩
      have HNE : Hid (zA ≠ zB) := by have h1 := lt_of_block (unhide HKB).2; show zA ≠ zB; omega
      replace HKB := hide (And.intro (unhide HKB).1 ((gk3.block zB (lt_of_block (unhide HKB).2) (fun h => h)).trans (unhide HKB).2))
      have HNA : Hid (¬ T1 zA) := fun h => by
       have h1 := (unhide HRR).lt zA h
       omega
      replace HRR := hide ((unhide HRR).fr gk3)
      rw [← hwk3, ← hzA]
      clear hwk3 hzA
      refine hK.out _ _ ((unhide HS) _ fk3) (fun hHeld => ?_)
      clear hK K
      (try simp only [Act.put, nrm])
     rotate_left
     focus
      go_simp
      obtain ⟨wk2, hwk2⟩ : ∃ wk2, wk2 = wk1.alloc (.cells #[.slice none 0 0, .slice none 0 0] 36) := ⟨_, rfl⟩
      obtain ⟨zA, hzA⟩ : ∃ zA, zA = wk1.heap.size := ⟨_, rfl⟩
      have gk2 : Fr (fun _ => False) wk1 wk2 := by rw [hwk2]; exact box1 _ _
      have fk2 := fk1.trans gk2 (fun _ _ h => h)
      have HKA : Hid (wr.heap.size ≤ zA ∧ wk2.heap[zA]? = some (.cells #[.slice none 0 0, .slice none 0 0] 36)) := ⟨by rw [hzA]; exact fk1.size, by rw [hwk2, hzA]; exact Array.getElem?_push_size⟩
      have HNE : Hid (zA ≠ zB) := by have h1 := lt_of_block (unhide HKB).2; show zA ≠ zB; omega
      replace HKB := hide (And.intro (unhide HKB).1 ((gk2.block zB (lt_of_block (unhide HKB).2) (fun h => h)).trans (unhide HKB).2))
      rw [← hwk2, ← hzA]
      clear hwk2 hzA
      refine hK.out _ _ ((unhide HS) _ fk2) (fun hHeld => ?_)
      clear hK K
      (try simp only [Act.put, nrm])
      refine wpAnyH_ready (rs := [7]) (by kernel_rfl) (by simp) (AllReadyH.cons rfl (fun K hK => ?_) (AllReadyH.nil))
      go_simp
      refine ((unhide HA) wk2 fk2).mono ?_
      rintro e wk3 ⟨rv', L', fo, fn, fc, ho, hn, hc, T1, rfl, hone', hrr, ht1, ht2, gk3⟩
      have fk3 := fk2.trans gk3 (fun _ _ h => h)
      have HSZ := hide (fk2.size)
      have HRR := hide hrr
      have HT1 := hide ht1
      have HT2 := hide (show ∀ k, T k → T1 k from fun k hk => ht2 k hk (Nat.lt_of_lt_of_le ((unhide HT) k hk) fk2.size))
      have HONE := hide hone'
      clear hrr ht1 ht2 hone'
      go_simp
      refine hK.out _ _ ((unhide HS) _ fk3) (fun hHeld => ?_)
      clear hK K
      (try simp only [Act.put, nrm])
      refine wtk (i := 8) (v := ?_) rfl (Or.inl ⟨by rfl, ?_⟩) hHeld ?_
      rotate_left
      ·intro w hSw; (try dsimp only at hSw); go_simp; (try with_reducible rfl)
      (try simp only [Act.put, nrm])
      refine wtk (i := 9) (v := ?_) rfl (Or.inl ⟨by rfl, ?_⟩) hHeld ?_
      rotate_left
      ·intro w hSw; (try dsimp only at hSw); go_simp; (try with_reducible rfl)
      (try simp only [Act.put, nrm])
      refine wtk (i := 10) (v := ?_) rfl (Or.inl ⟨by rfl, ?_⟩) hHeld ?_
      rotate_left
      ·intro w hSw; (try dsimp only at hSw); go_simp; (try with_reducible rfl)
      (try simp only [Act.put, nrm])
      have HNA : Hid (¬ T1 zA) := fun h => by
       have h1 := (unhide HT1) zA h
       have h2 := lt_of_block (unhide HKA).2
       have h3 := (unhide HKA).1
       rcases h1.1 with h4 | h4
       ·have h5 := (unhide HT) zA h4
        omega
       ·omega
      replace HKA := hide (And.intro (unhide HKA).1 ((gk3.block zA (lt_of_block (unhide HKA).2) (fun h => h)).trans (unhide HKA).2))
      have HNB : Hid (¬ T1 zB) := fun h => by
       have h1 := (unhide HT1) zB h
       have h2 := lt_of_block (unhide HKB).2
       have h3 := (unhide HKB).1
       rcases h1.1 with h4 | h4
       ·have h5 := (unhide HT) zB h4
        omega
       ·omega
      replace HKB := hide (And.intro (unhide HKB).1 ((gk3.block zB (lt_of_block (unhide HKB).2) (fun h => h)).trans (unhide HKB).2))
    all_goals
     refine wpAnyH_ready (rs := [13]) (by kernel_rfl) (by simp) (AllReadyH.cons rfl (fun K hK => ?_) (AllReadyH.nil))
     obtain ⟨wk4, st4, kk4, gk4⟩ := st_put (unhide HKA).2 (.slice so S.length sc) rv' (fun u hu => by simp at hu; rcases hu with rfl | rfl <;> first | rfl | exact unhide HONE)
     have HST4 := hide st4
     have fk4 := fk3.absorb gk4 (fun i hi => by rw [hi]; exact (unhide HKA).1)
     replace HKA := hide (And.intro (unhide HKA).1 kk4)
     replace HRR := hide ((unhide HRR).frS gk4 (fun k hk => by rw [hk]; exact unhide HNA))
     replace HKB := hide (And.intro (unhide HKB).1 ((gk4.block zB (lt_of_block (unhide HKB).2) (fun e => by have h1 := (unhide HNE); omega)).trans (unhide HKB).2))
     clear st4 kk4
     refine step_stN rfl 36 (.tmp 8) (.tmp 27) rfl _ _ (by simp [Act.eval]) (by simp [Act.eval]) (unhide HST4) ?_
     refine hK.out _ _ ((unhide HS) _ fk4) (fun hHeld => ?_)
     clear hK K
     (try simp only [Act.put])
     refine wpAnyH_ready (rs := [14]) (by kernel_rfl) (by simp) (AllReadyH.cons rfl (fun K hK => ?_) (AllReadyH.nil))
     obtain ⟨wk5, st5, kk5, gk5⟩ := ans_put (unhide HKB).2 (.int .u32 (cl : Nat)) (.int .u32 (nu : Nat)) (.int .u8 (X.2.co : Nat)) (.int .u32 (X.2.rc : Nat)) (.int .u32 (X.2.ve : Nat)) (.slice fo fn fc) (.slice ho hn hc) (fun u hu => by simp at hu; rcases hu with rfl | rfl | rfl | rfl | rfl | rfl | rfl <;> rfl)
     have HST5 := hide st5
     have fk5 := fk4.absorb gk5 (fun i hi => by rw [hi]; exact (unhide HKB).1)
     replace HKB := hide (And.intro (unhide HKB).1 kk5)
     replace HRR := hide ((unhide HRR).frS gk5 (fun k hk => by rw [hk]; exact unhide HNB))
     replace HKA := hide (And.intro (unhide HKA).1 ((gk5.block zA (lt_of_block (unhide HKA).2) (fun e => by have h1 := (unhide HNE); omega)).trans (unhide HKA).2))
     clear st5 kk5
     refine step_stN rfl 45 (.tmp 9) (.tmp 28) rfl _ _ (by simp [Act.eval]) (by simp [Act.eval]) (unhide HST5) ?_
     refine hK.out _ _ ((unhide HS) _ fk5) (fun hHeld => ?_)
     clear hK K
     (try simp only [Act.put])
     refine wpAnyH_done (by kernel_rfl) ?_ _
     refine NoPanic.normal ?_
     go_wp2_with fail
     go_meet
     case rel => exact ⟨zA, zB, rv', L', T1, fo, fn, fc, ho, hn, hc, rfl, rfl, (unhide HI).after fk5 (unhide HRR) (fun k hk => ⟨((unhide HT1) k hk).1, (unhide HRR).lt k hk⟩) (unhide HSZ) (unhide HT2) (unhide HKA) (unhide HKB)⟩
   case rest =>
    obtain ⟨z8, z9, rv', L', T1, fo, fn, fc, ho, hn, hc, rfl, rfl, hj9⟩ := hcut
    obtain ⟨ao, cap, w7, hr7, hi7⟩ := hj9.next (unhide HX).1 (unhide HX).2 (by have := (unhide HP).2; omega) (fun u hu => by simp [AN.cs] at hu; rcases hu with rfl | rfl | rfl | rfl | rfl | rfl | rfl <;> rfl)
    have HR7 := hide hr7
    have HI7 := hide hi7
    obtain ⟨ro', rcap', rfl⟩ := hj9.g.g.r.form
    have b0 : wc.cell? ⟨w.heap.size, 0, none⟩ = some (.slice so S.length sc) := by simp [World.cell?, hj9.b]
    have b1 : wc.cell? ⟨w.heap.size, 1, none⟩ = some (.slice ro L.length rcap) := by simp [World.cell?, hj9.b]
    have y0 : wc.frozen? ⟨w.heap.size, 0, none⟩ = false := by simp [World.frozen?, hj9.b]
    have y1 : wc.frozen? ⟨w.heap.size, 1, none⟩ = false := by simp [World.frozen?, hj9.b]
    have e0 : wc.cell? ⟨z8, 0, none⟩ = some (.slice so S.length sc) := by simp [World.cell?, hj9.k8]
    have e1 : wc.cell? ⟨z8, 1, none⟩ = some (.slice ro' L'.length rcap') := by simp [World.cell?, hj9.k8]
    have i0 : wc.cell? ⟨z9, 0, none⟩ = some (.int .u32 (cl : Nat)) := by simp [World.cell?, hj9.k9, AN.cs]
    have i1 : wc.cell? ⟨z9, 1, none⟩ = some (.int .u32 (nu : Nat)) := by simp [World.cell?, hj9.k9, AN.cs]
    have i2 : wc.cell? ⟨z9, 2, none⟩ = some (.int .u8 (X.2.co : Nat)) := by simp [World.cell?, hj9.k9, AN.cs]
    have i3 : wc.cell? ⟨z9, 3, none⟩ = some (.int .u32 (X.2.rc : Nat)) := by simp [World.cell?, hj9.k9, AN.cs]
    have i4 : wc.cell? ⟨z9, 4, none⟩ = some (.int .u32 (X.2.ve : Nat)) := by simp [World.cell?, hj9.k9, AN.cs]
    have i5 : wc.cell? ⟨z9, 5, none⟩ = some (.slice fo fn fc) := by simp [World.cell?, hj9.k9, AN.cs]
    have i6 : wc.cell? ⟨z9, 6, none⟩ = some (.slice ho hn hc) := by simp [World.cell?, hj9.k9, AN.cs]
    have n8 : ¬ z8 = w.heap.size := hj9.n8
    have n9 : ¬ z9 = w.heap.size := hj9.n9
    have n8' : ¬ w.heap.size = z8 := fun e => n8 e.symm
    have n9' : ¬ w.heap.size = z9 := fun e => n9 e.symm
    simp only [AN.cs] at HR7
    clear hr7 hi7 hj9 HA HS HI HX HT
    go_wp2_with (at_builtin; refine wpList_app rfl (.tmp 30) (.tmp 32) 58 58 rfl _ _ _ rfl rfl (unhide HR7) ?_; clear HR7)
    go_roundw
    case rel => exact ⟨j + 1, unhide hlt', by have := (unhide HP).2; have := unhide hlt'; go_num, _, _, _, _, unhide HI7⟩
    case measure => have := unhide hlt'; have := (unhide HP).2; simp [intOf]; omega
  ·obtain rfl : j = l.length := by omega
   have HI := hide hi
   clear hi
   go_wp2_with fail
   go_ret
   have h := (unhide HI).al
   rw [List.take_length] at h
   exact ⟨_, _, _, rfl, h, (unhide HI).f⟩
end Go.Proofs.YthpoligdgbmnkaaGreatDoor

namespace Go.Proofs.YthpoligdgbmnkaaGreatDoor
open Go.RowKit Go.Shelf

/-- The lists of answers lie apart. -/
def Apt (al : List AN) : Prop := ∀ (i j : Nat) (a b : AN), al[i]? = some a → al[j]? = some b → i < j → ∀ g, (a.fv.ownBlock = some g ∨ a.hv.ownBlock = some g) → ¬ (b.fv.ownBlock = some g ∨ b.hv.ownBlock = some g)
theorem Apt.app {al : List AN} {a : AN} {n : Nat} (h : Apt al) (h1 : ∀ (i : Nat) (b : AN), al[i]? = some b → ∀ g, (b.fv.ownBlock = some g ∨ b.hv.ownBlock = some g) → g < n) (h2 : ∀ g, (a.fv.ownBlock = some g ∨ a.hv.ownBlock = some g) → n ≤ g) : Apt (al ++ [a]) := by
 intro i j x y hx hy hij g hg hg'
 have hjl : j < al.length + 1 := by
  have := (List.getElem?_eq_some_iff.1 hy).1
  simpa using this
 rw [List.getElem?_append_left (by omega)] at hx
 by_cases hj : j < al.length
 ·rw [List.getElem?_append_left hj] at hy
  exact h i j x y hx hy hij g hg hg'
 ·have : j = al.length := by omega
  subst this
  rw [List.getElem?_append_right (Nat.le_refl _), Nat.sub_self] at hy
  simp at hy
  subst hy
  have := h1 i x hx g hg
  have := h2 g hg'
  omega
set_option maxHeartbeats 4000000 in
set_option maxRecDepth 100000 in
/-- Answers. -/
theorem answers_A (x y : Value) (S : List P3) (l : List (RQ × List F5)) (w : World) (hx : Stf w x S) (hz : ∀ n c, x = .slice none n c → c = 0) (hS : S.length ≤ 1000000) (hq : Rqs w y l) (hl : l.length ≤ 1000000000) (hp : ∀ p ∈ l, PGood p) (hg : GU w) :
  Calls Tryz.prog 18 #[x, y] w fun e w' => ∃ ov T al0, e = .returned ov ∧ AnsL w' w.heap.size T l (runM ⟨S, []⟩ 0 l) ov al0 ∧ Apt al0 ∧ Fr (fun _ => False) w w' := by
 obtain ⟨xo, xc, rfl⟩ := hx.form
 obtain ⟨yo, yc, rfl⟩ := hq.form
 have HNew := hide (new_B _ S w hx hz hS)
 have HQ := hide (And.intro hq (And.intro hg hp))
 have HOk : Hid (RM.Ok ⟨S, []⟩) := ⟨by show S.length ≤ _; omega, by show 0 ≤ 256; omega, fun c hc => by cases hc⟩
 clear hx hz hq hg hp
 go_enter Tryz.func18, Tryz.ntmps18
 go_wp2_with fail
 refine (unhide HNew).mono ?_
 rintro e w1 ⟨b, rfl, hb, hf1⟩
 have HI0 : Hid (AI w w1 b (.slice yo l.length yc) l ⟨S, []⟩ 0 (.slice none 0 0) (fun k => w.heap.size ≤ k ∧ k < w1.heap.size) []) := ⟨hb, fun k hk => hk, (unhide HQ).1.fr hf1, fun k hk => (unhide HQ).1.lt hk, (unhide HQ).2.1.fr hf1, lt_of_cell ((unhide HQ).2.1 0 (by omega)), ⟨World.ownsRow_nil _ _ _ _, fun g hg => (by cases hg), rfl, fun i a ha => (by simp at ha)⟩, hf1⟩
 clear hb hf1 HNew
 go_wp2_with fail
 go_loopw [13, 6] (fun kv ov wr => ∃ j : Nat, j ≤ l.length ∧ kv = .int .i64 (j : Nat) ∧ ∃ T al0, AI w wr b (.slice yo l.length yc) l ⟨S, []⟩ j ov T al0 ∧ Apt al0) (fun kv _ _ => l.length - (intOf kv).toNat)
 case atStart => exact ⟨0, Nat.zero_le _, rfl, _, _, unhide HI0, fun i j a b ha => (by simp at ha)⟩
 case round =>
  obtain ⟨j, hj, rfl, T, al0, hi, hap⟩ := hrel
  by_cases hlt : j < l.length
  ·obtain ⟨p, hpe⟩ : ∃ p, l[j] = p := ⟨_, rfl⟩
   have hpe2 : l[j]? = some p := by rw [List.getElem?_eq_getElem hlt, hpe]
   obtain ⟨g, o, rfl, c⟩ := hi.q.at_ j hlt
   rw [hpe] at c
   have hpm : p ∈ l := List.mem_of_getElem? hpe2
   obtain ⟨pg1, pg2, pg3⟩ := (unhide HQ).2.2 p hpm
   have hfd := hi.q.d p hpm
   obtain ⟨oo, oc, rfl⟩ := own_formX hi.al.o
   have hok := endM_ok (l.take j) ⟨S, []⟩ 0 (unhide HOk) (fun p' hp' => (unhide HQ).2.2 p' (List.mem_of_mem_take hp'))
   obtain ⟨⟨cl, nu, ac, op, rc, ve, wa, ow, fv, rs⟩, F⟩ := p
   obtain ⟨xo2, xc2, rfl⟩ : ∃ xo2 xc2, fv = .slice xo2 F.length xc2 := hfd.f.form
   obtain ⟨c0, c1, c2, c3, c4, c5, c6, c7, c8, c9⟩ := c
   simp only at c0 c1 c2 c3 c4 c5 c6 c7 c8 c9
   obtain ⟨X, hX⟩ : ∃ X, (endM ⟨S, []⟩ 0 (l.take j)).step ⟨cl, nu, ac, op, rc, ve, wa, ow, .slice xo2 F.length xc2, rs⟩ F j = X := ⟨_, rfl⟩
   obtain ⟨W8, hW8⟩ : ∃ W8, W8 = wr.alloc (.cells #[.int .u32 (cl : Nat), .int .u32 (nu : Nat), .int .u32 (ac : Nat), .int .u8 (op : Nat), .int .u32 (rc : Nat), .int .u32 (ve : Nat), .int .u32 (wa : Nat), .int .u32 (ow : Nat), .slice xo2 F.length xc2, .string rs] 41) := ⟨_, rfl⟩
   have hi8 : AI w W8 b (.slice (some ⟨g, o, none⟩) l.length yc) l ⟨S, []⟩ j (.slice oo al0.length oc) T al0 := by rw [hW8]; exact hi.step (box1 wr _)
   have HI8 := hide hi8
   have HX := hide (And.intro hpe2 hX)
   have HA : Hid (Calls Tryz.prog 10 #[.pointer (some ⟨b, 0, none⟩), .agg #[.int .u32 (cl : Nat), .int .u32 (nu : Nat), .int .u32 (ac : Nat), .int .u8 (op : Nat), .int .u32 (rc : Nat), .int .u32 (ve : Nat), .int .u32 (wa : Nat), .int .u32 (ow : Nat), .slice xo2 F.length xc2, .string rs], .int .u32 (j : Nat)] W8 fun e w' => ∃ fo fn fc ho hn hc, e = .returned (.agg #[.int .u32 (cl : Nat), .int .u32 (nu : Nat), .int .u8 (X.2.co : Nat), .int .u32 (X.2.rc : Nat), .int .u32 (X.2.ve : Nat), .slice fo fn fc, .slice ho hn hc]) ∧ ∃ ao cap w7, (Builtin.append_ #[58, 58] 58 #[.slice oo al0.length oc, .slice (some ⟨w'.heap.size, 0, none⟩) 1 1]).run Tryz.prog (w'.alloc (.cells #[.int .u32 (cl : Nat), .int .u32 (nu : Nat), .int .u8 (X.2.co : Nat), .int .u32 (X.2.rc : Nat), .int .u32 (X.2.ve : Nat), .slice fo fn fc, .slice ho hn hc] 45)) = .ok (.slice ao (al0.length + 1) cap) w7 ∧ ∃ T' al1, AI w w7 b (.slice (some ⟨g, o, none⟩) l.length yc) l ⟨S, []⟩ (j + 1) (.slice ao (al0.length + 1) cap) T' al1 ∧ Apt al1) := by
    refine (apply_C b T (endM ⟨S, []⟩ 0 (l.take j)) ⟨cl, nu, ac, op, rc, ve, wa, ow, .slice xo2 F.length xc2, rs⟩ F j W8 hi8.r (fun k hk => (hi8.t k hk).2) hok (hi8.q.d _ hpm) pg2 pg3 hi8.u X hX).mono ?_
    rintro e w3 ⟨fo, fn, fc, ho, hn, hc, he, o1, o2, hf, T', k1, k2, k3, k4, k5⟩
    obtain ⟨ao, cap, w7, hr7, hi7⟩ := hi8.next hpe2 hX hf k1 k2 k3 o1 o2 k4 k5 rfl rfl hl
    exact ⟨fo, fn, fc, ho, hn, hc, he, ao, cap, w7, hr7, T', _, hi7, hap.app (n := W8.heap.size) (fun i b hb g hg => by
     obtain ⟨_, _, _, _, h5⟩ := hi8.al.a i b hb
     exact hg.elim (fun h => (h5.f.lt g h).2) (fun h => (h5.h.lt g h).2)) (fun g hg => hg.elim (fun h => (o1.lt g h).1) (fun h => (o2.lt g h).1))⟩
   have hkl : (j : Int) < (l.length : Int) := by omega
   have hwr : IntKind.u32.wrap (j : Int) = (j : Int) := by rw [IntKind.wrap_u32]; omega
   clear hi hi8 hap hpe hpe2 hpm pg1 pg2 pg3 hfd hok hX HX HI8 HI0
   go_wp2_with fail
   rw [← hW8]
   clear hW8
   refine (unhide HA).mono ?_
   rintro e w3 ⟨fo, fn, fc, ho, hn, hc, rfl, ao, cap, w7, hr7, T', al1, hi7, hap7⟩
   have HR7 := hide hr7
   have HI7 := hide (And.intro hi7 hap7)
   clear hr7 hi7 hap7 HA
   go_wp2_with (at_builtin; refine wpList_app rfl _ _ 58 58 rfl _ _ _ rfl rfl (unhide HR7) ?_; clear HR7)
   go_roundw
   case rel => exact ⟨j + 1, hlt, by go_num, T', al1, (unhide HI7).1, (unhide HI7).2⟩
   case measure => simp [intOf]; omega
  ·obtain rfl : j = l.length := by omega
   have HI := hide hi
   have HAP := hide hap
   clear hi hap HI0
   go_wp2_with fail
   go_ret
   have h := (unhide HI).al
   rw [List.take_length] at h
   exact ⟨_, T, al0, rfl, h, unhide HAP, (unhide HI).f⟩
end Go.Proofs.YthpoligdgbmnkaaGreatDoor

namespace Go.Proofs.YthpoligdgbmnkaaGreatDoor
open Go.RowKit Go.Shelf

/-- A whole summary is stored into a row of one's own. -/
theorem sum_put {W : World} {base g cap n : Nat} {xs : List Value} (h : W.ownsRow base 83 4 (.slice (some ⟨g, 0, none⟩) n cap) n xs) (k : Nat) (hk : k < n) :
  ∃ W8 xs', (Instr.storeAt 83 (.pointer (some ⟨g, k * 4, none⟩)) (.agg #[.int .u32 99, .int .u32 0, .int .u32 0, .bool false])).run Tryz.prog W = .ok () W8 ∧ W8.ownsRow base 83 4 (.slice (some ⟨g, 0, none⟩) n cap) n xs' ∧ Fr (fun i => i = g) W W8 := by
 refine ⟨W.setCells g (k * 4) [.int .u32 99, .int .u32 0, .int .u32 0, .bool false], (((xs.set (k * 4) (.int .u32 99)).set (k * 4 + 1) (.int .u32 0)).set (k * 4 + 1 + 1) (.int .u32 0)).set (k * 4 + 1 + 1 + 1) (.bool false), run_storeAt_mid W g (k * 4) 83 #[.int .u32 99, .int .u32 0, .int .u32 0, .bool false] (fun j hj => ?_) (by kernel_rfl) (all_oneCell_toArray (cs := [.int .u32 99, .int .u32 0, .int .u32 0, .bool false]) (fun u hu => by simp at hu; rcases hu with rfl | rfl | rfl <;> rfl)), ?_, ?_⟩
 rotate_left
 ·have h0 := own_set h rfl (k * 4) (.int .u32 99)
  have h1 := own_set h0 rfl (k * 4 + 1) (.int .u32 0)
  have h2 := own_set h1 rfl (k * 4 + 1 + 1) (.int .u32 0)
  exact own_set h2 rfl (k * 4 + 1 + 1 + 1) (.bool false)
 ·have h0 := (Fr.refl (fun i => i = g) W).setCell (p := ⟨g, k * 4, none⟩) (.inl rfl) (.int .u32 99)
  have h1 := h0.setCell (p := ⟨g, k * 4 + 1, none⟩) (.inl rfl) (.int .u32 0)
  have h2 := h1.setCell (p := ⟨g, k * 4 + 1 + 1, none⟩) (.inl rfl) (.int .u32 0)
  exact h2.setCell (p := ⟨g, k * 4 + 1 + 1 + 1, none⟩) (.inl rfl) (.bool false)
 ·have hj : j < 4 := hj
  refine ⟨?_, h.frozenAt _⟩
  rw [h.cellAt _ (by omega)]
  have hl := h.1
  rw [List.getElem?_eq_getElem (by omega)]
  rfl
set_option maxHeartbeats 4000000 in
set_option maxRecDepth 100000 in
/-- spoil writes to the answer's own lists alone. -/
theorem spoil_any (cl nu co rc ve : Nat) (fo : Option Addr) (fc : Nat) (ho : Option Addr) (hc : Nat) (F : List F5) (H : List SM) (base : Nat) (w : World) (hb : base ≤ w.heap.size) (hF : OwF w base (.slice fo F.length fc) F) (hH : OwS w base (.slice ho H.length hc) H) (hlF : F.length ≤ 1000) (hlH : H.length ≤ 1000) :
  Calls Tryz.prog 16 #[.agg #[.int .u32 (cl : Nat), .int .u32 (nu : Nat), .int .u8 (co : Nat), .int .u32 (rc : Nat), .int .u32 (ve : Nat), .slice fo F.length fc, .slice ho H.length hc]] w fun e w' => e = .returned (.tuple #[]) ∧ Fr (fun k => (Value.slice fo F.length fc).ownBlock = some k ∨ (Value.slice ho H.length hc).ownBlock = some k) w w' := by
 obtain ⟨B, hB⟩ : ∃ B, B = w.heap.size := ⟨_, rfl⟩
 obtain ⟨W1, hW1⟩ : ∃ W1, W1 = w.alloc (.cells #[.int .u32 (cl : Nat), .int .u32 (nu : Nat), .int .u8 (co : Nat), .int .u32 (rc : Nat), .int .u32 (ve : Nat), .slice fo F.length fc, .slice ho H.length hc] 45) := ⟨_, rfl⟩
 have f1 : Fr (fun _ => False) w W1 := by rw [hW1]; exact box1 w _
 have kB : W1.heap[B]? = some (.cells #[.int .u32 (cl : Nat), .int .u32 (nu : Nat), .int .u8 (co : Nat), .int .u32 (rc : Nat), .int .u32 (ve : Nat), .slice fo F.length fc, .slice ho H.length hc] 45) := by rw [hW1, hB]; exact Array.getElem?_push_size
 have hne : ∀ g, (Value.slice fo F.length fc).ownBlock = some g → (Value.slice ho H.length hc).ownBlock ≠ some g := own_ne hF hH (by decide)
 have hbF : ∀ g, (Value.slice fo F.length fc).ownBlock = some g → g < B := fun g hg => by rw [hB]; exact (hF.lt g hg).2
 have hbH : ∀ g, (Value.slice ho H.length hc).ownBlock = some g → g < B := fun g hg => by rw [hB]; exact (hH.lt g hg).2
 have HF1 := hide (ownsRow_of_block hF (fun g hg => f1.block g (hF.lt g hg).2 (fun h => h)))
 have HH1 := hide (ownsRow_of_block hH (fun g hg => f1.block g (hH.lt g hg).2 (fun h => h)))
 have HB := hide (And.intro hne (And.intro hbF (And.intro hbH (show base ≤ B ∧ B < W1.heap.size from ⟨by omega, lt_of_block kB⟩))))
 have KB := hide kB
 have F1 := hide f1
 clear hF hH hne hbF hbH kB f1
 go_enter Tryz.func16, Tryz.ntmps16
 go_wp2_with fail
 rw [← hW1, ← hB]
 clear hW1 hB
 go_loopw [2] (fun iv wr => ∃ (j : Nat) (F' : List F5), j ≤ F.length ∧ iv = .int .i64 (j : Nat) ∧ F'.length = F.length ∧ OwF wr base (.slice fo F.length fc) F' ∧ Fr (fun k => (Value.slice fo F.length fc).ownBlock = some k) W1 wr) (fun iv _ => F.length - (intOf iv).toNat)
 case atStart => exact ⟨0, F, Nat.zero_le _, rfl, rfl, unhide HF1, Fr.refl _ _⟩
 case round =>
  obtain ⟨j, F', hj, rfl, hl', hown, hfr⟩ := hrel
  have kb := (hfr.block B (unhide HB).2.2.2.2 (fun e => by have := (unhide HB).2.1 B e; omega)).trans (unhide KB)
  have b5 : wr.cell? ⟨B, 5, none⟩ = some (.slice fo F.length fc) := by simp [World.cell?, kb]
  by_cases hlt : j < F.length
  ·have hown' : wr.ownsRow base 55 5 (.slice fo F.length fc) F'.length (fcells F') := hown
   rw [hl'] at hown'
   obtain ⟨g, cap, he, _, _⟩ := hown'.form (by omega)
   cases he
   clear hown'
   obtain ⟨w2, hs, ho2, hf2⟩ := fld_put hown hl'.symm j (by omega) ⟨⟨#[115, 112, 111, 105, 108, 116]⟩, 9, ⟨#[]⟩, 0, 0⟩
   have HS := hide hs
   have HO := hide (And.intro ho2 (hfr.trans (hf2.mono (fun k _ hk => by show some g = some k; rw [hk])) (fun _ _ h => h)))
   have hkl : (j : Int) < (F.length : Int) := by omega
   have hlen := hide hl'
   have hlt' := hide hlt
   clear hs ho2 hf2 hown hfr kb hl' hj hlt
   go_wp2_with (refine wpList_stN rfl 55 (.tmp 17) (.tmp 16) rfl _ _ rfl rfl (unhide HS) ?_)
   go_roundw
   case rel => exact ⟨j + 1, _, unhide hlt', by go_num, by rw [List.length_set]; exact unhide hlen, (unhide HO).1, (unhide HO).2⟩
   case measure => have := unhide hlt'; simp [intOf]; omega
  ·obtain rfl : j = F.length := by omega
   have hkl : ¬ (F.length : Int) < (F.length : Int) := by omega
   have HO := hide (And.intro hown (And.intro hfr hl'))
   clear hown hfr kb hl' hj
   go_wp2_with fail
   clear b5 hkl hlt
   rename World => wq
   go_loopw [3, 4] (fun av iv wr => ∃ (j : Nat) (F2 : List F5) (ao : Option Addr) (an cap : Nat), j ≤ 20 ∧ iv = .int .i64 (j : Nat) ∧ av = .slice ao an cap ∧ an = F2.length ∧ F2.length ≤ 1000 + j ∧ OwF wr base (.slice ao an cap) F2 ∧ (∀ g, (Value.slice ao an cap).ownBlock = some g → (Value.slice fo F.length fc).ownBlock = some g ∨ W1.heap.size ≤ g) ∧ Fr (fun k => (Value.slice fo F.length fc).ownBlock = some k) W1 wr) (fun _ iv _ => 20 - (intOf iv).toNat)
   case atStart => exact ⟨0, _, fo, F.length, fc, by omega, rfl, rfl, (unhide HO).2.2.symm, by have := (unhide HO).2.2; omega, (unhide HO).1, fun g hg => .inl hg, (unhide HO).2.1⟩
   case round =>
    obtain ⟨j, F2, ao, an, cap, hj, rfl, rfl, han, hl2, hown, hob, hfr⟩ := hrel
    have kb := (hfr.block B (unhide HB).2.2.2.2 (fun e => by have := (unhide HB).2.1 B e; omega)).trans (unhide KB)
    by_cases hlt : j < 20
    ·obtain ⟨ao2, cap2, w2, hr, hown2, hf2, hn2⟩ := app_fld wr base (.slice ao an cap) F2 ⟨⟨#[115, 112, 111, 105, 108, 116]⟩, 0, ⟨#[]⟩, 0, 0⟩ hown (by have := hfr.size; have := (unhide HB).2.2.2; omega) (by omega)
     rw [← han] at hr hown2 hn2
     have HR := hide hr
     have hf3 : Fr (fun k => (Value.slice fo F.length fc).ownBlock = some k) W1 w2 := hfr.trans hf2 (fun i hi h => (hob i h).resolve_right (by omega))
     have HO2 := hide (And.intro hown2 (And.intro hf3 (And.intro (show ∀ g, (Value.slice ao2 (an + 1) cap2).ownBlock = some g → (Value.slice fo F.length fc).ownBlock = some g ∨ W1.heap.size ≤ g from fun g hg => (hn2 g hg).elim (hob g) (fun h => .inr (Nat.le_trans hfr.size h))) (And.intro han hl2))))
     have hkl : (j : Int) < 20 := by omega
     have hlt' := hide hlt
     clear hr hown2 hf2 hn2 hf3 hown hfr kb han hl2 hob hj hlt
     go_wp2_with (at_builtin; refine wpList_app rfl (.tmp 24) (.tmp 26) 39 39 rfl _ _ _ rfl rfl (unhide HR) ?_)
     go_roundw
     case rel => exact ⟨j + 1, _, ao2, an + 1, cap2, unhide hlt', by go_num, rfl, by have := (unhide HO2).2.2.2.1; simp; omega, by have := (unhide HO2).2.2.2.2; simp; omega, (unhide HO2).1, (unhide HO2).2.2.1, (unhide HO2).2.1⟩
     case measure => have := unhide hlt'; simp [intOf]; omega
    ·have hkl : ¬ (j : Int) < 20 := by omega
     have HO3 := hide hfr
     clear hown hob kb hj hl2 han HO
     go_wp2_with fail
     clear hlt hkl
     rename World => wp
     go_loopw [5] (fun iv wr => ∃ (j : Nat) (xs : List Value), j ≤ H.length ∧ iv = .int .i64 (j : Nat) ∧ wr.ownsRow base 83 4 (.slice ho H.length hc) H.length xs ∧ Fr (fun k => (Value.slice fo F.length fc).ownBlock = some k ∨ (Value.slice ho H.length hc).ownBlock = some k) W1 wr) (fun iv _ => H.length - (intOf iv).toNat)
     case atStart => exact ⟨0, _, Nat.zero_le _, rfl, ownsRow_of_block (unhide HH1) (fun g hg => (unhide HO3).block g ((unhide HH1).lt g hg).2 (fun e => (unhide HB).1 g e hg)), (unhide HO3).mono (fun _ _ h => .inl h)⟩
     case round =>
      obtain ⟨j, xs, hj, rfl, hown, hfr⟩ := hrel
      have kb := (hfr.block B (unhide HB).2.2.2.2 (fun e => e.elim (fun e => by have := (unhide HB).2.1 B e; omega) (fun e => by have := (unhide HB).2.2.1 B e; omega))).trans (unhide KB)
      have b6 : wr.cell? ⟨B, 6, none⟩ = some (.slice ho H.length hc) := by simp [World.cell?, kb]
      by_cases hlt : j < H.length
      ·obtain ⟨g, cap, he, _, _⟩ := hown.form (by omega)
       cases he
       obtain ⟨w2, xs2, hs, ho2, hf2⟩ := sum_put hown j hlt
       have HS := hide hs
       have HO := hide (And.intro ho2 (hfr.trans (hf2.mono (fun k _ hk => .inr (by show some g = some k; rw [hk]))) (fun _ _ h => h)))
       have hkl : (j : Int) < (H.length : Int) := by omega
       have hlt' := hide hlt
       clear hs ho2 hf2 hown hfr kb hj hlt HO3
       go_wp2_with (refine wpList_stN rfl 83 (.tmp 39) (.tmp 38) rfl _ _ rfl rfl (unhide HS) ?_)
       go_roundw
       case rel => exact ⟨j + 1, _, unhide hlt', by go_num, (unhide HO).1, (unhide HO).2⟩
       case measure => have := unhide hlt'; simp [intOf]; omega
      ·obtain rfl : j = H.length := by omega
       have hkl : ¬ (H.length : Int) < (H.length : Int) := by omega
       have HO := hide hfr
       clear hown hfr kb hj
       go_wp2_with fail
       go_end0
       exact ⟨rfl, ((unhide F1).mono (fun _ _ h => h.elim)).trans (unhide HO) (fun _ _ h => h)⟩
end Go.Proofs.YthpoligdgbmnkaaGreatDoor

namespace Go.Proofs.YthpoligdgbmnkaaGreatDoor
open Go.RowKit Go.Shelf

/-- Answers of one's own, of which the first i are spoilt. -/
structure SK (w3 wr : World) (base : Nat) (T : Nat → Prop) (l : List (RQ × List F5)) (xs : List RA) (ov : Value) (al : List AN) (i : Nat) : Prop where
 o : wr.ownsRow base 45 7 ov al.length (acells al)
 n : al.length = xs.length
 a : ∀ (k : Nat) (a : AN), i ≤ k → al[k]? = some a → ∃ (p : RQ × List F5) (x : RA), l[k]? = some p ∧ xs[k]? = some x ∧ AnOk wr base T p.1 a x
 p : Apt al
 b : w3.heap.size ≤ base
 f : Fr (fun _ => False) w3 wr
theorem SK.fr {w3 wr W : World} {base : Nat} {T : Nat → Prop} {l : List (RQ × List F5)} {xs : List RA} {ov : Value} {al : List AN} {i : Nat} (h : SK w3 wr base T l xs ov al i) (hf : Fr (fun _ => False) wr W) : SK w3 W base T l xs ov al i :=
 ⟨ownsRow_of_block h.o (fun g hg => hf.block g (h.o.lt g hg).2 (fun h => h)), h.n, fun k a hk ha => by
  obtain ⟨p, x, h1, h2, h3⟩ := h.a k a hk ha
  exact ⟨p, x, h1, h2, h3.frS hf (fun _ _ h => h) (fun _ _ h => h)⟩, h.p, h.b, h.f.trans hf (fun _ _ h => h)⟩
theorem SK.next {w3 wr W : World} {base : Nat} {T : Nat → Prop} {l : List (RQ × List F5)} {xs : List RA} {ov : Value} {al : List AN} {i : Nat} {a : AN} (h : SK w3 wr base T l xs ov al i) (ha : al[i]? = some a) (hf : Fr (fun k => a.fv.ownBlock = some k ∨ a.hv.ownBlock = some k) wr W) : SK w3 W base T l xs ov al (i + 1) := by
 obtain ⟨p, x, _, _, h3⟩ := h.a i a (Nat.le_refl _) ha
 refine ⟨ownsRow_of_block h.o (fun g hg => hf.block g (h.o.lt g hg).2 (fun e => ?_)), h.n, fun k b hk hb => ?_, h.p, h.b, h.f.absorb hf (fun k hk => ?_)⟩
 ·rcases e with e | e
  ·exact own_ne h3.f h.o (by decide) g e hg
  ·exact own_ne h3.h h.o (by decide) g e hg
 ·obtain ⟨p', x', k1, k2, k3⟩ := h.a k b (by omega) hb
  exact ⟨p', x', k1, k2, k3.frS hf (fun g hg e => h.p i k a b ha hb (by omega) g e hg) (fun _ _ h => h)⟩
 ·have hb := h.b
  rcases hk with e | e
  ·have : base ≤ k := (h3.f.lt k e).1
   omega
  ·have : base ≤ k := (h3.h.lt k e).1
   omega
theorem runM_short : ∀ (l : List (RQ × List F5)) (s : RM) (i : Nat), s.Ok → (∀ p ∈ l, PGood p) → ∀ x ∈ runM s i l, x.F.length ≤ 32 ∧ x.H.length ≤ 64
 | [], _, _, _, _, x, hx => by cases hx
 | p :: r, s, i, h, hp, x, hx => by
  simp only [runM, List.mem_cons] at hx
  rcases hx with rfl | hx
  ·exact step_short h p.1 p.2 i
  ·exact runM_short r _ _ (h.step p.1 p.2 i (hp p (by simp)).2.2 (hp p (by simp)).1) (fun q hq => hp q (by simp [hq])) x hx
/-- The cells of an answer in a row. -/
theorem ans_cells {w : World} {base g cap n : Nat} {al : List AN} (h : w.ownsRow base 45 7 (.slice (some ⟨g, 0, none⟩) n cap) al.length (acells al)) (i : Nat) (a : AN) (ha : al[i]? = some a) : ∀ k, k < 7 → w.cell? ⟨g, i * 7 + k, none⟩ = a.cs[k]? := by
 intro k hk
 obtain ⟨hi, e⟩ := List.getElem?_eq_some_iff.1 ha
 obtain ⟨_, _, e2⟩ := own_formX h
 cases e2
 rw [h.cellAt _ (by omega), acells_at al i hi k hk, e]
end Go.Proofs.YthpoligdgbmnkaaGreatDoor

namespace Go.Proofs.YthpoligdgbmnkaaGreatDoor
open Go.RowKit Go.Shelf

set_option maxHeartbeats 8000000 in
set_option maxRecDepth 100000 in
/-- RecordAnswers. -/
theorem ranswers_any (sv rv pv : Value) (S : List P3) (l : List (RQ × List F5)) (pl : List Nat) (w : World) (hs : Stf w sv S) (hS : S.length ≤ 1000000) (hq : Rqs w rv l) (hl : l.length ≤ 1000000) (hp : Us w pv pl) (hg : GU w) (hpg : ∀ p ∈ l, PGo p) :
  Calls Tryz.prog 4 #[.agg #[sv, rv, pv]] w fun e w' => e = .returned (.bool true) ∧ Fr (fun _ => False) w w' := by
 obtain ⟨so, sc, rfl⟩ := hs.form
 obtain ⟨ro, rc0, rfl⟩ := hq.form
 obtain ⟨po, pc, rfl⟩ := hp.form
 have HQ := hide (And.intro hs (And.intro hq (And.intro hg (And.intro hpg (And.intro hS hl)))))
 have HSh : Hid (∀ x ∈ runM ⟨S, []⟩ 0 l, x.F.length ≤ 32 ∧ x.H.length ≤ 64) := runM_short l ⟨S, []⟩ 0 ⟨by show S.length ≤ _; omega, by show 0 ≤ 256; omega, fun c hc => (by cases hc)⟩ (fun p hp => (hpg p hp).1)
 obtain ⟨B, hB⟩ : ∃ B, B = w.heap.size := ⟨_, rfl⟩
 obtain ⟨W1, hW1⟩ : ∃ W1, W1 = w.alloc (.cells #[.slice so S.length sc, .slice ro l.length rc0, .slice po pl.length pc] 26) := ⟨_, rfl⟩
 have hb1 : W1.heap[B]? = some (.cells #[.slice so S.length sc, .slice ro l.length rc0, .slice po pl.length pc] 26) := by rw [hW1, hB]; exact Array.getElem?_push_size
 have hf1 : Fr (fun _ => False) w W1 := by rw [hW1]; exact box1 w _
 have H1 := hide (And.intro hb1 hf1)
 clear hs hq hp hg hpg hb1 hf1 hl hS
 go_enter Tryz.func4, Tryz.ntmps4
 go_wp2_with fail
 rw [← hW1, ← hB]
 clear hW1 hB
 refine (awake11 W1 ((unhide HQ).2.2.1.fr (unhide H1).2)).mono ?_
 rintro e w2 ⟨rfl, hf2⟩
 have H2 := hide (And.intro ((hf2.block _ (lt_of_block (unhide H1).1) (fun h => h)).trans (unhide H1).1) ((unhide H1).2.trans hf2 (fun _ _ h => h)))
 clear hf2 H1
 have b0 : w2.cell? ⟨B, 0, none⟩ = some (.slice so S.length sc) := by simp [World.cell?, (unhide H2).1]
 have b1 : w2.cell? ⟨B, 1, none⟩ = some (.slice ro l.length rc0) := by simp [World.cell?, (unhide H2).1]
 go_wp2_with fail
 refine (ganswers_any _ _ S l w2 ((unhide HQ).1.fr (unhide H2).2) (unhide HQ).2.2.2.2.1 ((unhide HQ).2.1.fr (unhide H2).2) (unhide HQ).2.2.2.2.2 (unhide HQ).2.2.2.1).mono ?_
 rintro e w3 ⟨wv, bl, T3, rfl, hG, hf3⟩
 obtain ⟨wo, wc0, rfl⟩ := own_formX hG.o
 have hnb : bl.length = l.length := by rw [hG.n, runM_len]
 have H3 := hide (And.intro ((hf3.block _ (lt_of_block (unhide H2).1) (fun h => h)).trans (unhide H2).1) ((unhide H2).2.trans hf3 (fun _ _ h => h)))
 rw [hnb]
 have HG := hide hG
 have HNB := hide hnb
 clear hf3 H2 b0 b1 hG hnb
 go_wp2_with fail
 go_loopw [4] (fun kv wr => ∃ j : Nat, j ≤ 2 ∧ kv = .int .i64 (j : Nat) ∧ Fr (fun _ => False) w3 wr) (fun kv _ => 2 - (intOf kv).toNat)
 case atStart => exact ⟨0, by omega, rfl, Fr.refl _ _⟩
 case round =>
  obtain ⟨j, hj, rfl, hfr⟩ := hrel
  rename World => wa
  by_cases hlt : j < 2
  ·have HB3 : Hid (∀ W, Fr (fun _ => False) wa W → W.cell? ⟨B, 0, none⟩ = some (.slice so S.length sc) ∧ W.cell? ⟨B, 1, none⟩ = some (.slice ro l.length rc0)) := fun W hW => by
    have h1 := ((hfr.trans hW (fun _ _ h => h)).block _ (lt_of_block (unhide H3).1) (fun h => h)).trans (unhide H3).1
    exact ⟨by simp [World.cell?, h1], by simp [World.cell?, h1]⟩
   have HF := hide hfr
   have hkl : (j : Int) < 2 := by omega
   have hlt' := hide hlt
   clear hfr hj hlt
   go_upto_region 7 with fail
   go_cut [5] from 14 to 49 (fun s5 wx => ∃ oo oc al T0 base, s5 = .slice oo l.length oc ∧ al.length = l.length ∧ SK w3 wx base T0 l (runM ⟨S, []⟩ 0 l) (.slice oo l.length oc) al 0)
   case first =>
    refine wp_region_noPanic ?_
    refine wp_region_held_drew (S := (fun W => W.cell? ⟨B, 0, none⟩ = some (.slice so S.length sc) ∧ W.cell? ⟨B, 1, none⟩ = some (.slice ro l.length rc0))) (by kernel_rfl) ((unhide HB3) _ (Fr.refl _ _).drew) (fun hHeld => ?_)
    refine wtk (i := 0) (v := ?_) rfl (Or.inl ⟨by rfl, ?_⟩) hHeld ?_
    rotate_left
    ·intro w hSw; (try dsimp only at hSw); go_simp; (try with_reducible rfl)
    (try simp only [Act.put, nrm])
    refine wtk (i := 1) (v := ?_) rfl (Or.inl ⟨by rfl, ?_⟩) hHeld ?_
    rotate_left
    ·intro w hSw; (try dsimp only at hSw); go_simp; (try with_reducible rfl)
    (try simp only [Act.put, nrm])
    refine wtk (i := 3) (v := ?_) rfl (Or.inl ⟨by rfl, ?_⟩) hHeld ?_
    rotate_left
    ·intro w hSw; (try dsimp only at hSw); go_simp; (try with_reducible rfl)
    (try simp only [Act.put, nrm])
    refine wtk (i := 4) (v := ?_) rfl (Or.inl ⟨by rfl, ?_⟩) hHeld ?_
    rotate_left
    ·intro w hSw; (try dsimp only at hSw); go_simp; (try with_reducible rfl)
    (try simp only [Act.put, nrm])
    refine wpAnyH_ready (rs := [2]) (by kernel_rfl) (by simp) (AllReadyH.cons rfl (fun K hK => ?_) AllReadyH.nil)
    go_simp
    have f3d : Fr (fun _ => False) w3 wa.drew := (unhide HF).trans (Fr.refl _ _).drew (fun _ _ h => h)
    refine (staff_any _ S wa.drew ((unhide HQ).1.fr ((unhide H3).2.trans f3d (fun _ _ h => h))) (unhide HQ).2.2.2.2.1).mono ?_
    rintro e w4 ⟨v, rfl, ho4, hf4⟩
    have f34 := f3d.trans hf4 (fun _ _ h => h)
    have fa4 := (Fr.refl (fun _ => False) wa).drew.trans hf4 (fun _ _ h => h)
    have HN4 := hide (answers_A v (.slice ro l.length rc0) S l w4 (own_stf ho4) (own_z ho4) (unhide HQ).2.2.2.2.1 ((unhide HQ).2.1.fr ((unhide H3).2.trans f34 (fun _ _ h => h))) (by have := (unhide HQ).2.2.2.2.2; omega) (fun p hp => ((unhide HQ).2.2.2.1 p hp).1) ((unhide HQ).2.2.1.fr ((unhide H3).2.trans f34 (fun _ _ h => h))))
    obtain ⟨vo, vc, rfl⟩ := own_formX ho4
    have HB4 := hide (And.intro f34 fa4)
    clear ho4 hf4 f34 fa4 f3d
    go_simp
    refine hK.out _ _ ((unhide HB3) _ (unhide HB4).2) (fun hHeld => ?_)
    clear hK K
    (try simp only [Act.put, nrm])
    refine wpAnyH_ready (rs := [5]) (by kernel_rfl) (by simp) (AllReadyH.cons rfl (fun K hK => ?_) AllReadyH.nil)
    go_simp
    refine (unhide HN4).mono ?_
    rintro e w5 ⟨ov, T0, al, rfl, hA, hap, hf5⟩
    have hna : al.length = l.length := by rw [hA.n, runM_len]
    obtain ⟨oo, oc, rfl⟩ := own_formX hA.o
    rw [hna] at hA ⊢
    have HSK : Hid (SK w3 w5 w4.heap.size T0 l (runM ⟨S, []⟩ 0 l) (.slice oo l.length oc) al 0) := ⟨hA.o, hA.n, fun k a _ ha => hA.a k a ha, hap, (unhide HB4).1.size, (unhide HB4).1.trans hf5 (fun _ _ h => h)⟩
    have HB5 := hide ((unhide HB4).2.trans hf5 (fun _ _ h => h))
    have HNA := hide hna
    clear hA hap hf5 HN4 HB4 hna
    go_simp
    refine hK.out _ _ ((unhide HB3) _ (unhide HB5)) (fun hHeld => ?_)
    clear hK K
    (try simp only [Act.put, nrm])
    refine wtk (i := 6) (v := ?_) rfl (Or.inl ⟨by rfl, ?_⟩) hHeld ?_
    rotate_left
    ·intro w hSw; (try dsimp only at hSw); go_simp; (try with_reducible rfl)
    (try simp only [Act.put, nrm])
    refine wpAnyH_done (by kernel_rfl) ?_ _
    refine NoPanic.normal ?_
    go_wp2_with fail
    go_meet
    case rel => exact ⟨oo, oc, al, T0, _, rfl, unhide HNA, unhide HSK⟩
   case rest =>
    obtain ⟨oo, oc, al, T0, base, rfl, hna, hsk⟩ := hcut
    have HSK := hide hsk
    have HNA := hide hna
    clear hsk hna HB3 HF
    go_wp2_with fail
    go_loopw [6] (fun kv wr => ∃ i : Nat, i ≤ l.length ∧ kv = .int .i64 (i : Nat) ∧ SK w3 wr base T0 l (runM ⟨S, []⟩ 0 l) (.slice oo l.length oc) al i) (fun kv _ => l.length - (intOf kv).toNat)
    case atStart => exact ⟨0, Nat.zero_le _, rfl, unhide HSK⟩
    case round =>
     clear HSK
     obtain ⟨i, hi, rfl, hsk⟩ := hrel
     rename World => wb
     by_cases hlt2 : i < l.length
     ·have hia : i < al.length := by rw [unhide HNA]; exact hlt2
      have hib : i < bl.length := by rw [unhide HNB]; exact hlt2
      obtain ⟨a, ha⟩ : ∃ a, al[i]? = some a := ⟨_, List.getElem?_eq_getElem hia⟩
      obtain ⟨b, hb⟩ : ∃ b, bl[i]? = some b := ⟨_, List.getElem?_eq_getElem hib⟩
      obtain ⟨p, x, hp1, hx1, hok⟩ := hsk.a i a (Nat.le_refl _) ha
      obtain ⟨p', x', hp2, hx2, hgk⟩ := (unhide HG).a i b hb
      rw [hp1] at hp2
      rw [hx1] at hx2
      cases hp2
      cases hx2
      have hsh := (unhide HSh) x (List.mem_of_getElem? hx1)
      have hoA := hsk.o
      have hoB := (unhide HG).o
      rw [unhide HNA] at hoA
      rw [unhide HNB] at hoB
      obtain ⟨g, cap, he, _, _⟩ := hoA.form (by omega)
      cases he
      obtain ⟨g2, cap2, he2, _, _⟩ := hoB.form (by omega)
      cases he2
      have hoA' := hsk.o
      have hoB' : wb.ownsRow (w2.heap.size + 1) 45 7 (.slice (some ⟨g2, 0, none⟩) l.length wc0) bl.length (acells bl) := by
       rw [← unhide HNB]
       exact ownsRow_of_block (unhide HG).o (fun k hk => hsk.f.block k ((unhide HG).o.lt k hk).2 (fun h => h))
      have HSP : Hid (∀ W, Fr (fun k => a.fv.ownBlock = some k ∨ a.hv.ownBlock = some k) wb W → SK w3 W base T0 l (runM ⟨S, []⟩ 0 l) (.slice (some ⟨g, 0, none⟩) l.length oc) al (i + 1)) := fun W hW => hsk.next ha hW
      have hcA := ans_cells hoA' i a ha
      have hcB := ans_cells hoB' i b hb
      have hgf : Fds wb b.fv x.F := hgk.f.fr hsk.f
      have hgh : Sms wb b.hv x.H := hgk.h.fr hsk.f
      obtain ⟨a1, a2, a3, a4, a5⟩ := hok.e
      obtain ⟨e1, e2, e3, e4, e5⟩ := hgk.e
      have hoF := hok.f
      have hoH := hok.h
      have hbw : base ≤ wb.heap.size := by
       rcases hoA.2 with ⟨e, _⟩ | ⟨g3, c3, cur3, e, h3, h4, _⟩
       ·cases e
       ·exact Nat.le_trans h3 (Nat.le_of_lt (lt_of_block h4))
      obtain ⟨cl, nu, co, rc, ve, fv, hv⟩ := a
      obtain ⟨cl', nu', co', rc', ve', fv', hv'⟩ := b
      simp only at a1 a2 a3 a4 a5 e1 e2 e3 e4 e5 hoF hoH hgf hgh HSP
      subst a3 a4 a5 e3 e4 e5
      rw [← a1] at e1
      rw [← a2] at e2
      have e1' := e1.symm
      have e2' := e2.symm
      subst e1' e2'
      obtain ⟨fo, fc, rfl⟩ := own_formX hoF
      obtain ⟨ho, hc, rfl⟩ := own_formX hoH
      obtain ⟨fo2, fc2, rfl⟩ := hgf.form
      obtain ⟨ho2, hc2, rfl⟩ := hgh.form
      have HS : Hid (∀ W, Fr (fun _ => False) wb W → W.cell? ⟨g, i * 7, none⟩ = some (.int .u32 (cl : Nat)) ∧ W.cell? ⟨g, i * 7 + 1, none⟩ = some (.int .u32 (nu : Nat)) ∧ W.cell? ⟨g, i * 7 + 2, none⟩ = some (.int .u8 (x.co : Nat)) ∧ W.cell? ⟨g, i * 7 + 3, none⟩ = some (.int .u32 (x.rc : Nat)) ∧ W.cell? ⟨g, i * 7 + 4, none⟩ = some (.int .u32 (x.ve : Nat)) ∧ W.cell? ⟨g, i * 7 + 5, none⟩ = some (.slice fo x.F.length fc) ∧ W.cell? ⟨g, i * 7 + 6, none⟩ = some (.slice ho x.H.length hc) ∧ W.cell? ⟨g2, i * 7, none⟩ = some (.int .u32 (cl : Nat)) ∧ W.cell? ⟨g2, i * 7 + 1, none⟩ = some (.int .u32 (nu : Nat)) ∧ W.cell? ⟨g2, i * 7 + 2, none⟩ = some (.int .u8 (x.co : Nat)) ∧ W.cell? ⟨g2, i * 7 + 3, none⟩ = some (.int .u32 (x.rc : Nat)) ∧ W.cell? ⟨g2, i * 7 + 4, none⟩ = some (.int .u32 (x.ve : Nat)) ∧ W.cell? ⟨g2, i * 7 + 5, none⟩ = some (.slice fo2 x.F.length fc2) ∧ W.cell? ⟨g2, i * 7 + 6, none⟩ = some (.slice ho2 x.H.length hc2)) := fun W hW => by
       have p0 := (hW.cell (p := ⟨g, i * 7 + 0, none⟩) (lt_of_cell (hcA 0 (by omega))) (fun h => h)).trans (hcA 0 (by omega))
       have p1 := (hW.cell (p := ⟨g, i * 7 + 1, none⟩) (lt_of_cell (hcA 1 (by omega))) (fun h => h)).trans (hcA 1 (by omega))
       have p2 := (hW.cell (p := ⟨g, i * 7 + 2, none⟩) (lt_of_cell (hcA 2 (by omega))) (fun h => h)).trans (hcA 2 (by omega))
       have p3 := (hW.cell (p := ⟨g, i * 7 + 3, none⟩) (lt_of_cell (hcA 3 (by omega))) (fun h => h)).trans (hcA 3 (by omega))
       have p4 := (hW.cell (p := ⟨g, i * 7 + 4, none⟩) (lt_of_cell (hcA 4 (by omega))) (fun h => h)).trans (hcA 4 (by omega))
       have p5 := (hW.cell (p := ⟨g, i * 7 + 5, none⟩) (lt_of_cell (hcA 5 (by omega))) (fun h => h)).trans (hcA 5 (by omega))
       have p6 := (hW.cell (p := ⟨g, i * 7 + 6, none⟩) (lt_of_cell (hcA 6 (by omega))) (fun h => h)).trans (hcA 6 (by omega))
       have q0 := (hW.cell (p := ⟨g2, i * 7 + 0, none⟩) (lt_of_cell (hcB 0 (by omega))) (fun h => h)).trans (hcB 0 (by omega))
       have q1 := (hW.cell (p := ⟨g2, i * 7 + 1, none⟩) (lt_of_cell (hcB 1 (by omega))) (fun h => h)).trans (hcB 1 (by omega))
       have q2 := (hW.cell (p := ⟨g2, i * 7 + 2, none⟩) (lt_of_cell (hcB 2 (by omega))) (fun h => h)).trans (hcB 2 (by omega))
       have q3 := (hW.cell (p := ⟨g2, i * 7 + 3, none⟩) (lt_of_cell (hcB 3 (by omega))) (fun h => h)).trans (hcB 3 (by omega))
       have q4 := (hW.cell (p := ⟨g2, i * 7 + 4, none⟩) (lt_of_cell (hcB 4 (by omega))) (fun h => h)).trans (hcB 4 (by omega))
       have q5 := (hW.cell (p := ⟨g2, i * 7 + 5, none⟩) (lt_of_cell (hcB 5 (by omega))) (fun h => h)).trans (hcB 5 (by omega))
       have q6 := (hW.cell (p := ⟨g2, i * 7 + 6, none⟩) (lt_of_cell (hcB 6 (by omega))) (fun h => h)).trans (hcB 6 (by omega))
       exact ⟨p0, p1, p2, p3, p4, p5, p6, q0, q1, q2, q3, q4, q5, q6⟩
      have HSm : Hid (∀ W, Fr (fun _ => False) wb W → Calls Tryz.prog 14 #[.agg #[.int .u32 (cl : Nat), .int .u32 (nu : Nat), .int .u8 (x.co : Nat), .int .u32 (x.rc : Nat), .int .u32 (x.ve : Nat), .slice fo x.F.length fc, .slice ho x.H.length hc], .agg #[.int .u32 (cl : Nat), .int .u32 (nu : Nat), .int .u8 (x.co : Nat), .int .u32 (x.rc : Nat), .int .u32 (x.ve : Nat), .slice fo2 x.F.length fc2, .slice ho2 x.H.length hc2]] W fun e w' => e = .returned (.bool true) ∧ Fr (fun _ => False) W w') := fun W hW => sameA_any cl nu x.co x.rc x.ve _ _ _ _ x.F x.H W (hoF.fds.fr hW) (hgf.fr hW) (hoH.sms.fr hW) (hgh.fr hW) (by omega) (by omega)
      have HSpo : Hid (∀ W, Fr (fun _ => False) wb W → Calls Tryz.prog 16 #[.agg #[.int .u32 (cl : Nat), .int .u32 (nu : Nat), .int .u8 (x.co : Nat), .int .u32 (x.rc : Nat), .int .u32 (x.ve : Nat), .slice fo x.F.length fc, .slice ho x.H.length hc]] W fun e w' => e = .returned (.tuple #[]) ∧ Fr (fun k => (Value.slice fo x.F.length fc).ownBlock = some k ∨ (Value.slice ho x.H.length hc).ownBlock = some k) W w') := fun W hW => spoil_any cl nu x.co x.rc x.ve fo fc ho hc x.F x.H base W (Nat.le_trans hbw hW.size) (ownsRow_of_block hoF (fun g hg => hW.block g (hoF.lt g hg).2 (fun h => h))) (ownsRow_of_block hoH (fun g hg => hW.block g (hoH.lt g hg).2 (fun h => h))) (by omega) (by omega)
      have hkl2 : (i : Int) < (l.length : Int) := by omega
      have hlt2' := hide (show i < l.length ∧ l.length ≤ 1000000 from ⟨hlt2, (unhide HQ).2.2.2.2.2⟩)
      clear hia hib ha hb hp1 hx1 hok hgk hsh hoA hoB hoA' hoB' hcA hcB hgf hgh a1 a2 hoF hoH hbw hi hlt2 hsk
      go_upto_region 13 with fail
      go_cut [44] from 29 to 49 (fun c wx => c = .bool false ∧ Fr (fun _ => False) wb wx)
      case first =>
       refine wp_region_noPanic ?_
       refine wp_region_held_drew (S := (fun W => W.cell? ⟨g, i * 7, none⟩ = some (.int .u32 (cl : Nat)) ∧ W.cell? ⟨g, i * 7 + 1, none⟩ = some (.int .u32 (nu : Nat)) ∧ W.cell? ⟨g, i * 7 + 2, none⟩ = some (.int .u8 (x.co : Nat)) ∧ W.cell? ⟨g, i * 7 + 3, none⟩ = some (.int .u32 (x.rc : Nat)) ∧ W.cell? ⟨g, i * 7 + 4, none⟩ = some (.int .u32 (x.ve : Nat)) ∧ W.cell? ⟨g, i * 7 + 5, none⟩ = some (.slice fo x.F.length fc) ∧ W.cell? ⟨g, i * 7 + 6, none⟩ = some (.slice ho x.H.length hc) ∧ W.cell? ⟨g2, i * 7, none⟩ = some (.int .u32 (cl : Nat)) ∧ W.cell? ⟨g2, i * 7 + 1, none⟩ = some (.int .u32 (nu : Nat)) ∧ W.cell? ⟨g2, i * 7 + 2, none⟩ = some (.int .u8 (x.co : Nat)) ∧ W.cell? ⟨g2, i * 7 + 3, none⟩ = some (.int .u32 (x.rc : Nat)) ∧ W.cell? ⟨g2, i * 7 + 4, none⟩ = some (.int .u32 (x.ve : Nat)) ∧ W.cell? ⟨g2, i * 7 + 5, none⟩ = some (.slice fo2 x.F.length fc2) ∧ W.cell? ⟨g2, i * 7 + 6, none⟩ = some (.slice ho2 x.H.length hc2))) (by kernel_rfl) ((unhide HS) _ (Fr.refl _ _).drew) (fun hHeld => ?_)
       refine wtk (i := 0) (v := ?_) rfl (Or.inl ⟨by rfl, ?_⟩) hHeld ?_
       rotate_left
       ·intro w hSw; (try dsimp only at hSw); go_simp; (try with_reducible rfl)
       (try simp only [Act.put, nrm])
       refine wtk (i := 1) (v := ?_) rfl (Or.inl ⟨by rfl, ?_⟩) hHeld ?_
       rotate_left
       ·intro w hSw; (try dsimp only at hSw); go_simp; (try with_reducible rfl)
       (try simp only [Act.put, nrm])
       refine wtk (i := 2) (v := ?_) rfl (Or.inl ⟨by rfl, ?_⟩) hHeld ?_
       rotate_left
       ·intro w hSw; (try dsimp only at hSw); go_simp; (try with_reducible rfl)
       (try simp only [Act.put, nrm])
       refine wtk (i := 3) (v := ?_) rfl (Or.inl ⟨by rfl, ?_⟩) hHeld ?_
       rotate_left
       ·intro w hSw; (try dsimp only at hSw); go_simp; (try with_reducible rfl)
       (try simp only [Act.put, nrm])
       refine wtk (i := 4) (v := ?_) rfl (Or.inl ⟨by rfl, ?_⟩) hHeld ?_
       rotate_left
       ·intro w hSw; (try dsimp only at hSw); go_simp; (try with_reducible rfl)
       (try simp only [Act.put, nrm])
       refine wtk (i := 5) (v := ?_) rfl (Or.inl ⟨by rfl, ?_⟩) hHeld ?_
       rotate_left
       ·intro w hSw; (try dsimp only at hSw); go_simp; (try with_reducible rfl)
       (try simp only [Act.put, nrm])
       refine wtk (i := 6) (v := ?_) rfl (Or.inl ⟨by rfl, ?_⟩) hHeld ?_
       rotate_left
       ·intro w hSw; (try dsimp only at hSw); go_simp; (try with_reducible rfl)
       (try simp only [Act.put, nrm])
       refine wtk (i := 7) (v := ?_) rfl (Or.inl ⟨by rfl, ?_⟩) hHeld ?_
       rotate_left
       ·intro w hSw; (try dsimp only at hSw); go_simp; (try with_reducible rfl)
       (try simp only [Act.put, nrm])
       refine wpAnyH_ready (rs := [8]) (by kernel_rfl) (by simp) (AllReadyH.cons rfl (fun K hK => ?_) AllReadyH.nil)
       go_simp
       refine ((unhide HSm) _ (Fr.refl _ _).drew).mono ?_
       rintro e w6 ⟨rfl, hf6⟩
       have F6 := hide ((Fr.refl (fun _ => False) wb).drew.trans hf6 (fun _ _ h => h))
       clear hf6
       go_simp
       refine hK.out _ _ ((unhide HS) _ (unhide F6)) (fun hHeld => ?_)
       clear hK K
       (try simp only [Act.put, nrm])
       refine wtk (i := 9) (v := ?_) rfl (Or.inl ⟨by rfl, ?_⟩) hHeld ?_
       rotate_left
       ·intro w hSw; (try dsimp only at hSw); go_simp; (try with_reducible rfl)
       (try simp only [Act.put, nrm])
       refine wpAnyH_done (by kernel_rfl) ?_ _
       refine NoPanic.normal ?_
       go_wp2_with fail
       go_meet
       case rel => exact ⟨rfl, unhide F6⟩
      case rest =>
       obtain ⟨rfl, hf6⟩ := hcut
       have F6 := hide hf6
       obtain ⟨c0, c1, c2, c3, c4, c5, c6, _⟩ := (unhide HS) _ hf6
       clear hf6
       go_wp2_with fail
       refine ((unhide HSpo) _ (unhide F6)).mono ?_
       rintro e w7 ⟨rfl, hf7⟩
       have HK7 := hide ((unhide HSP) w7 ((((unhide F6).mono (fun _ _ h => h.elim)).trans hf7 (fun _ _ h => h))))
       clear hf7 c0 c1 c2 c3 c4 c5 c6 HSP HSpo HSm HS F6
       obtain ⟨t1, t2⟩ := unhide hlt2'
       go_wp2_with fail
       go_roundw
       case rel => exact ⟨i + 1, t1, by go_num, unhide HK7⟩
       case measure => simp [intOf]; omega
     ·have hkl2 : ¬ (i : Int) < (l.length : Int) := by omega
      have HF := hide hsk.f
      clear hsk hi hlt2
      go_wp2_with fail
      go_roundw
      case rel => exact ⟨j + 1, unhide hlt', by have := unhide hlt'; go_num, unhide HF⟩
      case measure => have := unhide hlt'; simp [intOf]; omega
  ·have hkl : ¬ (j : Int) < 2 := by omega
   have HF := hide hfr
   clear hfr hj hlt
   go_wp2_with fail
   go_ret
   exact ⟨rfl, (unhide H3).2.trans (unhide HF) (fun _ _ h => h)⟩
end Go.Proofs.YthpoligdgbmnkaaGreatDoor

namespace Go.Proofs.YthpoligdgbmnkaaGreatDoor
open Go.ChangeShapes Go.WideShapes Go.ChangeAt Go.RowKit
set_option maxRecDepth 100000

theorem rans_contract (H : Type) (enc : TypeId × Value → H) (W : World) (base : Nat) (args : Array Value) (ds gs : List (DataW H)) (before : List MemPlace)
  (hval : ∀ (j : Nat) t v, Tryz.f4.params[j]? = some t → args[j]? = some v → Value.okWide Tryz.prog W .any base t v)
  (hW : DataW.Whole enc Tryz.prog Tryz.f4.params.toList Rows.recordAnswersSpec.vars false W args.toList ds gs before) (hk : Rows.uptoSmall H (ds ++ gs) = true) (hL : laidMetH Tryz.prog Rows.recordAnswersUptoRow.laid W) :
  Calls Tryz.prog 4 args W fun e W' => ∃ v, e = .returned v ∧ Rows.recordAnswersSpec.post enc Tryz.prog Tryz.f4 false true false false W args v W' := by
 have hW' := hW
 obtain ⟨p, q, hA0, hV, rfl, hfz, hnd⟩ := hW
 have hA : DataW.TrodAll enc Tryz.prog W 0 (fun _ => true) true Tryz.f4.params.toList args.toList ds p := hA0
 rw [Tryz.params4] at hA hval
 obtain ⟨v0, vs0, d0, ds0, p0, q0, hargs, rfl, rfl, h0, r0⟩ := trodAll_cons hA
 obtain ⟨rfl, rfl, rfl⟩ := trodAll_nil r0
 obtain rfl : args = #[v0] := by cases args; simp_all
 obtain ⟨rfl, rfl⟩ := trodVars_none hV
 have hbulk : Rows.uptoBulk d0 + 0 ≤ 1048576 := by
  have h := of_decide_eq_true hk
  simpa only [List.append_nil, Rows.uptoBulkAll] using h
 have hL2 : laidMet Tryz.prog [("almoner/quant.units", Rows.laid_almoner_quant_units)] W := hL
 have hg := gu_of_laid hL2 (.head _)
 obtain ⟨sv, rv, pv, S, l, pl, rfl, hS, hq, hu, hp, bS, bl⟩ := play_of_readingP (hval 0 26 v0 rfl rfl) h0 (by omega)
 refine (ranswers_any sv rv pv S l pl W hS (by omega) hq (by omega) hu hg hp).mono fun e W' ⟨he, hf⟩ => ?_
 subst he
 have hlt : ∀ x ∈ p0 ++ [], x.block < W.heap.size := fun x hx => hW'.lt x (by simpa using hx)
 have hb := hf.below
 refine ⟨_, rfl, _, _, _, [], p0 ++ [], [], hW', ?_, ?_, ?_, hb.frame _, fun h => by cases h⟩
 ·exact trodAll_cons_mk (shut_bool Tryz.underlying4 true) trodAll_mk0
 ·exact trodAll_cons_mk (Below.trod (by kernel_rfl) (by kernel_rfl) (by decide +kernel) h0 hb (fun x hx => hlt x (by simp [hx]))) trodAll_mk0
 ·rfl
theorem rans_laid_met (os : Os) : laidMetH Tryz.prog Rows.recordAnswersUptoRow.laid ((uWorld os).forCall (fun _ _ => 0) ⟨#[], #[.agg #[.slice none 0 0, .slice none 0 0, .slice none 0 0]], []⟩).memory :=
 laidMetH_of_parts (laidMet_of_run' 8 (by kernel_rfl) (by kernel_rfl)) (by kernel_rfl)
theorem rans_reads (os : Os) {H : Type} (enc : TypeId × Value → H) : ∃ places, DataW.whole enc Tryz.prog ((uWorld os).forCall (fun _ _ => 0) ⟨#[], #[.agg #[.slice none 0 0, .slice none 0 0, .slice none 0 0]], []⟩).memory Tryz.f4.params.toList Rows.recordAnswersSpec.vars false #[Value.agg #[.slice none 0 0, .slice none 0 0, .slice none 0 0]].toList 8 = some ([.agg [.nil, .nil, .nil]], [], places) :=
 ⟨[], by kernel_rfl⟩
theorem rans_lifted (os : Os) (started : os.Started) (H : Type) (enc : TypeId × Value → H) (F : Stop.Interp) :
  ReturnsInHanded {} Tryz.checked os 4 .any ((Rows.OpenSpec.upto Rows.recordAnswersSpec).preRow enc Tryz.prog Tryz.f4 Rows.recordAnswersUptoRow.domain false Rows.recordAnswersUptoRow.laid) (((Rows.OpenSpec.upto Rows.recordAnswersSpec).at F).post enc Tryz.prog Tryz.f4 false true false false) := by
 obtain ⟨places, hx⟩ := rans_reads os enc
 refine returnsInHanded_of_row (C := Tryz.checked) (s := Rows.OpenSpec.upto Rows.recordAnswersSpec) Tryz.ownKnob started (by kernel_rfl) Tryz.func4
  (witness_row_atRef (enc := enc) (C := Tryz.checked) false (uWorld os) #[.agg #[.slice none 0 0, .slice none 0 0, .slice none 0 0]] rfl (by kernel_rfl) (by kernel_rfl) (by kernel_rfl)
   (OpenSpec.preRow_of_cond 8 hx (by kernel_rfl) (fun k hk => by cases hk; kernel_rfl) (by kernel_rfl) (rans_laid_met os))) ?_
 intro W base args ds gs before hval hW _ hcond _ hL _ _
 exact rans_contract H enc W base args ds gs before hval hW (hcond _ rfl) hL
theorem rans_said : Rows.RecordAnswersUptoSaid :=
 OpenClaim.holds_of_cond 4 Tryz.f4 rfl rfl rfl rfl rfl rfl rfl ⟨rfl, rfl, rfl, rfl, rfl⟩ rfl rfl rfl rfl rfl (by kernel_rfl) Tryz.func4 (by kernel_rfl)
  (of_decide_eq_true (by kernel_rfl)) (by unfold Func.isWrapper; first | (rw [if_pos (by decide +kernel)]; kernel_rfl) | (rw [if_neg (by decide +kernel)]; exact ⟨rfl, rfl⟩))
  (fun os started H enc _ F => by rw [OpenClaim.pre_eq_preRow]; exact rans_lifted os started H enc F)
theorem rans_plain (f : FuncId) (fn : Func) (hf : Tryz.pinned.checked.prog.funcNamed Rows.recordAnswersUptoRow.func = some f) (hfn : Tryz.pinned.checked.prog.funcs[f]? = some fn) :
  false = Tryz.pinned.checked.prog.looks [] ∧ ∀ (j : Nat) t, fn.params[j]? = some t → Tryz.pinned.checked.prog.wantsStandIn t = false := by
 obtain rfl : f = 4 := Option.some.inj ((show Tryz.prog.funcNamed Rows.recordAnswersUptoRow.func = some 4 by kernel_rfl).symm.trans hf) |>.symm
 obtain rfl : fn = Tryz.f4 := (Option.some.inj (Tryz.func4.symm.trans hfn)).symm
 refine ⟨by kernel_rfl, fun j t ht => ?_⟩
 rw [Tryz.params4] at ht
 have ht' : t = 26 := by
  have h := Array.mem_of_getElem? ht
  simpa using h
 subst ht'
 exact (show Tryz.prog.wantsStandIn 26 = false by kernel_rfl)
/-- THE SECOND FORM's CARD. -/
theorem rans_card : Rows.RecordAnswersUptoCardSaid :=
 Claim7.holds_tied_plain_at .later [] _ _ _ _ rans_said (fun _ h => by cases h) (by kernel_rfl) (fun _ h => by cases h) recordAnswersUpto_row_tie rfl ⟨rfl, rfl⟩ (by kernel_rfl) rfl rans_plain (by kernel_rfl)
#print axioms rans_card
end Go.Proofs.YthpoligdgbmnkaaGreatDoor

