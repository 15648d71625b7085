import Derived.Test.YtfaponkpgcdgkaaZbo
namespace Go.Proofs.Ytfaponkpgcdgkaa
open Go.RowKit Go.Maps

/-- A request with another list. -/
def RQ.re (r : RQ) (v : Value) : RQ := ⟨r.cl, r.nu, r.ac, r.op, r.rc, r.ve, r.wa, r.ow, v, r.rs⟩
/-- Out, between two rounds. -/
structure OutI (W2 wr : World) (c : Nat) (cs : List SC) (j : Nat) (hv tv : Value) (R : List RQ) : Prop where
  fr : Fr (fun _ => False) W2 wr
  h : wr.ownsRow W2.heap.size 49 35 hv j (R.flatMap hmsg)
  t : wr.ownsRow W2.heap.size 49 35 tv j (((wl cs).take j).flatMap (tmsg c))
  ap : ∀ g, hv.ownBlock = some g → tv.ownBlock ≠ some g
  rl : R.length = j
  rr : ∀ (i : Nat) r, R[i]? = some r → ∃ k q, (wl cs)[i]? = some k ∧ cs[k - 1]? = some q ∧ ∃ v, r = (q.r.re v) ∧ OwF wr W2.heap.size v q.F
theorem OutI.step {W2 wr w2 w3 w4 : World} {c : Nat} {cs : List SC} {j : Nat} {hv tv : Value} {R : List RQ} (h : OutI W2 wr c cs j hv tv R) (hf2 : Fr (fun _ => False) wr w2) {k : Nat} {q : SC} {v : Value} (hk : (wl cs)[j]? = some k) (hq : cs[k - 1]? = some q) (hv2 : OwF w2 wr.heap.size v q.F)
    {hv' tv' : Value} (h3 : w3.ownsRow W2.heap.size 49 35 hv' (j + 1) (R.flatMap hmsg ++ hmsg (q.r.re v))) (hf3 : Fr (fun g => hv.ownBlock = some g) w2 w3) (ht3 : ∀ g, hv'.ownBlock = some g → hv.ownBlock = some g ∨ w2.heap.size ≤ g)
    (h4 : w4.ownsRow W2.heap.size 49 35 tv' (j + 1) (((wl cs).take j).flatMap (tmsg c) ++ tmsg c k)) (hf4 : Fr (fun g => tv.ownBlock = some g) w3 w4) (ht4 : ∀ g, tv'.ownBlock = some g → tv.ownBlock = some g ∨ w3.heap.size ≤ g) : OutI W2 w4 c cs (j + 1) hv' tv' (R ++ [q.r.re v]) := by
  have hb := h.fr.size
  have hfr : Fr (fun _ => False) W2 w4 := by
    refine ((h.fr.trans0 hf2).trans hf3 (fun g hg e => ?_)).trans hf4 (fun g hg e => ?_)
    · have := (h.h.lt g e).1; omega
    · have := (h.t.lt g e).1; omega
  have hfld : ∀ {b n : Nat} {x : Value} {xs : List Value} {w0 : World}, w0.ownsRow b 79 5 x n xs → (∀ g, x.ownBlock = some g → w2.heap[g]? = w0.heap[g]? ∧ g < w2.heap.size) → w4.ownsRow b 79 5 x n xs := fun hr hk => ownsRow_of_block hr (fun g hg => by
    obtain ⟨k1, k2⟩ := hk g hg
    obtain ⟨cur, hc⟩ := own_blk hr hg
    have e2 : w2.heap[g]? = some (.cells cur 79) := k1.trans hc
    have n3 : ¬ hv.ownBlock = some g := fun e => by
      obtain ⟨c1, hc1⟩ := own_blk h.h e
      have := (hf2.block g (lt_of_block hc1) (fun h => h)).trans hc1
      rw [e2] at this
      simp at this
    have e3 := (hf3.block g k2 n3).trans e2
    have n4 : ¬ tv.ownBlock = some g := fun e => by
      obtain ⟨c1, hc1⟩ := own_blk h.t e
      have := (hf2.block g (lt_of_block hc1) (fun h => h)).trans hc1
      rw [e2] at this
      simp at this
    rw [hf4.block g (lt_of_block e3) n4, e3]
    exact hc.symm)
  have htk : (wl cs).take (j + 1) = (wl cs).take j ++ [k] := by rw [List.take_add_one, hk]; rfl
  refine ⟨hfr, ?_, ?_, fun g hg e => ?_, by simp [h.rl], fun i r hi => ?_⟩
  · rw [List.flatMap_append]
    simp only [List.flatMap_cons, List.flatMap_nil, List.append_nil]
    refine ownsRow_of_block h3 (fun g hg => hf4.block g (h3.lt g hg).2 (fun e => ?_))
    rcases ht3 g hg with e1 | e1
    · exact h.ap g e1 e
    · have := (h.t.lt g e).2
      have := hf2.size
      omega
  · rw [htk, List.flatMap_append]
    simpa using h4
  · rcases ht3 g hg with e1 | e1
    · rcases ht4 g e with e2 | e2
      · exact h.ap g e1 e2
      · have h5 := (h.h.lt g e1).2
        have h6 := hf2.size
        have h7 := hf3.size
        omega
    · rcases ht4 g e with e2 | e2
      · have h5 := (h.t.lt g e2).2
        have h6 := hf2.size
        omega
      · have h5 := (h3.lt g hg).2
        omega
  · by_cases e : i < R.length
    · rw [List.getElem?_append_left e] at hi
      obtain ⟨k', q', a1, a2, v', a3, a4⟩ := h.rr i r hi
      exact ⟨k', q', a1, a2, v', a3, hfld a4 (fun g hg => ⟨hf2.block g (a4.lt g hg).2 (fun h => h), Nat.lt_of_lt_of_le (a4.lt g hg).2 hf2.size⟩)⟩
    · have hil := (List.getElem?_eq_some_iff.1 hi).1
      simp at hil
      obtain rfl : i = R.length := by omega
      rw [List.getElem?_concat_length] at hi
      cases hi
      rw [h.rl]
      exact ⟨k, q, hk, hq, v, rfl, ownsRow_base (hfld hv2 (fun g hg => ⟨rfl, (hv2.lt g hg).2⟩)) hb⟩
def lenSl : Value → Nat
  | .slice _ n _ => n
  | _ => 0
/-- What is left of the ids. -/
def LeftI (lv : Value) (g n cap j : Nat) : Prop := (j < n ∧ lv = .slice (some ⟨g, 2 * j, none⟩) (n - j) (cap - j)) ∨ (j = n ∧ ∃ lo lc, lv = .slice lo 0 lc)
theorem LeftI.len {lv : Value} {g n cap j : Nat} (h : LeftI lv g n cap j) : lenSl lv = n - j := by
  rcases h with ⟨h1, rfl⟩ | ⟨h1, lo, lc, rfl⟩
  · rfl
  · simp [lenSl]; omega
/-- What holds at the label. -/
def OutJ (W2 : World) (d c g cap : Nat) (cs : List SC) (a : Act) (wr : World) : Prop :=
  ∃ (j : Nat) (hv tv lv : Value) (R : List RQ) (u1 u5 u6 u7 u8 u9 u10 u11 u12 u13 u14 u15 u16 u17 u18 u19 u20 u21 u22 u23 u24 u25 u26 u27 u28 u29 u30 u31 u32 u33 u34 : Value), a = { tmps := #[.pointer (some ⟨d, 0, none⟩), u1, hv, tv, lv, u5, u6, u7, u8, u9, u10, u11, u12, u13, u14, u15, u16, u17, u18, u19, u20, u21, u22, u23, u24, u25, u26, u27, u28, u29, u30, u31, u32, u33, u34], defers := [] } ∧ j ≤ (wl cs).length ∧ OutI W2 wr c cs j hv tv R ∧ LeftI lv g (wl cs).length cap j
def muO (a : Act) (_ : World) : Nat := lenSl (a.tmps.getD 4 undef)
end Go.Proofs.Ytfaponkpgcdgkaa
