import Derived.Test.YtebipmknlgcnaabCsb
namespace Go.Proofs.Ytebipmknlgcnaab
open Go.RowKit

theorem up_split (l : List Nat) (c : Nat) : Up c l = Xn (8 * l.length) c ^^^ Up 0 l := by
  induction l generalizing c with
  | nil => exact (Nat.xor_zero c).symm
  | cons x l ih =>
    show Up (By c x) l = Xn (8 * (l.length + 1)) c ^^^ Up (By 0 x) l
    rw [ih (By c x), ih (By 0 x), By, By, Nat.zero_xor, Xn_xor, Xn_xor, Nat.mul_succ, Nat.add_comm, Xn_add, Nat.xor_assoc]
theorem up_xor (l : List Nat) (a b : Nat) : Up (a ^^^ b) l = Up a l ^^^ Xn (8 * l.length) b := by
  rw [up_split l (a ^^^ b), up_split l a, Xn_xor, Nat.xor_assoc, Nat.xor_assoc, Nat.xor_comm (Up 0 l)]
theorem up_app (c : Nat) (a b : List Nat) : Up c (a ++ b) = Up (Up c a) b := by rw [Up, List.foldl_append]; rfl
/-- A byte is turned. -/
theorem up_flip (c : Nat) (l1 l2 : List Nat) (y v : Nat) : Up c (l1 ++ (y ^^^ v) :: l2) = Up c (l1 ++ y :: l2) ^^^ Xn (8 * l2.length + 8) v := by
  rw [up_app, up_app]
  show Up (By (Up c l1) (y ^^^ v)) l2 = Up (By (Up c l1) y) l2 ^^^ _
  have e : By (Up c l1) (y ^^^ v) = By (Up c l1) y ^^^ Xn 8 v := by rw [By, By, ← Nat.xor_assoc, Xn_xor]
  rw [e, up_xor, Nat.add_comm (8 * l2.length) 8, Xn_add]
theorem Xn_two (e : Nat) (h : e ≤ 31) : Xn e 2147483648 = 2 ^ (31 - e) := by
  have : ∀ e, e ≤ 31 → Xn e 2147483648 = 2 ^ (31 - e) := by decide +kernel
  exact this e h
theorem X_zero_iff (c : Nat) (h : c < 4294967296) (hx : X c = 0) : c = 0 := by
  unfold X at hx
  by_cases ho : c % 2 = 1
  · rw [if_pos ho] at hx
    have h2 : c / 2 = 2197175160 := by
      have := congrArg (fun z => z ^^^ 2197175160) hx
      simpa [Nat.xor_assoc] using this
    omega
  · rw [if_neg ho] at hx; omega
theorem Xn_zero_iff (n c : Nat) (h : c < 4294967296) (hx : Xn n c = 0) : c = 0 := by
  induction n generalizing c with
  | zero => exact hx
  | succ n ih => exact X_zero_iff c h (ih (X c) (X_lt c h) hx)
/-- The list with the bit at the place 8 j + r turned. -/
theorem set_flip (c : Nat) (l : List Nat) (j r : Nat) (hj : j < l.length) (hr : r < 8) (y : Nat) (hy : l.getD j 0 = y) : Up c (l.set j (y ^^^ 2 ^ r)) = Up c l ^^^ Xn (8 * l.length - (8 * j + r) + 31) 2147483648 := by
  have e1 : l = l.take j ++ y :: l.drop (j + 1) := by
    rw [← hy, List.getD, List.getElem?_eq_getElem hj, Option.getD_some, List.getElem_cons_drop hj, List.take_append_drop]
  have e2 : l.set j (y ^^^ 2 ^ r) = l.take j ++ (y ^^^ 2 ^ r) :: l.drop (j + 1) := List.set_eq_take_append_cons_drop.trans (if_pos hj)
  have e3 : 2 ^ r = Xn (31 - r) 2147483648 := by rw [Xn_two (31 - r) (by omega)]; congr 1; omega
  rw [e2, up_flip, ← e1, e3, ← Xn_add, List.length_drop]
  congr 2
  omega
/-- What the turned bits are worth: before, and with one more. -/
theorem flip_worth (V M m i : Nat) (hm : m ≤ 31) (hi : i ≤ m) (hM : m < M) (hV : V < 2 ^ (31 - m + i)) :
    Xn (M - m + 31) V ^^^ Xn (M - i + 31) 2147483648 = Xn (M - m + 31) (V ^^^ 2 ^ (31 - m + i)) ∧ V ^^^ 2 ^ (31 - m + i) < 2 ^ (31 - m + (i + 1)) ∧ V ^^^ 2 ^ (31 - m + i) ≠ 0 := by
  have e1 : Xn (M - i + 31) 2147483648 = Xn (M - m + 31) (2 ^ (31 - m + i)) := by
    have e2 : 2 ^ (31 - m + i) = Xn (m - i) 2147483648 := by rw [Xn_two (m - i) (by omega)]; congr 1; omega
    rw [e2, ← Xn_add]
    congr 1
    omega
  refine ⟨by rw [e1, Xn_xor], ?_, ?_⟩
  · exact Nat.xor_lt_two_pow (Nat.lt_trans hV (Nat.pow_lt_pow_right (by decide) (by omega))) (Nat.pow_lt_pow_right (by decide) (by omega))
  · intro h
    have : V = 2 ^ (31 - m + i) := by
      have h2 := congrArg (fun z => z ^^^ 2 ^ (31 - m + i)) h
      simpa [Nat.xor_assoc] using h2
    omega
theorem burst_ne (V M m p q : Nat) (hV : V < 4294967296) (h0 : V ≠ 0) (h : p = q ^^^ Xn (M - m + 31) V) : p ^^^ 4294967295 ≠ q ^^^ 4294967295 := by
  intro e
  have e2 : p = q := by
    have h2 := congrArg (fun z => z ^^^ 4294967295) e
    simpa [Nat.xor_assoc] using h2
  rw [e2] at h
  have h3 : Xn (M - m + 31) V = 0 := by
    have h2 := congrArg (fun z => q ^^^ z) h
    simp only [Nat.xor_self] at h2
    rw [← Nat.xor_assoc, Nat.xor_self, Nat.zero_xor] at h2
    exact h2.symm
  exact h0 (Xn_zero_iff _ V hV h3)
end Go.Proofs.Ytebipmknlgcnaab
