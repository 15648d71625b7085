import GoSem.Core.Float
import Derived.Laws.NewFold
import GoSem.Builtin.Min
import GoSem.Builtin.Max
namespace Go.Proofs.Ytkiepcdncegniaa
/-- What a word stands for, where it is a number. -/
theorem rd_num (x : Nat) (hf : x % 2147483648 < 2139095040) : ∃ m k : Nat, Ieee.single.read x = .number (x / 2147483648 % 2 == 1) m (-149 + (k : Int)) ∧ k ≤ 253 ∧ m ≤ 16777215 ∧ (m = 0 ↔ x % 2147483648 = 0) ∧ (k = 253 ∧ m = 16777215 → x % 2147483648 = 2139095039) := by
  have e : Ieee.single.read x = if x % 2147483648 < 8388608 then Ieee.Datum.number (x / 2147483648 % 2 == 1) (x % 2147483648) (-149) else if x % 2147483648 < 2139095040 then Ieee.Datum.number (x / 2147483648 % 2 == 1) (8388608 + x % 2147483648 % 8388608) (-149 + ((x % 2147483648 / 8388608 - 1 : Nat) : Int)) else if x % 2147483648 = 2139095040 then .infinity (x / 2147483648 % 2 == 1) else .nan (x / 2147483648 % 2 == 1) (x % 2147483648 - 2139095040) := rfl
  rw [e]
  generalize x % 2147483648 = r at *
  by_cases h : r < 8388608
  · rw [if_pos h]
    exact ⟨r, 0, rfl, by omega, by omega, Iff.rfl, by omega⟩
  · rw [if_neg h, if_pos hf]
    refine ⟨8388608 + r % 8388608, r / 8388608 - 1, rfl, by omega, by omega, by omega, by omega⟩
theorem shl_ge (a k : Nat) : a ≤ a <<< k := by rw [Nat.shiftLeft_eq]; exact Nat.le_mul_of_pos_right a (Nat.two_pow_pos k)
theorem shl_gt (a k : Nat) (ha : 0 < a) (hk : 0 < k) : a < a <<< k := by
  rw [Nat.shiftLeft_eq]
  have : 2 ^ 1 ≤ 2 ^ k := Nat.pow_le_pow_right (by decide) hk
  have := Nat.mul_le_mul_left a this
  omega
theorem ord_hi (x : Nat) (hf : x % 2147483648 < 2139095040) : Ieee.single.order x 2139095039 = some (if x % 4294967296 = 2139095039 then .eq else .lt) := by
  obtain ⟨m, k, e, hk, hm, _, hx⟩ := rd_num x hf
  have eh : Ieee.single.read 2139095039 = .number false 16777215 104 := by decide
  show (Ieee.single.read x).order (Ieee.single.read 2139095039) = _
  rw [e, eh]
  show some (compare (Ieee.signed _ m ((-149 + (k : Int)) - min (-149 + (k : Int)) 104).toNat) (Ieee.signed false 16777215 (104 - min (-149 + (k : Int)) 104).toNat)) = _
  have e1 : min (-149 + (k : Int)) 104 = -149 + (k : Int) := by omega
  rw [e1, show (-149 + (k : Int)) - (-149 + (k : Int)) = 0 by omega]
  have e2 : (104 - (-149 + (k : Int))).toNat = 253 - k := by omega
  rw [e2]
  simp only [Ieee.signed, Int.toNat_zero, Nat.shiftLeft_zero, Bool.false_eq_true, if_false]
  have hge := shl_ge 16777215 (253 - k)
  by_cases hn : (x / 2147483648 % 2 == 1) = true
  · rw [if_pos hn]
    have hn' : x / 2147483648 % 2 = 1 := by simpa using hn
    rw [if_neg (by omega)]
    congr 1
    rw [Int.compare_eq_lt]
    omega
  · rw [if_neg hn]
    have hn' : x / 2147483648 % 2 = 0 := by
      have : ¬ x / 2147483648 % 2 = 1 := by simpa using hn
      omega
    by_cases hq : k = 253 ∧ m = 16777215
    · have := hx hq
      obtain ⟨rfl, rfl⟩ := hq
      rw [if_pos (by omega)]
      congr 1
    · congr 1
      have hlt : m < 16777215 <<< (253 - k) := by
        by_cases h1 : k = 253
        · have : m ≠ 16777215 := fun e => hq ⟨h1, e⟩
          omega
        · have := shl_gt 16777215 (253 - k) (by decide) (by omega)
          omega
      have hne : ¬ x % 4294967296 = 2139095039 := fun h => by
        have hr : x % 2147483648 = 2139095039 := by omega
        have er : Ieee.single.read x = Ieee.single.read 2139095039 := by
          show (if x % 2147483648 < 8388608 then Ieee.Datum.number (x / 2147483648 % 2 == 1) (x % 2147483648) (-149) else if x % 2147483648 < 2139095040 then Ieee.Datum.number (x / 2147483648 % 2 == 1) (8388608 + x % 2147483648 % 8388608) (-149 + ((x % 2147483648 / 8388608 - 1 : Nat) : Int)) else if x % 2147483648 = 2139095040 then .infinity (x / 2147483648 % 2 == 1) else .nan (x / 2147483648 % 2 == 1) (x % 2147483648 - 2139095040)) = _
          rw [hr, hn']
          decide
        rw [e, eh] at er
        injection er with _ h1 h2
        exact hq ⟨by omega, h1⟩
      rw [if_neg hne, Int.compare_eq_lt]
      omega
theorem rd_eq (x : Nat) : Ieee.single.read x = if x % 2147483648 < 8388608 then Ieee.Datum.number (x / 2147483648 % 2 == 1) (x % 2147483648) (-149) else if x % 2147483648 < 2139095040 then Ieee.Datum.number (x / 2147483648 % 2 == 1) (8388608 + x % 2147483648 % 8388608) (-149 + ((x % 2147483648 / 8388608 - 1 : Nat) : Int)) else if x % 2147483648 = 2139095040 then .infinity (x / 2147483648 % 2 == 1) else .nan (x / 2147483648 % 2 == 1) (x % 2147483648 - 2139095040) := rfl
theorem ord_lo (x : Nat) (hf : x % 2147483648 < 2139095040) : Ieee.single.order x 4286578687 = some (if x % 4294967296 = 4286578687 then .eq else .gt) := by
  obtain ⟨m, k, e, hk, hm, _, hx⟩ := rd_num x hf
  have eh : Ieee.single.read 4286578687 = .number true 16777215 104 := by decide
  show (Ieee.single.read x).order (Ieee.single.read 4286578687) = _
  rw [e, eh]
  show some (compare (Ieee.signed _ m ((-149 + (k : Int)) - min (-149 + (k : Int)) 104).toNat) (Ieee.signed true 16777215 (104 - min (-149 + (k : Int)) 104).toNat)) = _
  have e1 : min (-149 + (k : Int)) 104 = -149 + (k : Int) := by omega
  rw [e1, show (-149 + (k : Int)) - (-149 + (k : Int)) = 0 by omega]
  have e2 : (104 - (-149 + (k : Int))).toNat = 253 - k := by omega
  rw [e2]
  simp only [Ieee.signed, Int.toNat_zero, Nat.shiftLeft_zero, if_true]
  have hge := shl_ge 16777215 (253 - k)
  by_cases hn : (x / 2147483648 % 2 == 1) = true
  · rw [if_pos hn]
    have hn' : x / 2147483648 % 2 = 1 := by simpa using hn
    by_cases hq : k = 253 ∧ m = 16777215
    · have := hx hq
      obtain ⟨rfl, rfl⟩ := hq
      rw [if_pos (by omega)]
      congr 1
    · congr 1
      have hlt : m < 16777215 <<< (253 - k) := by
        by_cases h1 : k = 253
        · have : m ≠ 16777215 := fun e => hq ⟨h1, e⟩
          omega
        · have := shl_gt 16777215 (253 - k) (by decide) (by omega)
          omega
      have hne : ¬ x % 4294967296 = 4286578687 := fun h => by
        have hr : x % 2147483648 = 2139095039 := by omega
        have er : Ieee.single.read x = Ieee.single.read 4286578687 := by
          rw [rd_eq x, hr, hn']
          decide
        rw [e, eh] at er
        injection er with _ h1 h2
        exact hq ⟨by omega, h1⟩
      rw [if_neg hne, Int.compare_eq_gt]
      omega
  · rw [if_neg hn]
    have hn' : x / 2147483648 % 2 = 0 := by
      have : ¬ x / 2147483648 % 2 = 1 := by simpa using hn
      omega
    rw [if_neg (by omega)]
    congr 1
    rw [Int.compare_eq_gt]
    omega
theorem ord_self (x : Nat) (hf : x % 2147483648 < 2139095040) : Ieee.single.order x x = some .eq := by
  obtain ⟨m, k, e, _⟩ := rd_num x hf
  show (Ieee.single.read x).order (Ieee.single.read x) = _
  rw [e]
  simp [Ieee.Datum.order]
theorem ord_zero (x : Nat) (hf : x % 2147483648 < 2139095040) : (Ieee.single.order x 0 == some .eq) = decide (x % 2147483648 = 0) := by
  obtain ⟨m, k, e, hk, hm, h0, _⟩ := rd_num x hf
  have eh : Ieee.single.read 0 = .number false 0 (-149) := by decide
  show ((Ieee.single.read x).order (Ieee.single.read 0) == _) = _
  rw [e, eh]
  show (some (compare (Ieee.signed _ m ((-149 + (k : Int)) - min (-149 + (k : Int)) (-149)).toNat) (Ieee.signed false 0 (-149 - min (-149 + (k : Int)) (-149)).toNat)) == some .eq) = _
  have e1 : min (-149 + (k : Int)) (-149) = -149 := by omega
  rw [e1, show ((-149 + (k : Int)) - -149).toNat = k by omega]
  simp only [Ieee.signed, Nat.zero_shiftLeft, Bool.false_eq_true, if_false]
  have hge := shl_ge m k
  by_cases hm0 : m = 0
  · have := h0.1 hm0
    subst hm0
    rw [decide_eq_true this]
    simp
  · have hx0 : ¬ x % 2147483648 = 0 := fun e => hm0 (h0.2 e)
    rw [decide_eq_false hx0]
    have : compare (if (x / 2147483648 % 2 == 1) = true then -((m <<< k : Nat) : Int) else ((m <<< k : Nat) : Int)) ((0 : Nat) : Int) ≠ .eq := by
      rw [Ne, Int.compare_eq_eq]
      split <;> omega
    simpa using this
theorem ord_nan_l (x y : Nat) (h : 2139095040 < x % 2147483648) : Ieee.single.order x y = none := by
  show (Ieee.single.read x).order (Ieee.single.read y) = _
  rw [rd_eq x, if_neg (by omega), if_neg (by omega), if_neg (by omega)]
  rfl
theorem ord_nan_r (x y : Nat) (h : 2139095040 < y % 2147483648) : Ieee.single.order x y = none := by
  show (Ieee.single.read x).order (Ieee.single.read y) = _
  rw [rd_eq y, if_neg (by omega), if_neg (by omega), if_neg (by omega)]
  cases Ieee.single.read x <;> rfl
theorem rd_inf (x : Nat) (h : x % 2147483648 = 2139095040) : Ieee.single.read x = .infinity (x / 2147483648 % 2 == 1) := by
  rw [rd_eq x, if_neg (by omega), if_neg (by omega), if_pos h]
theorem neg_of (x : Nat) : (Ieee.single.read x).neg = (x / 2147483648 % 2 == 1) := by
  rw [rd_eq x]
  split
  · rfl
  · split
    · rfl
    · split <;> rfl
/-- A NaN that was drawn. -/
theorem cut_nan (m : Bool) (x y t : Nat) : 2139095040 < (Question.nanMinMax .f32 m x y).cut t % 2147483648 := by
  show 2139095040 < (t % 2 * 2147483648 + 2139095040 + 1 + t / 2 % 8388607) % 2147483648
  have h := Nat.mod_lt (t / 2) (show 0 < 8388607 by decide)
  generalize t / 2 % 8388607 = q at h
  generalize t % 2 = p
  rw [show p * 2147483648 + 2139095040 + 1 + q = (2139095041 + q) + 2147483648 * p by omega, Nat.add_mul_mod_self_left, Nat.mod_eq_of_lt (by omega)]
  omega
theorem run_max_fin (P : Program) (w : World) (a : Array TypeId) (ty : TypeId) (x : Nat) (hx : x < 4294967296) (hf : x % 2147483648 < 2139095040) : (Builtin.max_ a ty #[.float .f32 x, .float .f32 4286578687]).run P w = .ok (.float .f32 x) w := by
  have ho : FloatKind.f32.format.order x 4286578687 = some (if x % 4294967296 = 4286578687 then .eq else .gt) := ord_lo x hf
  rw [Nat.mod_eq_of_lt hx] at ho
  show (Builtin.max2 (.float .f32 x) (.float .f32 4286578687) >>= pure).run P w = _
  unfold Builtin.max2
  simp only [ho]
  by_cases e : x = 4286578687
  · subst e
    have en : (FloatKind.f32.decode 4286578687).neg = true := by decide
    simp only [if_true, en]
    rfl
  · simp only [if_neg e]
    rfl
theorem run_min_fin (P : Program) (w : World) (a : Array TypeId) (ty : TypeId) (x : Nat) (hx : x < 4294967296) (hf : x % 2147483648 < 2139095040) : (Builtin.min_ a ty #[.float .f32 x, .float .f32 2139095039]).run P w = .ok (.float .f32 x) w := by
  have ho : FloatKind.f32.format.order x 2139095039 = some (if x % 4294967296 = 2139095039 then .eq else .lt) := ord_hi x hf
  rw [Nat.mod_eq_of_lt hx] at ho
  show (Builtin.min2 (.float .f32 x) (.float .f32 2139095039) >>= pure).run P w = _
  unfold Builtin.min2
  simp only [ho]
  by_cases e : x = 2139095039
  · subst e
    have en : (FloatKind.f32.decode 2139095039).neg = false := by decide
    simp only [if_true, en]
    rfl
  · simp only [if_neg e]
    rfl
theorem run_max_nan (P : Program) (w : World) (a : Array TypeId) (ty : TypeId) (x y : Nat) (hf : 2139095040 < x % 2147483648) : ∃ z, 2139095040 < z % 2147483648 ∧ (Builtin.max_ a ty #[.float .f32 x, .float .f32 y]).run P w = .ok (.float .f32 z) w.drew := by
  have ho : FloatKind.f32.format.order x y = none := ord_nan_l x y hf
  refine ⟨(Question.nanMinMax .f32 true x y).cut (w.tape w.drawn (Question.nanMinMax .f32 true x y)), cut_nan _ _ _ _, ?_⟩
  show (Builtin.max2 (.float .f32 x) (.float .f32 y) >>= pure).run P w = _
  unfold Builtin.max2
  simp only [ho]
  simp [Question.forced]
theorem run_min_nan (P : Program) (w : World) (a : Array TypeId) (ty : TypeId) (x y : Nat) (hf : 2139095040 < x % 2147483648) : ∃ z, 2139095040 < z % 2147483648 ∧ (Builtin.min_ a ty #[.float .f32 x, .float .f32 y]).run P w = .ok (.float .f32 z) w.drew := by
  have ho : FloatKind.f32.format.order x y = none := ord_nan_l x y hf
  refine ⟨(Question.nanMinMax .f32 false x y).cut (w.tape w.drawn (Question.nanMinMax .f32 false x y)), cut_nan _ _ _ _, ?_⟩
  show (Builtin.min2 (.float .f32 x) (.float .f32 y) >>= pure).run P w = _
  unfold Builtin.min2
  simp only [ho]
  simp [Question.forced]
/-- An infinity comes out as a bound. -/
theorem run_max_inf (P : Program) (w : World) (a : Array TypeId) (ty : TypeId) (b : Bool) : (Builtin.max_ a ty #[.float .f32 (if b then 4286578688 else 2139095040), .float .f32 4286578687]).run P w = .ok (.float .f32 (if b then 4286578687 else 2139095040)) w := by
  cases b <;> rfl
theorem run_min_inf (P : Program) (w : World) (a : Array TypeId) (ty : TypeId) (b : Bool) : (Builtin.min_ a ty #[.float .f32 (if b then 4286578687 else 2139095040), .float .f32 2139095039]).run P w = .ok (.float .f32 (if b then 4286578687 else 2139095039)) w := by
  cases b <;> rfl
end Go.Proofs.Ytkiepcdncegniaa
