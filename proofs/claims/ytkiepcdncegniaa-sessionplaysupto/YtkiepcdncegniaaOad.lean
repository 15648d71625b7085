import Derived.Test.YtkiepcdncegniaaOac
namespace Go.Proofs.Ytkiepcdncegniaa
open Go.RowKit

theorem within_any (x : Nat) (w : World) (hx : x < 4294967296) :
    Calls Try.prog 80 #[.float .f32 x, .float .f32 4286578687, .float .f32 2139095039] w fun e w' => e = .returned (.bool (decide (x % 2147483648 < 2139095040))) ∧ ∃ q, w' = w.drewN q := by
  by_cases h1 : x % 2147483648 < 2139095040
  · rw [decide_eq_true h1]
    refine (within_fin x w hx h1).mono ?_
    rintro e w' ⟨rfl, rfl⟩
    exact ⟨rfl, 0, rfl⟩
  · rw [decide_eq_false h1]
    by_cases h2 : x % 2147483648 = 2139095040
    · obtain ⟨b, rfl⟩ : ∃ b : Bool, x = if b then 4286578688 else 2139095040 := by
        by_cases h3 : x < 2147483648
        · exact ⟨false, by simp; omega⟩
        · exact ⟨true, by simp; omega⟩
      refine (within_inf b w).mono ?_
      rintro e w' ⟨rfl, rfl⟩
      exact ⟨rfl, 0, rfl⟩
    · exact within_nan x w (by omega)
set_option maxRecDepth 100000 in
theorem isNumber_any (x : Nat) (w : World) (hx : x < 4294967296) :
    Calls Try.prog 78 #[.float .f32 x] w fun e w' => e = .returned (.bool (decide (x % 2147483648 < 2139095040))) ∧ ∃ q, w' = w.drewN q := by
  have hw := within_any x w hx
  generalize decide (x % 2147483648 < 2139095040) = B at *
  go_enter Try.func78, Try.ntmps78
  go_wp2_with fail
  refine hw.mono ?_
  rintro e w1 ⟨rfl, q, rfl⟩
  go_wp2_with fail
  go_ret
  exact ⟨rfl, q, rfl⟩
set_option maxRecDepth 100000 in
/-- isCanon. -/
theorem isCanon_any (x : Nat) (w : World) (hx : x < 4294967296) :
    Calls Try.prog 60 #[.float .f32 x] w fun e w' => e = .returned (.bool (canB x)) ∧ ∃ q, w' = w.drewN q := by
  have hq := Try.feq
  have hfb := Try.fbitsO
  by_cases h1 : x % 2147483648 < 2139095040
  · by_cases h2 : x % 2147483648 = 0
    · have HC : Calls Try.prog 72 #[.float .f32 x] w fun e w' => e = .returned (.tuple #[.float .f32 0, .int .i64 0]) ∧ ∃ q, w' = w.drewN q := by
        have hz : Op.floatEq .f32 x 0 = true := by
          have := ord_zero x h1
          show (Ieee.single.order x 0 == some .eq) = true
          rw [this, decide_eq_true h2]
        go_enter Try.func72, Try.ntmps72
        go_wp2_with fail
        refine (isNumber_any x _ hx).mono ?_
        rintro e w1 ⟨rfl, q, rfl⟩
        rw [decide_eq_true h1]
        go_wp2_with fail
        go_ret2
        exact ⟨rfl, q, rfl⟩
      have HC := hide HC
      by_cases h3 : x = 0
      · subst h3
        rw [show canB 0 = true by decide]
        go_enter Try.func60, Try.ntmps60
        go_wp2_with fail
        refine (unhide HC).mono ?_
        rintro e w1 ⟨rfl, q, rfl⟩
        go_wp2_with fail
        go_ret
        exact ⟨rfl, q, rfl⟩
      · have h4 : ((0 : Int) == (x : Int)) = false := by rw [beq_eq_false_iff_ne]; omega
        have h5 : canB x = false := by
          have : x = 2147483648 := by omega
          subst this
          decide
        rw [h5]
        go_enter Try.func60, Try.ntmps60
        go_wp2_with fail
        refine (unhide HC).mono ?_
        rintro e w1 ⟨rfl, q, rfl⟩
        go_wp2_with fail
        go_ret
        exact ⟨rfl, q, rfl⟩
    · have HC : Calls Try.prog 72 #[.float .f32 x] w fun e w' => e = .returned (.tuple #[.float .f32 x, .int .i64 0]) ∧ ∃ q, w' = w.drewN q := by
        have hz : Op.floatEq .f32 x 0 = false := by
          have := ord_zero x h1
          show (Ieee.single.order x 0 == some .eq) = false
          rw [this, decide_eq_false h2]
        go_enter Try.func72, Try.ntmps72
        go_wp2_with fail
        refine (isNumber_any x _ hx).mono ?_
        rintro e w1 ⟨rfl, q, rfl⟩
        rw [decide_eq_true h1]
        go_wp2_with fail
        go_ret2
        exact ⟨rfl, q, rfl⟩
      have HC := hide HC
      have h5 : canB x = true := by
        simp only [canB, decide_eq_true h1, Bool.true_and]
        exact decide_eq_true (by omega)
      rw [h5]
      go_enter Try.func60, Try.ntmps60
      go_wp2_with fail
      refine (unhide HC).mono ?_
      rintro e w1 ⟨rfl, q, rfl⟩
      go_wp2_with fail
      go_ret
      exact ⟨rfl, q, rfl⟩
  · have HC : Calls Try.prog 72 #[.float .f32 x] w fun e w' => (∃ c : Int, e = .returned (.tuple #[.float .f32 0, .int .i64 c]) ∧ ¬ c = 0) ∧ ∃ q, w' = w.drewN q := by
      go_enter Try.func72, Try.ntmps72
      go_wp2_with fail
      refine (isNumber_any x _ hx).mono ?_
      rintro e w1 ⟨rfl, q, rfl⟩
      rw [decide_eq_false h1]
      go_wp2_with fail
      go_ret2
      exact ⟨⟨_, rfl, by decide⟩, q, rfl⟩
    have HC := hide HC
    have h5 : canB x = false := by simp only [canB, decide_eq_false h1, Bool.false_and]
    rw [h5]
    go_enter Try.func60, Try.ntmps60
    go_wp2_with fail
    refine (unhide HC).mono ?_
    rintro e w1 ⟨⟨c, rfl, hc⟩, q, rfl⟩
    go_wp2_with fail
    go_ret
    exact ⟨rfl, q, rfl⟩
end Go.Proofs.Ytkiepcdncegniaa
