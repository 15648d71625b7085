import Derived.Test.YtcpbmphknonflaaGreatDoorFai
namespace Go.Proofs.YtcpbmphknonflaaGreatDoor
open Go.RowKit

theorem and_exp (x : Nat) : x &&& 2139095040 = x / 8388608 % 256 * 8388608 := by
  have e1 : (2139095040 : Nat) = (2 ^ 8 - 1) * 2 ^ 23 := by decide
  have e2 : x / 8388608 % 256 * 8388608 = x / 2 ^ 23 % 2 ^ 8 * 2 ^ 23 := rfl
  rw [e1, e2]
  apply Nat.eq_of_testBit_eq
  intro i
  rw [Nat.testBit_and, Nat.testBit_mul_two_pow, Nat.testBit_mul_two_pow, Nat.testBit_two_pow_sub_one, Nat.testBit_mod_two_pow, Nat.testBit_div_two_pow]
  by_cases h : 23 ≤ i
  · rw [show i - 23 + 23 = i from by omega]
    simp [h, Bool.and_comm]
  · simp [h]
theorem quantB_eq (x : Nat) : quantB x = ((x / 8388608 % 256 != 255) && (x != 2147483648)) := by
  unfold quantB
  rw [and_exp, Bool.eq_iff_iff]
  simp
  omega

/-- The ref's Quantity is quantB. -/
theorem gquant_any (x : Nat) (w : World) (hx : x < 18446744073709551616) : Calls Tryz.prog 123 #[.int .u64 x] w fun e w' => e = .returned (.bool (quantB x)) ∧ w' = w := by
  rw [quantB_eq]
  have hw : IntKind.u64.wrap ((x : Int) / 8388608) = ((x / 8388608 : Nat) : Int) := by rw [IntKind.wrap_u64]; omega
  by_cases h : (x : Int) / 8388608 % 256 = 255
  · have h2 : x / 8388608 % 256 = 255 := by omega
    go_enter Tryz.func123, Tryz.ntmps123
    go_wp2
    all_goals
      go_ret
      refine ⟨congrArg (fun b => Ending.returned (.bool b)) ?_, rfl⟩
      simp [h2]
  · have h2 : ¬ x / 8388608 % 256 = 255 := by omega
    have e2 : ((x : Int) != 2147483648) = (x != 2147483648) := by rw [Bool.eq_iff_iff]; simp; omega
    have e1 : ((x : Int) / 8388608 % 256 != 255) = true := by simp [h]
    go_enter Tryz.func123, Tryz.ntmps123
    go_wp2
    all_goals
      go_ret
      refine ⟨congrArg (fun b => Ending.returned (.bool b)) ?_, rfl⟩
      simp [h2]
end Go.Proofs.YtcpbmphknonflaaGreatDoor
