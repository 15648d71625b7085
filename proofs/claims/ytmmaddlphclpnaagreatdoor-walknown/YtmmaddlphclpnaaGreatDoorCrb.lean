import Derived.Test.YtmmaddlphclpnaaGreatDoorBase
import Derived.Test.YtmmaddlphclpnaaGreatDoorCra
import Derived.WalkKit
import Derived.BigQuiet
import Derived.Deep.QuietTactic
import Derived.KernelRfl
import Derived.Laws.BitsAllLaws
namespace Go.Proofs.YtmmaddlphclpnaaGreatDoor
open Go.RowKit

theorem and_1 (c : Nat) (h : c < 4294967296) : bits .and .u32 (c : Int) 1 = ((c % 2 : Nat) : Int) := by
  rw [show (1 : Int) = ((1 : Nat) : Int) from rfl, u32_and_nat _ _ h (by decide), show (1 : Nat) = 2 ^ 1 - 1 from rfl, Nat.and_two_pow_sub_one_eq_mod]
theorem xor_P (c : Nat) (h : c < 4294967296) : bits .xor .u32 ((c : Int) / 2) 2197175160 = ((c / 2 ^^^ 2197175160 : Nat) : Int) := by
  rw [show (2197175160 : Int) = ((2197175160 : Nat) : Int) from rfl, show (c : Int) / 2 = ((c / 2 : Nat) : Int) by omega, u32_xor_nat _ _ (by omega) (by decide)]
theorem timesX_any (c : Nat) (w : World) (hc : c < 4294967296) : Calls Tryz.prog 148 #[.int .u32 c] w fun e w' => e = .returned (.int .u32 (X c : Nat)) ∧ w' = w := by
  have ha := and_1 c hc
  have hx := xor_P c hc
  by_cases h : c % 2 = 1
  · have h1 : ((c % 2 : Nat) : Int) = 1 := by omega
    rw [h1] at ha
    go_enter Tryz.func148, Tryz.ntmps148
    go_wp2
    go_ret
    exact ⟨by rw [X, if_pos h]; rfl, rfl⟩
  · have h1 : ((c % 2 : Nat) : Int) = 0 := by omega
    rw [h1] at ha
    go_enter Tryz.func148, Tryz.ntmps148
    go_wp2
    go_ret
    exact ⟨by rw [X, if_neg h]; rfl, rfl⟩
theorem bit_any (c : Nat) (w : World) (hc : c < 4294967296) : Calls Tryz.prog 109 #[.int .u32 c] w fun e w' => e = .returned (.int .u32 (X c : Nat)) ∧ w' = w := by
  have hx := xor_P c hc
  by_cases h : c % 2 = 1
  · have h1 : (c : Int) % 2 = 1 := by omega
    go_enter Tryz.func109, Tryz.ntmps109
    go_wp2
    go_ret
    exact ⟨by rw [X, if_pos h]; rfl, rfl⟩
  · have h1 : (c : Int) % 2 = 0 := by omega
    go_enter Tryz.func109, Tryz.ntmps109
    go_wp2
    go_ret
    exact ⟨by rw [X, if_neg h]; rfl, rfl⟩
end Go.Proofs.YtmmaddlphclpnaaGreatDoor
