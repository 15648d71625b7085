import Derived.Test.YthccbfgjekdiiaaDoorBase
import Derived.WalkKit
import Derived.BigQuiet
import Derived.Deep.QuietTactic
import Derived.KernelRfl
import Derived.Laws.BitsAllLaws
namespace Go.Proofs.YthccbfgjekdiiaaDoor
open Go.RowKit

/-- A word of 32 bits, turned right. -/
def rr (x n : Nat) : Nat := (x * 2 ^ (32 - n) % 4294967296) ||| (x / 2 ^ n)
theorem rr_lt (x n : Nat) (hx : x < 4294967296) : rr x n < 4294967296 := by
  have h1 : x * 2 ^ (32 - n) % 4294967296 < 2 ^ 32 := Nat.mod_lt _ (by decide)
  have h2 : x / 2 ^ n < 2 ^ 32 := Nat.lt_of_le_of_lt (Nat.div_le_self _ _) hx
  exact Nat.or_lt_two_pow h1 h2

theorem or_all (a b : Nat) (ha : a < 4294967296) (hb : b < 18446744073709551616) : bits .and .u64 (bits .or .u64 (a : Int) (b : Int)) 4294967295 = ((b % 4294967296 ||| a : Nat) : Int) := by
  rw [u64_or_nat a b (by omega) hb, show (4294967295 : Int) = ((4294967295 : Nat) : Int) from rfl]
  have h2 : (a ||| b) < 2 ^ 64 := Nat.or_lt_two_pow (by omega) hb
  rw [u64_and_nat _ _ (by omega) (by decide)]
  have e : (a ||| b) &&& 4294967295 = b % 4294967296 ||| a := by
    rw [show (4294967295 : Nat) = 2 ^ 32 - 1 from rfl, Nat.and_two_pow_sub_one_eq_mod, Nat.or_mod_two_pow, Nat.mod_eq_of_lt (a := a) (by omega), Nat.or_comm]
  rw [e]

theorem rot_2 (x : Nat) (w : World) (hx : x < 4294967296) : Calls Tryd.prog 108 #[.int .u32 x, .int .i64 (-2)] w fun e w' => e = .returned (.int .u32 (rr x 2)) ∧ w' = w := by
  have hb : bits .and .u64 (IntKind.u64.wrap (-2)) 31 = 30 := by decide +kernel
  have e : bits .or .u32 ((x : Int) * 1073741824 % 4294967296) ((x : Int) / 4) = ((rr x 2 : Nat) : Int) := by
    have e1 : (x : Int) * 1073741824 % 4294967296 = ((x * 1073741824 % 4294967296 : Nat) : Int) := by omega
    have e2 : (x : Int) / 4 = ((x / 4 : Nat) : Int) := by omega
    rw [e1, e2, u32_or_nat _ _ (by omega) (by omega)]
    rfl
  go_enter Tryd.func108, Tryd.ntmps108
  go_wp2
  go_ret
  exact ⟨by first | rfl | rw [e], rfl⟩
theorem ror_2 (x : Nat) (w : World) (hx : x < 4294967296) : Calls Tryd.prog 100 #[.int .u32 x, .int .i64 2] w fun e w' => e = .returned (.int .u32 (rr x 2)) ∧ w' = w := by
  go_enter Tryd.func100, Tryd.ntmps100
  go_wp2_with fail
  refine (rot_2 x w hx).mono ?_
  rintro e w' ⟨rfl, rfl⟩
  go_wp2_with fail
  go_ret
  exact ⟨rfl, rfl⟩
theorem tur_2 (x : Nat) (w : World) (hx : x < 4294967296) : Calls Tryd.prog 110 #[.int .u64 x, .int .i64 2] w fun e w' => e = .returned (.int .u64 (rr x 2)) ∧ w' = w := by
  have e : bits .and .u64 (bits .or .u64 ((x : Int) / 4) ((x : Int) * 1073741824)) 4294967295 = ((rr x 2 : Nat) : Int) := by
    have e1 : (x : Int) * 1073741824 = ((x * 1073741824 : Nat) : Int) := by omega
    have e2 : (x : Int) / 4 = ((x / 4 : Nat) : Int) := by omega
    rw [e1, e2, or_all (x / 4) (x * 1073741824) (by omega) (by omega)]
    rfl
  go_enter Tryd.func110, Tryd.ntmps110
  go_wp2
  go_ret
  exact ⟨by first | rfl | rw [e], rfl⟩
theorem rot_6 (x : Nat) (w : World) (hx : x < 4294967296) : Calls Tryd.prog 108 #[.int .u32 x, .int .i64 (-6)] w fun e w' => e = .returned (.int .u32 (rr x 6)) ∧ w' = w := by
  have hb : bits .and .u64 (IntKind.u64.wrap (-6)) 31 = 26 := by decide +kernel
  have e : bits .or .u32 ((x : Int) * 67108864 % 4294967296) ((x : Int) / 64) = ((rr x 6 : Nat) : Int) := by
    have e1 : (x : Int) * 67108864 % 4294967296 = ((x * 67108864 % 4294967296 : Nat) : Int) := by omega
    have e2 : (x : Int) / 64 = ((x / 64 : Nat) : Int) := by omega
    rw [e1, e2, u32_or_nat _ _ (by omega) (by omega)]
    rfl
  go_enter Tryd.func108, Tryd.ntmps108
  go_wp2
  go_ret
  exact ⟨by first | rfl | rw [e], rfl⟩
theorem ror_6 (x : Nat) (w : World) (hx : x < 4294967296) : Calls Tryd.prog 100 #[.int .u32 x, .int .i64 6] w fun e w' => e = .returned (.int .u32 (rr x 6)) ∧ w' = w := by
  go_enter Tryd.func100, Tryd.ntmps100
  go_wp2_with fail
  refine (rot_6 x w hx).mono ?_
  rintro e w' ⟨rfl, rfl⟩
  go_wp2_with fail
  go_ret
  exact ⟨rfl, rfl⟩
theorem tur_6 (x : Nat) (w : World) (hx : x < 4294967296) : Calls Tryd.prog 110 #[.int .u64 x, .int .i64 6] w fun e w' => e = .returned (.int .u64 (rr x 6)) ∧ w' = w := by
  have e : bits .and .u64 (bits .or .u64 ((x : Int) / 64) ((x : Int) * 67108864)) 4294967295 = ((rr x 6 : Nat) : Int) := by
    have e1 : (x : Int) * 67108864 = ((x * 67108864 : Nat) : Int) := by omega
    have e2 : (x : Int) / 64 = ((x / 64 : Nat) : Int) := by omega
    rw [e1, e2, or_all (x / 64) (x * 67108864) (by omega) (by omega)]
    rfl
  go_enter Tryd.func110, Tryd.ntmps110
  go_wp2
  go_ret
  exact ⟨by first | rfl | rw [e], rfl⟩
theorem rot_7 (x : Nat) (w : World) (hx : x < 4294967296) : Calls Tryd.prog 108 #[.int .u32 x, .int .i64 (-7)] w fun e w' => e = .returned (.int .u32 (rr x 7)) ∧ w' = w := by
  have hb : bits .and .u64 (IntKind.u64.wrap (-7)) 31 = 25 := by decide +kernel
  have e : bits .or .u32 ((x : Int) * 33554432 % 4294967296) ((x : Int) / 128) = ((rr x 7 : Nat) : Int) := by
    have e1 : (x : Int) * 33554432 % 4294967296 = ((x * 33554432 % 4294967296 : Nat) : Int) := by omega
    have e2 : (x : Int) / 128 = ((x / 128 : Nat) : Int) := by omega
    rw [e1, e2, u32_or_nat _ _ (by omega) (by omega)]
    rfl
  go_enter Tryd.func108, Tryd.ntmps108
  go_wp2
  go_ret
  exact ⟨by first | rfl | rw [e], rfl⟩
theorem ror_7 (x : Nat) (w : World) (hx : x < 4294967296) : Calls Tryd.prog 100 #[.int .u32 x, .int .i64 7] w fun e w' => e = .returned (.int .u32 (rr x 7)) ∧ w' = w := by
  go_enter Tryd.func100, Tryd.ntmps100
  go_wp2_with fail
  refine (rot_7 x w hx).mono ?_
  rintro e w' ⟨rfl, rfl⟩
  go_wp2_with fail
  go_ret
  exact ⟨rfl, rfl⟩
theorem tur_7 (x : Nat) (w : World) (hx : x < 4294967296) : Calls Tryd.prog 110 #[.int .u64 x, .int .i64 7] w fun e w' => e = .returned (.int .u64 (rr x 7)) ∧ w' = w := by
  have e : bits .and .u64 (bits .or .u64 ((x : Int) / 128) ((x : Int) * 33554432)) 4294967295 = ((rr x 7 : Nat) : Int) := by
    have e1 : (x : Int) * 33554432 = ((x * 33554432 : Nat) : Int) := by omega
    have e2 : (x : Int) / 128 = ((x / 128 : Nat) : Int) := by omega
    rw [e1, e2, or_all (x / 128) (x * 33554432) (by omega) (by omega)]
    rfl
  go_enter Tryd.func110, Tryd.ntmps110
  go_wp2
  go_ret
  exact ⟨by first | rfl | rw [e], rfl⟩
theorem rot_11 (x : Nat) (w : World) (hx : x < 4294967296) : Calls Tryd.prog 108 #[.int .u32 x, .int .i64 (-11)] w fun e w' => e = .returned (.int .u32 (rr x 11)) ∧ w' = w := by
  have hb : bits .and .u64 (IntKind.u64.wrap (-11)) 31 = 21 := by decide +kernel
  have e : bits .or .u32 ((x : Int) * 2097152 % 4294967296) ((x : Int) / 2048) = ((rr x 11 : Nat) : Int) := by
    have e1 : (x : Int) * 2097152 % 4294967296 = ((x * 2097152 % 4294967296 : Nat) : Int) := by omega
    have e2 : (x : Int) / 2048 = ((x / 2048 : Nat) : Int) := by omega
    rw [e1, e2, u32_or_nat _ _ (by omega) (by omega)]
    rfl
  go_enter Tryd.func108, Tryd.ntmps108
  go_wp2
  go_ret
  exact ⟨by first | rfl | rw [e], rfl⟩
theorem ror_11 (x : Nat) (w : World) (hx : x < 4294967296) : Calls Tryd.prog 100 #[.int .u32 x, .int .i64 11] w fun e w' => e = .returned (.int .u32 (rr x 11)) ∧ w' = w := by
  go_enter Tryd.func100, Tryd.ntmps100
  go_wp2_with fail
  refine (rot_11 x w hx).mono ?_
  rintro e w' ⟨rfl, rfl⟩
  go_wp2_with fail
  go_ret
  exact ⟨rfl, rfl⟩
theorem tur_11 (x : Nat) (w : World) (hx : x < 4294967296) : Calls Tryd.prog 110 #[.int .u64 x, .int .i64 11] w fun e w' => e = .returned (.int .u64 (rr x 11)) ∧ w' = w := by
  have e : bits .and .u64 (bits .or .u64 ((x : Int) / 2048) ((x : Int) * 2097152)) 4294967295 = ((rr x 11 : Nat) : Int) := by
    have e1 : (x : Int) * 2097152 = ((x * 2097152 : Nat) : Int) := by omega
    have e2 : (x : Int) / 2048 = ((x / 2048 : Nat) : Int) := by omega
    rw [e1, e2, or_all (x / 2048) (x * 2097152) (by omega) (by omega)]
    rfl
  go_enter Tryd.func110, Tryd.ntmps110
  go_wp2
  go_ret
  exact ⟨by first | rfl | rw [e], rfl⟩
theorem rot_13 (x : Nat) (w : World) (hx : x < 4294967296) : Calls Tryd.prog 108 #[.int .u32 x, .int .i64 (-13)] w fun e w' => e = .returned (.int .u32 (rr x 13)) ∧ w' = w := by
  have hb : bits .and .u64 (IntKind.u64.wrap (-13)) 31 = 19 := by decide +kernel
  have e : bits .or .u32 ((x : Int) * 524288 % 4294967296) ((x : Int) / 8192) = ((rr x 13 : Nat) : Int) := by
    have e1 : (x : Int) * 524288 % 4294967296 = ((x * 524288 % 4294967296 : Nat) : Int) := by omega
    have e2 : (x : Int) / 8192 = ((x / 8192 : Nat) : Int) := by omega
    rw [e1, e2, u32_or_nat _ _ (by omega) (by omega)]
    rfl
  go_enter Tryd.func108, Tryd.ntmps108
  go_wp2
  go_ret
  exact ⟨by first | rfl | rw [e], rfl⟩
theorem ror_13 (x : Nat) (w : World) (hx : x < 4294967296) : Calls Tryd.prog 100 #[.int .u32 x, .int .i64 13] w fun e w' => e = .returned (.int .u32 (rr x 13)) ∧ w' = w := by
  go_enter Tryd.func100, Tryd.ntmps100
  go_wp2_with fail
  refine (rot_13 x w hx).mono ?_
  rintro e w' ⟨rfl, rfl⟩
  go_wp2_with fail
  go_ret
  exact ⟨rfl, rfl⟩
theorem tur_13 (x : Nat) (w : World) (hx : x < 4294967296) : Calls Tryd.prog 110 #[.int .u64 x, .int .i64 13] w fun e w' => e = .returned (.int .u64 (rr x 13)) ∧ w' = w := by
  have e : bits .and .u64 (bits .or .u64 ((x : Int) / 8192) ((x : Int) * 524288)) 4294967295 = ((rr x 13 : Nat) : Int) := by
    have e1 : (x : Int) * 524288 = ((x * 524288 : Nat) : Int) := by omega
    have e2 : (x : Int) / 8192 = ((x / 8192 : Nat) : Int) := by omega
    rw [e1, e2, or_all (x / 8192) (x * 524288) (by omega) (by omega)]
    rfl
  go_enter Tryd.func110, Tryd.ntmps110
  go_wp2
  go_ret
  exact ⟨by first | rfl | rw [e], rfl⟩
theorem rot_17 (x : Nat) (w : World) (hx : x < 4294967296) : Calls Tryd.prog 108 #[.int .u32 x, .int .i64 (-17)] w fun e w' => e = .returned (.int .u32 (rr x 17)) ∧ w' = w := by
  have hb : bits .and .u64 (IntKind.u64.wrap (-17)) 31 = 15 := by decide +kernel
  have e : bits .or .u32 ((x : Int) * 32768 % 4294967296) ((x : Int) / 131072) = ((rr x 17 : Nat) : Int) := by
    have e1 : (x : Int) * 32768 % 4294967296 = ((x * 32768 % 4294967296 : Nat) : Int) := by omega
    have e2 : (x : Int) / 131072 = ((x / 131072 : Nat) : Int) := by omega
    rw [e1, e2, u32_or_nat _ _ (by omega) (by omega)]
    rfl
  go_enter Tryd.func108, Tryd.ntmps108
  go_wp2
  go_ret
  exact ⟨by first | rfl | rw [e], rfl⟩
theorem ror_17 (x : Nat) (w : World) (hx : x < 4294967296) : Calls Tryd.prog 100 #[.int .u32 x, .int .i64 17] w fun e w' => e = .returned (.int .u32 (rr x 17)) ∧ w' = w := by
  go_enter Tryd.func100, Tryd.ntmps100
  go_wp2_with fail
  refine (rot_17 x w hx).mono ?_
  rintro e w' ⟨rfl, rfl⟩
  go_wp2_with fail
  go_ret
  exact ⟨rfl, rfl⟩
theorem tur_17 (x : Nat) (w : World) (hx : x < 4294967296) : Calls Tryd.prog 110 #[.int .u64 x, .int .i64 17] w fun e w' => e = .returned (.int .u64 (rr x 17)) ∧ w' = w := by
  have e : bits .and .u64 (bits .or .u64 ((x : Int) / 131072) ((x : Int) * 32768)) 4294967295 = ((rr x 17 : Nat) : Int) := by
    have e1 : (x : Int) * 32768 = ((x * 32768 : Nat) : Int) := by omega
    have e2 : (x : Int) / 131072 = ((x / 131072 : Nat) : Int) := by omega
    rw [e1, e2, or_all (x / 131072) (x * 32768) (by omega) (by omega)]
    rfl
  go_enter Tryd.func110, Tryd.ntmps110
  go_wp2
  go_ret
  exact ⟨by first | rfl | rw [e], rfl⟩
theorem rot_18 (x : Nat) (w : World) (hx : x < 4294967296) : Calls Tryd.prog 108 #[.int .u32 x, .int .i64 (-18)] w fun e w' => e = .returned (.int .u32 (rr x 18)) ∧ w' = w := by
  have hb : bits .and .u64 (IntKind.u64.wrap (-18)) 31 = 14 := by decide +kernel
  have e : bits .or .u32 ((x : Int) * 16384 % 4294967296) ((x : Int) / 262144) = ((rr x 18 : Nat) : Int) := by
    have e1 : (x : Int) * 16384 % 4294967296 = ((x * 16384 % 4294967296 : Nat) : Int) := by omega
    have e2 : (x : Int) / 262144 = ((x / 262144 : Nat) : Int) := by omega
    rw [e1, e2, u32_or_nat _ _ (by omega) (by omega)]
    rfl
  go_enter Tryd.func108, Tryd.ntmps108
  go_wp2
  go_ret
  exact ⟨by first | rfl | rw [e], rfl⟩
theorem ror_18 (x : Nat) (w : World) (hx : x < 4294967296) : Calls Tryd.prog 100 #[.int .u32 x, .int .i64 18] w fun e w' => e = .returned (.int .u32 (rr x 18)) ∧ w' = w := by
  go_enter Tryd.func100, Tryd.ntmps100
  go_wp2_with fail
  refine (rot_18 x w hx).mono ?_
  rintro e w' ⟨rfl, rfl⟩
  go_wp2_with fail
  go_ret
  exact ⟨rfl, rfl⟩
theorem tur_18 (x : Nat) (w : World) (hx : x < 4294967296) : Calls Tryd.prog 110 #[.int .u64 x, .int .i64 18] w fun e w' => e = .returned (.int .u64 (rr x 18)) ∧ w' = w := by
  have e : bits .and .u64 (bits .or .u64 ((x : Int) / 262144) ((x : Int) * 16384)) 4294967295 = ((rr x 18 : Nat) : Int) := by
    have e1 : (x : Int) * 16384 = ((x * 16384 : Nat) : Int) := by omega
    have e2 : (x : Int) / 262144 = ((x / 262144 : Nat) : Int) := by omega
    rw [e1, e2, or_all (x / 262144) (x * 16384) (by omega) (by omega)]
    rfl
  go_enter Tryd.func110, Tryd.ntmps110
  go_wp2
  go_ret
  exact ⟨by first | rfl | rw [e], rfl⟩
theorem rot_19 (x : Nat) (w : World) (hx : x < 4294967296) : Calls Tryd.prog 108 #[.int .u32 x, .int .i64 (-19)] w fun e w' => e = .returned (.int .u32 (rr x 19)) ∧ w' = w := by
  have hb : bits .and .u64 (IntKind.u64.wrap (-19)) 31 = 13 := by decide +kernel
  have e : bits .or .u32 ((x : Int) * 8192 % 4294967296) ((x : Int) / 524288) = ((rr x 19 : Nat) : Int) := by
    have e1 : (x : Int) * 8192 % 4294967296 = ((x * 8192 % 4294967296 : Nat) : Int) := by omega
    have e2 : (x : Int) / 524288 = ((x / 524288 : Nat) : Int) := by omega
    rw [e1, e2, u32_or_nat _ _ (by omega) (by omega)]
    rfl
  go_enter Tryd.func108, Tryd.ntmps108
  go_wp2
  go_ret
  exact ⟨by first | rfl | rw [e], rfl⟩
theorem ror_19 (x : Nat) (w : World) (hx : x < 4294967296) : Calls Tryd.prog 100 #[.int .u32 x, .int .i64 19] w fun e w' => e = .returned (.int .u32 (rr x 19)) ∧ w' = w := by
  go_enter Tryd.func100, Tryd.ntmps100
  go_wp2_with fail
  refine (rot_19 x w hx).mono ?_
  rintro e w' ⟨rfl, rfl⟩
  go_wp2_with fail
  go_ret
  exact ⟨rfl, rfl⟩
theorem tur_19 (x : Nat) (w : World) (hx : x < 4294967296) : Calls Tryd.prog 110 #[.int .u64 x, .int .i64 19] w fun e w' => e = .returned (.int .u64 (rr x 19)) ∧ w' = w := by
  have e : bits .and .u64 (bits .or .u64 ((x : Int) / 524288) ((x : Int) * 8192)) 4294967295 = ((rr x 19 : Nat) : Int) := by
    have e1 : (x : Int) * 8192 = ((x * 8192 : Nat) : Int) := by omega
    have e2 : (x : Int) / 524288 = ((x / 524288 : Nat) : Int) := by omega
    rw [e1, e2, or_all (x / 524288) (x * 8192) (by omega) (by omega)]
    rfl
  go_enter Tryd.func110, Tryd.ntmps110
  go_wp2
  go_ret
  exact ⟨by first | rfl | rw [e], rfl⟩
theorem rot_22 (x : Nat) (w : World) (hx : x < 4294967296) : Calls Tryd.prog 108 #[.int .u32 x, .int .i64 (-22)] w fun e w' => e = .returned (.int .u32 (rr x 22)) ∧ w' = w := by
  have hb : bits .and .u64 (IntKind.u64.wrap (-22)) 31 = 10 := by decide +kernel
  have e : bits .or .u32 ((x : Int) * 1024 % 4294967296) ((x : Int) / 4194304) = ((rr x 22 : Nat) : Int) := by
    have e1 : (x : Int) * 1024 % 4294967296 = ((x * 1024 % 4294967296 : Nat) : Int) := by omega
    have e2 : (x : Int) / 4194304 = ((x / 4194304 : Nat) : Int) := by omega
    rw [e1, e2, u32_or_nat _ _ (by omega) (by omega)]
    rfl
  go_enter Tryd.func108, Tryd.ntmps108
  go_wp2
  go_ret
  exact ⟨by first | rfl | rw [e], rfl⟩
theorem ror_22 (x : Nat) (w : World) (hx : x < 4294967296) : Calls Tryd.prog 100 #[.int .u32 x, .int .i64 22] w fun e w' => e = .returned (.int .u32 (rr x 22)) ∧ w' = w := by
  go_enter Tryd.func100, Tryd.ntmps100
  go_wp2_with fail
  refine (rot_22 x w hx).mono ?_
  rintro e w' ⟨rfl, rfl⟩
  go_wp2_with fail
  go_ret
  exact ⟨rfl, rfl⟩
theorem tur_22 (x : Nat) (w : World) (hx : x < 4294967296) : Calls Tryd.prog 110 #[.int .u64 x, .int .i64 22] w fun e w' => e = .returned (.int .u64 (rr x 22)) ∧ w' = w := by
  have e : bits .and .u64 (bits .or .u64 ((x : Int) / 4194304) ((x : Int) * 1024)) 4294967295 = ((rr x 22 : Nat) : Int) := by
    have e1 : (x : Int) * 1024 = ((x * 1024 : Nat) : Int) := by omega
    have e2 : (x : Int) / 4194304 = ((x / 4194304 : Nat) : Int) := by omega
    rw [e1, e2, or_all (x / 4194304) (x * 1024) (by omega) (by omega)]
    rfl
  go_enter Tryd.func110, Tryd.ntmps110
  go_wp2
  go_ret
  exact ⟨by first | rfl | rw [e], rfl⟩
theorem rot_25 (x : Nat) (w : World) (hx : x < 4294967296) : Calls Tryd.prog 108 #[.int .u32 x, .int .i64 (-25)] w fun e w' => e = .returned (.int .u32 (rr x 25)) ∧ w' = w := by
  have hb : bits .and .u64 (IntKind.u64.wrap (-25)) 31 = 7 := by decide +kernel
  have e : bits .or .u32 ((x : Int) * 128 % 4294967296) ((x : Int) / 33554432) = ((rr x 25 : Nat) : Int) := by
    have e1 : (x : Int) * 128 % 4294967296 = ((x * 128 % 4294967296 : Nat) : Int) := by omega
    have e2 : (x : Int) / 33554432 = ((x / 33554432 : Nat) : Int) := by omega
    rw [e1, e2, u32_or_nat _ _ (by omega) (by omega)]
    rfl
  go_enter Tryd.func108, Tryd.ntmps108
  go_wp2
  go_ret
  exact ⟨by first | rfl | rw [e], rfl⟩
theorem ror_25 (x : Nat) (w : World) (hx : x < 4294967296) : Calls Tryd.prog 100 #[.int .u32 x, .int .i64 25] w fun e w' => e = .returned (.int .u32 (rr x 25)) ∧ w' = w := by
  go_enter Tryd.func100, Tryd.ntmps100
  go_wp2_with fail
  refine (rot_25 x w hx).mono ?_
  rintro e w' ⟨rfl, rfl⟩
  go_wp2_with fail
  go_ret
  exact ⟨rfl, rfl⟩
theorem tur_25 (x : Nat) (w : World) (hx : x < 4294967296) : Calls Tryd.prog 110 #[.int .u64 x, .int .i64 25] w fun e w' => e = .returned (.int .u64 (rr x 25)) ∧ w' = w := by
  have e : bits .and .u64 (bits .or .u64 ((x : Int) / 33554432) ((x : Int) * 128)) 4294967295 = ((rr x 25 : Nat) : Int) := by
    have e1 : (x : Int) * 128 = ((x * 128 : Nat) : Int) := by omega
    have e2 : (x : Int) / 33554432 = ((x / 33554432 : Nat) : Int) := by omega
    rw [e1, e2, or_all (x / 33554432) (x * 128) (by omega) (by omega)]
    rfl
  go_enter Tryd.func110, Tryd.ntmps110
  go_wp2
  go_ret
  exact ⟨by first | rfl | rw [e], rfl⟩
end Go.Proofs.YthccbfgjekdiiaaDoor
