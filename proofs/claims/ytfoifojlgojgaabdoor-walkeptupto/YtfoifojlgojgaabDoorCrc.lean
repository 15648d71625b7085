import Derived.Test.YtfoifojlgojgaabDoorCrb
namespace Go.Proofs.YtfoifojlgojgaabDoor
open Go.RowKit

theorem xor_u32 (a b : Nat) (ha : a < 4294967296) (hb : b < 4294967296) : bits .xor .u32 (a : Int) (b : Int) = ((a ^^^ b : Nat) : Int) := u32_xor_nat a b ha hb
/-- How many steps are left. -/
def stp : Nat → Nat → Nat
  | 0, _ => 0
  | n + 1, a => if a = 0 then 0 else stp n (a * 2 % 4294967296) + 1
theorem stp_more (n a : Nat) (h : a * 2 ^ n % 4294967296 = 0) (ha : a < 4294967296) : stp (n + 1) a = stp n a := by
  induction n generalizing a with
  | zero => rw [stp, stp, if_pos (by omega)]
  | succ n ih =>
    rw [stp, stp.eq_2 a n]
    split
    · rfl
    · rw [ih _ _ (Nat.mod_lt _ (by decide))]
      rw [Nat.pow_succ, Nat.mul_comm (2 ^ n), ← Nat.mul_assoc, Nat.mul_mod] at h
      rw [Nat.mul_mod, Nat.mod_mod]
      exact h
theorem stp_less (a : Nat) (h0 : a ≠ 0) : stp 32 (a * 2 % 4294967296) < stp 32 a := by
  rw [stp_more 31 (a * 2 % 4294967296) (by omega) (Nat.mod_lt _ (by decide)), stp.eq_2 a 31, if_neg h0]
  omega
theorem and_top (a : Nat) (h : a < 4294967296) : bits .and .u32 (a : Int) 2147483648 = ((a / 2147483648 * 2147483648 : Nat) : Int) := by
  rw [show (2147483648 : Int) = ((2147483648 : Nat) : Int) from rfl, u32_and_nat _ _ h (by decide), show (2147483648 : Nat) = 2 ^ 31 from rfl, nat_bit, Nat.mod_eq_of_lt (a := a / 2 ^ 31) (by omega)]
theorem mulN_at (n a b p : Nat) (h : n < 32) : mulN (32 - n) a b p = mulN (32 - (n + 1)) (a * 2 % 4294967296) (X b) (if a / 2147483648 = 1 then p ^^^ b else p) := by
  rw [show 32 - n = (32 - (n + 1)) + 1 by omega, mulN]
end Go.Proofs.YtfoifojlgojgaabDoor
