import Derived.Test.YtmmaddlphclpnaaGreatDoorCrb
namespace Go.Proofs.YtmmaddlphclpnaaGreatDoor
open Go.RowKit

theorem xor_u32 (a b : Nat) (ha : a < 4294967296) (hb : b < 4294967296) : bits .xor .u32 (a : Int) (b : Int) = ((a ^^^ b : Nat) : Int) := u32_xor_nat a b ha hb
theorem byte_any (c b : Nat) (w : World) (hc : c < 4294967296) (hb : b < 256) : Calls Tryz.prog 85 #[.int .u32 c, .int .u8 b] w fun e w' => e = .returned (.int .u32 (By c b : Nat)) ∧ w' = w := by
  have hx := xor_u32 c b hc (by omega)
  have hl : c ^^^ b < 4294967296 := Nat.xor_lt_two_pow (n := 32) hc (by omega)
  have hy : By c b = Xn 8 (c ^^^ b) := rfl
  rw [hy]
  generalize c ^^^ b = d at *
  clear hy
  go_enter Tryz.func85, Tryz.ntmps85
  go_wp2
  go_loopw [0, 5] (fun c i wr => ∃ k : Nat, k ≤ 8 ∧ i = .int .i64 k ∧ c = .int .u32 (Xn k d : Nat) ∧ wr = w) (fun _ i _ => 8 - (intOf i).toNat)
  case atStart => exact ⟨0, Nat.zero_le _, rfl, rfl, rfl⟩
  case round =>
    obtain ⟨k, hk, rfl, rfl, rfl⟩ := hrel
    by_cases hlt : k < 8
    · have hX := Xn_lt k d hl
      have hs : Xn (k + 1) d = X (Xn k d) := by rw [Xn, Xn_X]
      generalize Xn k d = y at *
      have HS := hide hs
      clear hs
      go_wp2_with fail
      refine (bit_any y _ hX).mono ?_
      rintro e w' ⟨rfl, rfl⟩
      go_wp2_with fail
      exact ⟨⟨k + 1, by omega, by go_num, by rw [unhide HS], by first | rfl | trivial⟩, by simp [intOf]; omega⟩
    · have e8 : k = 8 := by omega
      subst e8
      go_wp2_with fail
      go_ret
      exact ⟨rfl, rfl⟩

/-- How many steps are left. -/
def stp : Nat → Nat → Nat
  | 0, _ => 0
  | n + 1, a => if a = 0 then 0 else stp n (a * 2 % 4294967296) + 1
theorem stp_more (n a : Nat) (h : a * 2 ^ n % 4294967296 = 0) (ha : a < 4294967296) : stp (n + 1) a = stp n a := by
  induction n generalizing a with
  | zero => rw [stp, stp, if_pos (by omega)]
  | succ n ih =>
    rw [stp, stp.eq_2 a n]
    split
    · rfl
    · rw [ih _ _ (Nat.mod_lt _ (by decide))]
      rw [Nat.pow_succ, Nat.mul_comm (2 ^ n), ← Nat.mul_assoc, Nat.mul_mod] at h
      rw [Nat.mul_mod, Nat.mod_mod]
      exact h
theorem stp_less (a : Nat) (h0 : a ≠ 0) : stp 32 (a * 2 % 4294967296) < stp 32 a := by
  rw [stp_more 31 (a * 2 % 4294967296) (by omega) (Nat.mod_lt _ (by decide)), stp.eq_2 a 31, if_neg h0]
  omega
theorem and_top (a : Nat) (h : a < 4294967296) : bits .and .u32 (a : Int) 2147483648 = ((a / 2147483648 * 2147483648 : Nat) : Int) := by
  rw [show (2147483648 : Int) = ((2147483648 : Nat) : Int) from rfl, u32_and_nat _ _ h (by decide), show (2147483648 : Nat) = 2 ^ 31 from rfl, nat_bit, Nat.mod_eq_of_lt (a := a / 2 ^ 31) (by omega)]
theorem mulN_at (n a b p : Nat) (h : n < 32) : mulN (32 - n) a b p = mulN (32 - (n + 1)) (a * 2 % 4294967296) (X b) (if a / 2147483648 = 1 then p ^^^ b else p) := by
  rw [show 32 - n = (32 - (n + 1)) + 1 by omega, mulN]
end Go.Proofs.YtmmaddlphclpnaaGreatDoor
