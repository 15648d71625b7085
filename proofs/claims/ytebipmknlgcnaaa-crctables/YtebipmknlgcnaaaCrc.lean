import Derived.Test.YtebipmknlgcnaaaCrb
namespace Go.Proofs.Ytebipmknlgcnaaa
open Go.RowKit

theorem xor_u32 (a b : Nat) (ha : a < 4294967296) (hb : b < 4294967296) : bits .xor .u32 (a : Int) (b : Int) = ((a ^^^ b : Nat) : Int) := u32_xor_nat a b ha hb
theorem byte_any (c b : Nat) (w : World) (hc : c < 4294967296) (hb : b < 256) : Calls Try.prog 21 #[.int .u32 c, .int .u8 b] w fun e w' => e = .returned (.int .u32 (By c b : Nat)) ∧ w' = w := by
  have hx := xor_u32 c b hc (by omega)
  have hl : c ^^^ b < 4294967296 := Nat.xor_lt_two_pow (n := 32) hc (by omega)
  have hy : By c b = Xn 8 (c ^^^ b) := rfl
  rw [hy]
  generalize c ^^^ b = d at *
  clear hy
  go_enter Try.func21, Try.ntmps21
  go_wp2
  go_loopw [0, 5] (fun c i wr => ∃ k : Nat, k ≤ 8 ∧ i = .int .i64 k ∧ c = .int .u32 (Xn k d : Nat) ∧ wr = w) (fun _ i _ => 8 - (intOf i).toNat)
  case atStart => exact ⟨0, Nat.zero_le _, rfl, rfl, rfl⟩
  case round =>
    obtain ⟨k, hk, rfl, rfl, rfl⟩ := hrel
    by_cases hlt : k < 8
    · have hX := Xn_lt k d hl
      have hs : Xn (k + 1) d = X (Xn k d) := by rw [Xn, Xn_X]
      generalize Xn k d = y at *
      have HS := hide hs
      clear hs
      go_wp2_with fail
      refine (bit_any y _ hX).mono ?_
      rintro e w' ⟨rfl, rfl⟩
      go_wp2_with fail
      exact ⟨⟨k + 1, by omega, by go_num, by rw [unhide HS], by first | rfl | trivial⟩, by simp [intOf]; omega⟩
    · have e8 : k = 8 := by omega
      subst e8
      go_wp2_with fail
      go_ret
      exact ⟨rfl, rfl⟩

/-- How many steps are left. -/
def stp : Nat → Nat → Nat
  | 0, _ => 0
  | n + 1, a => if a = 0 then 0 else stp n (a * 2 % 4294967296) + 1
theorem stp_more (n a : Nat) (h : a * 2 ^ n % 4294967296 = 0) (ha : a < 4294967296) : stp (n + 1) a = stp n a := by
  induction n generalizing a with
  | zero => rw [stp, stp, if_pos (by omega)]
  | succ n ih =>
    rw [stp, stp.eq_2 a n]
    split
    · rfl
    · rw [ih _ _ (Nat.mod_lt _ (by decide))]
      rw [Nat.pow_succ, Nat.mul_comm (2 ^ n), ← Nat.mul_assoc, Nat.mul_mod] at h
      rw [Nat.mul_mod, Nat.mod_mod]
      exact h
theorem stp_less (a : Nat) (h0 : a ≠ 0) : stp 32 (a * 2 % 4294967296) < stp 32 a := by
  rw [stp_more 31 (a * 2 % 4294967296) (by omega) (Nat.mod_lt _ (by decide)), stp.eq_2 a 31, if_neg h0]
  omega
theorem and_top (a : Nat) (h : a < 4294967296) : bits .and .u32 (a : Int) 2147483648 = ((a / 2147483648 * 2147483648 : Nat) : Int) := by
  rw [show (2147483648 : Int) = ((2147483648 : Nat) : Int) from rfl, u32_and_nat _ _ h (by decide), show (2147483648 : Nat) = 2 ^ 31 from rfl, nat_bit, Nat.mod_eq_of_lt (a := a / 2 ^ 31) (by omega)]
theorem mulN_at (n a b p : Nat) (h : n < 32) : mulN (32 - n) a b p = mulN (32 - (n + 1)) (a * 2 % 4294967296) (X b) (if a / 2147483648 = 1 then p ^^^ b else p) := by
  rw [show 32 - n = (32 - (n + 1)) + 1 by omega, mulN]
theorem product_any (a0 b0 : Nat) (w : World) (ha0 : a0 < 4294967296) (hb0 : b0 < 4294967296) : Calls Try.prog 26 #[.int .u32 a0, .int .u32 b0] w fun e w' => e = .returned (.int .u32 (mul a0 b0 : Nat)) ∧ w' = w := by
  have hm : mul a0 b0 = mulN 32 a0 b0 0 := rfl
  generalize mul a0 b0 = z at *
  have HM := hide hm
  clear hm
  go_enter Try.func26, Try.ntmps26
  go_wp2
  go_loopw [0, 1, 5] (fun x y s wr => ∃ k a b p : Nat, k ≤ 32 ∧ x = .int .u32 a ∧ y = .int .u32 b ∧ s = .int .u32 p ∧ a < 4294967296 ∧ b < 4294967296 ∧ p < 4294967296 ∧ a % 2 ^ k = 0 ∧ z = mulN (32 - k) a b p ∧ wr = w) (fun x _ _ _ => stp 32 (intOf x).toNat)
  case atStart => exact ⟨0, a0, b0, 0, Nat.zero_le _, rfl, rfl, rfl, ha0, hb0, by decide, Nat.mod_one _, unhide HM, rfl⟩
  case round =>
    obtain ⟨k, a, b, p, hk, rfl, rfl, rfl, ha, hb, hp, hd, hz, rfl⟩ := hrel
    have HD := hide (And.intro hd hz)
    clear hd hz
    by_cases h0 : a = 0
    · subst h0
      go_wp2_with fail
      go_ret
      exact ⟨by rw [(unhide HD).2, mulN_0]; rfl, rfl⟩
    · have hlt : k < 32 := by
        rcases Nat.lt_or_ge k 32 with h | h
        · exact h
        · have e : k = 32 := by omega
          subst e
          have := (unhide HD).1
          omega
      have hnz : ((a : Int) != 0) = true := by simp; omega
      have hat := and_top a ha
      have hxl := X_lt b hb
      have hpl : p ^^^ b < 4294967296 := Nat.xor_lt_two_pow (n := 32) hp hb
      have hD2 : a * 2 % 4294967296 % 2 ^ (k + 1) = 0 := by
        have h1 := (unhide HD).1
        have h2 : 2 ^ (k + 1) ∣ 4294967296 := Nat.pow_dvd_pow 2 (n := 32) (by omega)
        rw [Nat.mod_mod_of_dvd _ h2, Nat.pow_succ, Nat.mul_mod_mul_right, h1]
      have hN := mulN_at k a b p hlt
      have hst := stp_less a h0
      have HN := hide (And.intro hD2 (And.intro hN hst))
      clear hD2 hN hst
      by_cases ht : a / 2147483648 = 1
      · rw [ht] at hat
        have hx := xor_u32 p b hp hb
        go_wp2_with fail
        refine (timesX_any b _ hb).mono ?_
        rintro e w' ⟨rfl, rfl⟩
        go_wp2_with fail
        refine ⟨⟨k + 1, a * 2 % 4294967296, X b, p ^^^ b, by omega, by go_num, rfl, rfl, Nat.mod_lt _ (by decide), hxl, hpl, (unhide HN).1, ?_, by first | rfl | trivial⟩, ?_⟩
        · rw [(unhide HD).2, (unhide HN).2.1, if_pos ht]
        · have := (unhide HN).2.2
          have e1 : ((a : Int) * 2 % 4294967296).toNat = a * 2 % 4294967296 := by omega
          simpa [intOf, e1] using this
      · have ht0 : a / 2147483648 = 0 := by omega
        rw [ht0] at hat
        go_wp2_with fail
        refine (timesX_any b _ hb).mono ?_
        rintro e w' ⟨rfl, rfl⟩
        go_wp2_with fail
        refine ⟨⟨k + 1, a * 2 % 4294967296, X b, p, by omega, by go_num, rfl, rfl, Nat.mod_lt _ (by decide), hxl, hp, (unhide HN).1, ?_, by first | rfl | trivial⟩, ?_⟩
        · rw [(unhide HD).2, (unhide HN).2.1, if_neg ht]
        · have := (unhide HN).2.2
          have e1 : ((a : Int) * 2).toNat = a * 2 % 4294967296 := by omega
          simp only [intOf]
          rw [e1]
          exact this
theorem times_any (a0 b0 : Nat) (w : World) (ha0 : a0 < 4294967296) (hb0 : b0 < 4294967296) : Calls Try.prog 22 #[.int .u32 a0, .int .u32 b0] w fun e w' => e = .returned (.int .u32 (mul a0 b0 : Nat)) ∧ w' = w := by
  have hm : mul a0 b0 = mulN 32 a0 b0 0 := rfl
  generalize mul a0 b0 = z at *
  have HM := hide hm
  clear hm
  go_enter Try.func22, Try.ntmps22
  go_wp2
  go_loopw [0, 1, 5, 6] (fun x y s i wr => ∃ k a b p : Nat, k ≤ 32 ∧ i = .int .i64 k ∧ x = .int .u32 a ∧ y = .int .u32 b ∧ s = .int .u32 p ∧ a < 4294967296 ∧ b < 4294967296 ∧ p < 4294967296 ∧ z = mulN (32 - k) a b p ∧ wr = w) (fun _ _ _ i _ => 32 - (intOf i).toNat)
  case atStart => exact ⟨0, a0, b0, 0, Nat.zero_le _, rfl, rfl, rfl, rfl, ha0, hb0, by decide, unhide HM, rfl⟩
  case round =>
    obtain ⟨k, a, b, p, hk, rfl, rfl, rfl, rfl, ha, hb, hp, hz, rfl⟩ := hrel
    have HD := hide hz
    clear hz
    by_cases hlt : k < 32
    · have hxl := X_lt b hb
      have hpl : p ^^^ b < 4294967296 := Nat.xor_lt_two_pow (n := 32) hp hb
      have HN := hide (mulN_at k a b p hlt)
      by_cases ht : a / 2147483648 = 1
      · have ht1 : (a : Int) / 2147483648 = 1 := by omega
        have hx := xor_u32 p b hp hb
        have HT := hide ht
        clear ht
        go_wp2_with fail
        refine (bit_any b _ hb).mono ?_
        rintro e w' ⟨rfl, rfl⟩
        go_wp2_with fail
        refine ⟨⟨k + 1, a * 2 % 4294967296, X b, p ^^^ b, by omega, by go_num, by go_num, rfl, rfl, Nat.mod_lt _ (by decide), hxl, hpl, ?_, by first | rfl | trivial⟩, by simp [intOf]; omega⟩
        rw [unhide HD, unhide HN, if_pos (unhide HT)]
      · have ht1 : (a : Int) / 2147483648 = 0 := by omega
        have HT := hide ht
        clear ht
        go_wp2_with fail
        refine (bit_any b _ hb).mono ?_
        rintro e w' ⟨rfl, rfl⟩
        go_wp2_with fail
        refine ⟨⟨k + 1, a * 2 % 4294967296, X b, p, by omega, by go_num, by go_num, rfl, rfl, Nat.mod_lt _ (by decide), hxl, hp, ?_, by first | rfl | trivial⟩, by simp [intOf]; omega⟩
        rw [unhide HD, unhide HN, if_neg (unhide HT)]
    · have e : k = 32 := by omega
      subst e
      go_wp2_with fail
      go_ret
      exact ⟨by rw [unhide HD]; rfl, rfl⟩
end Go.Proofs.Ytebipmknlgcnaaa
