import Derived.Test.YtebipmknlgcnaaaCrc
namespace Go.Proofs.Ytebipmknlgcnaaa
open Go.RowKit

theorem i64_and1 (m : Nat) : bits .and .i64 (m : Int) 1 = ((m % 2 : Nat) : Int) := by
  have h1 : (BitVec.ofInt 64 1).toNat = 2 ^ 1 - 1 := by decide
  have key : (BitVec.ofInt 64 (m : Int) &&& BitVec.ofInt 64 1).toNat = ((m : Int) % ((2 ^ 64 : Nat) : Int)).toNat % 2 ^ 1 := by
    rw [BitVec.toNat_and, BitVec.toNat_ofInt, h1, Nat.and_two_pow_sub_one_eq_mod]
  show IntKind.i64.wrap ((BitVec.ofInt 64 (m : Int) &&& BitVec.ofInt 64 1).toNat : Nat) = _
  rw [key, IntKind.wrap_i64]
  omega
theorem one_lt : (2147483648 : Nat) < 4294967296 := by decide
theorem mul_pow (c s : Nat) (hc : c < 4294967296) : mul c (Xn s 2147483648) = Xn s c := by rw [mul_Xn, mul_one c hc]
theorem pow_mul (c s : Nat) (hc : c < 4294967296) : mul (Xn s 2147483648) c = Xn s c := by rw [Xn_mul s _ c one_lt hc, one_mul]
theorem zeros_any (c0 n0 : Nat) (w : World) (hc0 : c0 < 4294967296) (hn0 : n0 < 9223372036854775808) : Calls Try.prog 20 #[.int .u32 c0, .int .i64 n0] w fun e w' => e = .returned (.int .u32 (Xn (8 * n0) c0 : Nat)) ∧ w' = w := by
  go_enter Try.func20, Try.ntmps20
  go_wp2
  go_loopw [0, 1, 5] (fun x y s wr => ∃ m c p j q : Nat, m ≤ n0 ∧ x = .int .u32 c ∧ y = .int .i64 m ∧ s = .int .u32 p ∧ c = Xn j c0 ∧ p = Xn q 2147483648 ∧ j + q * m = 8 * n0 ∧ wr = w) (fun _ y _ _ => (intOf y).toNat)
  case atStart => exact ⟨n0, c0, 8388608, 0, 8, Nat.le_refl _, rfl, rfl, rfl, rfl, by decide, by omega, rfl⟩
  case round =>
    obtain ⟨m, c, p, j, q, hm, rfl, rfl, rfl, hcj, hpq, hj, rfl⟩ := hrel
    have hcl : c < 4294967296 := by rw [hcj]; exact Xn_lt _ _ hc0
    have hpl : p < 4294967296 := by rw [hpq]; exact Xn_lt _ _ one_lt
    have HJ := hide (And.intro hcj (And.intro hpq hj))
    clear hcj hpq hj
    by_cases h0 : m = 0
    · subst h0
      go_wp2_with fail
      go_ret
      have e1 : j = 8 * n0 := by have := (unhide HJ).2.2; omega
      exact ⟨by rw [← e1, ← (unhide HJ).1]; rfl, rfl⟩
    · have hpos : (0 : Int) < (m : Int) := by omega
      have hb := i64_and1 m
      have hpp : mul p p = Xn (2 * q) 2147483648 := by
        have h2 := (unhide HJ).2.1
        rw [h2, mul_pow _ _ (by rw [← h2]; exact hpl), ← Xn_add, Nat.two_mul]
      have HP := hide hpp
      clear hpp
      by_cases h1 : m % 2 = 1
      · rw [h1] at hb
        have hcp : mul c p = Xn (j + q) c0 := by
          rw [(unhide HJ).2.1, mul_pow _ _ hcl, (unhide HJ).1, ← Xn_add]
        have HC := hide hcp
        clear hcp
        go_wp2_with fail
        refine (product_any c p _ hcl hpl).mono ?_
        rintro e w' ⟨rfl, rfl⟩
        go_wp2_with fail
        refine (product_any p p _ hpl hpl).mono ?_
        rintro e w' ⟨rfl, rfl⟩
        go_wp2_with fail
        refine ⟨⟨m / 2, mul c p, mul p p, j + q, 2 * q, by omega, rfl, by go_num, rfl, unhide HC, unhide HP, ?_, by first | rfl | trivial⟩, by simp [intOf]; omega⟩
        have e2 := (unhide HJ).2.2
        rw [← e2]
        have e3 : m = 2 * (m / 2) + 1 := by omega
        generalize m / 2 = u at *
        subst e3
        rw [Nat.mul_add, Nat.mul_one, Nat.mul_comm 2 q, Nat.mul_assoc]
        omega
      · rw [show m % 2 = 0 by omega] at hb
        go_wp2_with fail
        refine (product_any p p _ hpl hpl).mono ?_
        rintro e w' ⟨rfl, rfl⟩
        go_wp2_with fail
        refine ⟨⟨m / 2, c, mul p p, j, 2 * q, by omega, rfl, by go_num, rfl, (unhide HJ).1, unhide HP, ?_, by first | rfl | trivial⟩, by simp [intOf]; omega⟩
        have e2 := (unhide HJ).2.2
        rw [← e2]
        have e3 : m = 2 * (m / 2) := by omega
        generalize m / 2 = u at *
        subst e3
        rw [Nat.mul_comm 2 q, Nat.mul_assoc]
theorem combine_any (f s n : Nat) (w : World) (hf : f < 4294967296) (hs : s < 4294967296) (hn : n < 9223372036854775808) : Calls Try.prog 13 #[.int .u32 f, .int .u32 s, .int .i64 n] w fun e w' => e = .returned (.tuple #[.int .u32 (Xn (8 * n) f ^^^ s : Nat), .bool true]) ∧ w' = w := by
  have hx := Xn_lt (8 * n) f hf
  have hxx := xor_u32 _ s hx hs
  have hp : ¬ (n : Int) < 0 := by omega
  go_enter Try.func13, Try.ntmps13
  go_wp2_with fail
  refine (zeros_any f n _ hf hn).mono ?_
  rintro e w' ⟨rfl, rfl⟩
  generalize hz : Xn (8 * n) f = z at *
  have HZ := hide hz
  clear hz
  go_wp2_with fail
  go_ret2
  exact ⟨by rw [unhide HZ]; rfl, rfl⟩
theorem combine_neg (f s : Nat) (n : Int) (w : World) (hn : n < 0) : Calls Try.prog 13 #[.int .u32 f, .int .u32 s, .int .i64 n] w fun e w' => e = .returned (.tuple #[.int .u32 0, .bool false]) ∧ w' = w := by
  go_enter Try.func13, Try.ntmps13
  go_wp2_with fail
  go_ret2
  exact ⟨rfl, rfl⟩
end Go.Proofs.Ytebipmknlgcnaaa
