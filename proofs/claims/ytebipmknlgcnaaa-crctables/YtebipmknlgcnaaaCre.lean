import Derived.Test.YtebipmknlgcnaaaCrd
namespace Go.Proofs.Ytebipmknlgcnaaa
open Go.RowKit

theorem gcombine_neg (f s : Nat) (n : Int) (w : World) (hn : n < 0) : Calls Try.prog 16 #[.int .u32 f, .int .u32 s, .int .i64 n] w fun e w' => e = .returned (.tuple #[.int .u32 0, .bool false]) ∧ w' = w := by
  go_enter Try.func16, Try.ntmps16
  go_wp2_with fail
  go_ret2
  exact ⟨rfl, rfl⟩
theorem gcombine_any (f s n0 : Nat) (w : World) (hf : f < 4294967296) (hs : s < 4294967296) (hn0 : n0 < 9223372036854775808) : Calls Try.prog 16 #[.int .u32 f, .int .u32 s, .int .i64 n0] w fun e w' => e = .returned (.tuple #[.int .u32 (Xn (8 * n0) f ^^^ s : Nat), .bool true]) ∧ w' = w := by
  have hp : ¬ (n0 : Int) < 0 := by omega
  go_enter Try.func16, Try.ntmps16
  go_wp2_with fail
  go_loopw [8, 9, 10] (fun x s y wr => ∃ m c p j q : Nat, m ≤ n0 ∧ x = .int .u32 c ∧ y = .int .i64 m ∧ s = .int .u32 p ∧ c = Xn j 2147483648 ∧ p = Xn q 2147483648 ∧ j + q * m = 8 * n0 ∧ wr = w) (fun _ _ y _ => (intOf y).toNat)
  case atStart => exact ⟨n0, 2147483648, 8388608, 0, 8, Nat.le_refl _, rfl, rfl, rfl, rfl, by decide, by omega, rfl⟩
  case round =>
    obtain ⟨m, c, p, j, q, hm, rfl, rfl, rfl, hcj, hpq, hj, rfl⟩ := hrel
    have hcl : c < 4294967296 := by rw [hcj]; exact Xn_lt _ _ one_lt
    have hpl : p < 4294967296 := by rw [hpq]; exact Xn_lt _ _ one_lt
    have HJ := hide (And.intro hcj (And.intro hpq hj))
    clear hcj hpq hj
    by_cases h0 : m = 0
    · subst h0
      have e1 : j = 8 * n0 := by have := (unhide HJ).2.2; omega
      have hz : mul c f = Xn (8 * n0) f := by rw [(unhide HJ).1, pow_mul _ _ hf, e1]
      have hzl : mul c f < 4294967296 := by rw [hz]; exact Xn_lt _ _ hf
      have hxx := xor_u32 _ s hzl hs
      have HZ := hide hz
      clear hz
      go_wp2_with fail
      refine (times_any c f _ hcl hf).mono ?_
      rintro e w' ⟨rfl, rfl⟩
      generalize mul c f = z at *
      go_wp2_with fail
      go_ret2
      exact ⟨by rw [← unhide HZ]; rfl, rfl⟩
    · have hpos : (0 : Int) < (m : Int) := by omega
      have hpp : mul p p = Xn (2 * q) 2147483648 := by
        have h2 := (unhide HJ).2.1
        rw [h2, mul_pow _ _ (by rw [← h2]; exact hpl), ← Xn_add, Nat.two_mul]
      have HP := hide hpp
      clear hpp
      by_cases h1 : m % 2 = 1
      · have hb : Int.tmod (m : Int) 2 = 1 := by rw [Int.tmod_eq_emod_of_nonneg (by omega)]; omega
        have hcp : mul c p = Xn (j + q) 2147483648 := by
          rw [(unhide HJ).2.1, mul_pow _ _ hcl, (unhide HJ).1, ← Xn_add]
        have HC := hide hcp
        clear hcp
        go_wp2_with fail
        refine (times_any c p _ hcl hpl).mono ?_
        rintro e w' ⟨rfl, rfl⟩
        go_wp2_with fail
        refine (times_any p p _ hpl hpl).mono ?_
        rintro e w' ⟨rfl, rfl⟩
        go_wp2_with fail
        refine ⟨⟨m / 2, mul c p, mul p p, j + q, 2 * q, by omega, rfl, by go_num, rfl, unhide HC, unhide HP, ?_, by first | rfl | trivial⟩, by simp [intOf]; omega⟩
        have e2 := (unhide HJ).2.2
        rw [← e2]
        have e3 : m = 2 * (m / 2) + 1 := by omega
        generalize m / 2 = u at *
        subst e3
        rw [Nat.mul_add, Nat.mul_one, Nat.mul_comm 2 q, Nat.mul_assoc]
        omega
      · have hb : Int.tmod (m : Int) 2 = 0 := by rw [Int.tmod_eq_emod_of_nonneg (by omega)]; omega
        go_wp2_with fail
        refine (times_any p p _ hpl hpl).mono ?_
        rintro e w' ⟨rfl, rfl⟩
        go_wp2_with fail
        refine ⟨⟨m / 2, c, mul p p, j, 2 * q, by omega, rfl, by go_num, rfl, (unhide HJ).1, unhide HP, ?_, by first | rfl | trivial⟩, by simp [intOf]; omega⟩
        have e2 := (unhide HJ).2.2
        rw [← e2]
        have e3 : m = 2 * (m / 2) := by omega
        generalize m / 2 = u at *
        subst e3
        rw [Nat.mul_comm 2 q, Nat.mul_assoc]
end Go.Proofs.Ytebipmknlgcnaaa
