import Derived.Test.YtikolmpgnpkdbaaDoorRfe
namespace Go.Proofs.YtikolmpgnpkdbaaDoor
open Go.RowKit

/-- A part's bytes, as the ref lays them. -/
def lz (p : Pt) : List Nat := if p.k = 1 then be 1 p.u else if p.k = 2 then be 2 p.u else if p.k = 4 then be 4 p.u else if p.k = 8 then be 8 p.u else if p.k = 5 then be 4 p.u else if p.k = 7 then be 4 p.n.toNat else if p.k = 6 then be 4 p.s.size ++ bytesOf p.s else []

theorem glaid_any (p : Pt) (w : World) (hk : p.k ∈ kinds) (h10 : p.k ≠ 10) (hu : p.u < 18446744073709551616) (hn : p.n < 9223372036854775808) (hs : p.s.size < 140737488355000) (hw : wrongN p = 0) :
    Calls Tryd.prog 67 #[.agg #[.int .i64 p.k, .int .u64 p.u, .string p.s, .int .i64 p.n, .int .i64 p.m]] w fun e w' => ∃ v, e = .returned v ∧ Src w' v (lz p) ∧ Fr (fun _ => False) w w' := by
  obtain ⟨k, u, s, n, m⟩ := p
  simp only [kinds, List.mem_cons, List.not_mem_nil, or_false] at hk hu hn hs h10 ⊢
  rcases hk with rfl | rfl | rfl | rfl | rfl | rfl | rfl | rfl | rfl
  · exact glaid1 u s n m w hu
  · exact glaid2 u s n m w hu
  · exact glaid4 u s n m w hu
  · exact glaid8 u s n m w hu
  · exact glaid5 u s n m w hu
  · exact glaid6 u s n m w hs
  · have h0 : 0 ≤ n := by
      rcases Int.lt_or_le n 0 with h | h
      · simp [wrongN, h] at hw
      · exact h
    obtain ⟨q, rfl⟩ := Int.eq_ofNat_of_zero_le h0
    exact glaid7 u q s m w (by omega)
  · exact glaid9 u s n m w
  · exact absurd rfl h10

/-- The norm of what the ref lays is that of what the writer lays. -/
theorem norm_lz (p : Pt) (hk : p.k ∈ kinds) : norm (lz p) = norm (encA p) := by
  have key : ∀ a b : Nat, ∀ n, (∀ i, i < n → a / 256 ^ (n - 1 - i) % 256 = b / 256 ^ (n - 1 - i) % 256) → norm (be n a) = norm (be n b) := fun a b n h => by
    unfold norm be
    rw [List.map_map, List.map_map]
    apply List.map_congr_left
    intro i hi
    exact h i (by simpa using hi)
  have hm : ∀ (u n : Nat), norm (be n u) = norm (be n (u % 256 ^ n)) := fun u n => key _ _ n (fun i hi => by
    have e : 256 ^ n = 256 ^ (n - 1 - i) * (256 * 256 ^ i) := by
      rw [← Nat.mul_assoc, ← Nat.pow_succ, ← Nat.pow_add]
      congr 1
      omega
    rw [e, Nat.mod_mul_right_div_self, Nat.mod_mul_right_mod])
  obtain ⟨k, u, s, n, m⟩ := p
  simp only [kinds, List.mem_cons, List.not_mem_nil, or_false] at hk
  rcases hk with rfl | rfl | rfl | rfl | rfl | rfl | rfl | rfl | rfl
  · exact hm u 1
  · exact hm u 2
  · exact hm u 4
  · rfl
  · exact hm u 4
  · rfl
  · rfl
  · rfl
  · rfl
end Go.Proofs.YtikolmpgnpkdbaaDoor
