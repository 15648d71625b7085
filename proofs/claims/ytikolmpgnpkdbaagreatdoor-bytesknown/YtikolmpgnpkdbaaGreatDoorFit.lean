import Derived.Test.YtikolmpgnpkdbaaGreatDoorCnt
namespace Go.Proofs.YtikolmpgnpkdbaaGreatDoor
open Go.RowKit

/-- A call, as the statements have it. -/
structure Pt where
  k : Int
  u : Nat
  s : ByteArray
  n : Int
  m : Int
def Pt.val (p : Pt) : Value := .agg #[.int .i64 p.k, .int .u64 p.u, .string p.s, .int .i64 p.n, .int .i64 p.m]
def kinds : List Int := [1, 2, 4, 8, 5, 6, 7, 9, 10]
def fk (k : Int) : Int := if k ∈ kinds then k else 4
def fn (k n : Int) : Int := if fk k = 9 ∧ (n < 0 ∨ 7 < n) then 0 else n
def Pt.fit (p : Pt) : Pt := { p with k := fk p.k, n := fn p.k p.n }

set_option maxRecDepth 100000 in
set_option maxHeartbeats 2000000 in
theorem fit_any (p : Pt) (w : World) :
    Calls Tryz.prog 18 #[.agg #[.int .i64 p.k, .int .u64 p.u, .string p.s, .int .i64 p.n, .int .i64 p.m]] w fun e w' => e = .returned (.agg #[.int .i64 (fk p.k), .int .u64 p.u, .string p.s, .int .i64 (fn p.k p.n), .int .i64 p.m]) ∧ Fr (fun _ => False) w w' := by
  obtain ⟨k, u, s, n, m⟩ := p
  simp only
  by_cases h9 : k = 9
  · subst h9
    have e1 : fk 9 = 9 := by decide
    rw [e1]
    by_cases h0 : n < 0
    · have e2 : fn 9 n = 0 := by simp [fn, e1, h0]
      rw [e2]
      clear e1 e2
      go_enter Tryz.func18, Tryz.ntmps18
      go_wp2
      exact bodyPost_ret (v := .agg #[.int .i64 9, .int .u64 u, .string s, .int .i64 0, .int .i64 m]) (by simp [results, Tryz.results18, go_sem]) rfl ⟨rfl, box2 _ _ _⟩
    · by_cases h7 : 7 < n
      · have e2 : fn 9 n = 0 := by simp [fn, e1, h7]
        rw [e2]
        clear e1 e2
        go_enter Tryz.func18, Tryz.ntmps18
        go_wp2
        exact bodyPost_ret (v := .agg #[.int .i64 9, .int .u64 u, .string s, .int .i64 0, .int .i64 m]) (by simp [results, Tryz.results18, go_sem]) rfl ⟨rfl, box2 _ _ _⟩
      · have e2 : fn 9 n = n := by simp [fn, e1, h7, h0]
        rw [e2]
        clear e1 e2
        go_enter Tryz.func18, Tryz.ntmps18
        go_wp2
        exact bodyPost_ret (v := .agg #[.int .i64 9, .int .u64 u, .string s, .int .i64 n, .int .i64 m]) (by simp [results, Tryz.results18, go_sem]) rfl ⟨rfl, box2 _ _ _⟩
  by_cases hk : k ∈ kinds
  · have e1 : fk k = k := by simp [fk, hk]
    have e2 : fn k n = n := by simp [fn, e1, h9]
    rw [e1, e2]
    clear e1 e2
    simp only [kinds, List.mem_cons, List.not_mem_nil, or_false] at hk
    rcases hk with rfl | rfl | rfl | rfl | rfl | rfl | rfl | rfl | rfl
    rotate_left 7
    · exact absurd rfl h9
    all_goals
      clear h9
      go_enter Tryz.func18, Tryz.ntmps18
      go_wp2
      exact bodyPost_ret (v := .agg #[.int .i64 _, .int .u64 u, .string s, .int .i64 n, .int .i64 m]) (by simp [results, Tryz.results18, go_sem]) rfl ⟨rfl, box2 _ _ _⟩
  · have e1 : fk k = 4 := by simp [fk, hk]
    have e2 : fn k n = n := by simp [fn, e1]
    rw [e1, e2]
    simp only [kinds, List.mem_cons, List.not_mem_nil, or_false, not_or] at hk
    obtain ⟨k1, k2, k4, k8, k5, k6, k7, _, k10⟩ := hk
    have b1 : (k != 1) = true := by rw [bne_iff_ne]; exact k1
    have b2 : (k != 2) = true := by rw [bne_iff_ne]; exact k2
    have b4 : (k != 4) = true := by rw [bne_iff_ne]; exact k4
    have b8 : (k != 8) = true := by rw [bne_iff_ne]; exact k8
    have b5 : (k != 5) = true := by rw [bne_iff_ne]; exact k5
    have b6 : (k != 6) = true := by rw [bne_iff_ne]; exact k6
    have b7 : (k != 7) = true := by rw [bne_iff_ne]; exact k7
    have b9 : (k != 9) = true := by rw [bne_iff_ne]; exact h9
    have b10 : (k != 10) = true := by rw [bne_iff_ne]; exact k10
    clear e1 e2 k1 k2 k4 k8 k5 k6 k7 k10 h9
    go_enter Tryz.func18, Tryz.ntmps18
    go_wp2
    exact bodyPost_ret (v := .agg #[.int .i64 4, .int .u64 u, .string s, .int .i64 n, .int .i64 m]) (by simp [results, Tryz.results18, go_sem]) rfl ⟨rfl, box2 _ _ _⟩
end Go.Proofs.YtikolmpgnpkdbaaGreatDoor
