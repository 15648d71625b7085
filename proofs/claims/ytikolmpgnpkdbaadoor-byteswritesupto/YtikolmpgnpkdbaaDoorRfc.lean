import Derived.Test.YtikolmpgnpkdbaaDoorRfb
namespace Go.Proofs.YtikolmpgnpkdbaaDoor
open Go.RowKit

/-- Why a part can't be laid, as the ref has it. -/
def wrongN (p : Pt) : Int := if p.k = 5 ∧ quantB (p.u % 4294967296) = false then 4 else if p.k = 6 ∧ p.m < (p.s.size : Int) then 2 else if p.k = 7 ∧ p.n < 0 then 4 else if p.k = 7 ∧ (p.m < p.n ∨ 4294967295 < p.n) then 2 else if p.k = 9 then p.n else 0

theorem gwrong1 (u : Nat) (s : ByteArray) (n m : Int) (w : World) : Calls Tryd.prog 66 #[.agg #[.int .i64 1, .int .u64 u, .string s, .int .i64 n, .int .i64 m]] w fun e w' => e = .returned (.int .i64 (wrongN ⟨1, u, s, n, m⟩)) ∧ Fr (fun _ => False) w w' := by
  have hr : wrongN ⟨1, u, s, n, m⟩ = 0 := by simp [wrongN]
  rw [hr]
  clear hr
  go_enter Tryd.func66, Tryd.ntmps66
  go_wp2_with fail
  go_ret
  exact ⟨rfl, box1 _ _⟩
theorem gwrong2 (u : Nat) (s : ByteArray) (n m : Int) (w : World) : Calls Tryd.prog 66 #[.agg #[.int .i64 2, .int .u64 u, .string s, .int .i64 n, .int .i64 m]] w fun e w' => e = .returned (.int .i64 (wrongN ⟨2, u, s, n, m⟩)) ∧ Fr (fun _ => False) w w' := by
  have hr : wrongN ⟨2, u, s, n, m⟩ = 0 := by simp [wrongN]
  rw [hr]
  clear hr
  go_enter Tryd.func66, Tryd.ntmps66
  go_wp2_with fail
  go_ret
  exact ⟨rfl, box1 _ _⟩
theorem gwrong4 (u : Nat) (s : ByteArray) (n m : Int) (w : World) : Calls Tryd.prog 66 #[.agg #[.int .i64 4, .int .u64 u, .string s, .int .i64 n, .int .i64 m]] w fun e w' => e = .returned (.int .i64 (wrongN ⟨4, u, s, n, m⟩)) ∧ Fr (fun _ => False) w w' := by
  have hr : wrongN ⟨4, u, s, n, m⟩ = 0 := by simp [wrongN]
  rw [hr]
  clear hr
  go_enter Tryd.func66, Tryd.ntmps66
  go_wp2_with fail
  go_ret
  exact ⟨rfl, box1 _ _⟩
theorem gwrong8 (u : Nat) (s : ByteArray) (n m : Int) (w : World) : Calls Tryd.prog 66 #[.agg #[.int .i64 8, .int .u64 u, .string s, .int .i64 n, .int .i64 m]] w fun e w' => e = .returned (.int .i64 (wrongN ⟨8, u, s, n, m⟩)) ∧ Fr (fun _ => False) w w' := by
  have hr : wrongN ⟨8, u, s, n, m⟩ = 0 := by simp [wrongN]
  rw [hr]
  clear hr
  go_enter Tryd.func66, Tryd.ntmps66
  go_wp2_with fail
  go_ret
  exact ⟨rfl, box1 _ _⟩
theorem gwrong10 (u : Nat) (s : ByteArray) (n m : Int) (w : World) : Calls Tryd.prog 66 #[.agg #[.int .i64 10, .int .u64 u, .string s, .int .i64 n, .int .i64 m]] w fun e w' => e = .returned (.int .i64 (wrongN ⟨10, u, s, n, m⟩)) ∧ Fr (fun _ => False) w w' := by
  have hr : wrongN ⟨10, u, s, n, m⟩ = 0 := by simp [wrongN]
  rw [hr]
  clear hr
  go_enter Tryd.func66, Tryd.ntmps66
  go_wp2_with fail
  go_ret
  exact ⟨rfl, box1 _ _⟩
theorem gwrong9 (u : Nat) (s : ByteArray) (n m : Int) (w : World) : Calls Tryd.prog 66 #[.agg #[.int .i64 9, .int .u64 u, .string s, .int .i64 n, .int .i64 m]] w fun e w' => e = .returned (.int .i64 (wrongN ⟨9, u, s, n, m⟩)) ∧ Fr (fun _ => False) w w' := by
  have hr : wrongN ⟨9, u, s, n, m⟩ = n := by simp [wrongN]
  rw [hr]
  clear hr
  go_enter Tryd.func66, Tryd.ntmps66
  go_wp2_with fail
  go_ret
  exact ⟨rfl, box1 _ _⟩
theorem gwrong6 (u : Nat) (s : ByteArray) (n m : Int) (w : World) : Calls Tryd.prog 66 #[.agg #[.int .i64 6, .int .u64 u, .string s, .int .i64 n, .int .i64 m]] w fun e w' => e = .returned (.int .i64 (wrongN ⟨6, u, s, n, m⟩)) ∧ Fr (fun _ => False) w w' := by
  by_cases h : m < (s.size : Int)
  · have hr : wrongN ⟨6, u, s, n, m⟩ = 2 := by simp [wrongN, h]
    rw [hr]
    clear hr
    go_enter Tryd.func66, Tryd.ntmps66
    go_wp2_with fail
    go_ret
    exact ⟨rfl, box1 _ _⟩
  · have hr : wrongN ⟨6, u, s, n, m⟩ = 0 := by simp [wrongN, h]
    rw [hr]
    clear hr
    go_enter Tryd.func66, Tryd.ntmps66
    go_wp2_with fail
    go_ret
    exact ⟨rfl, box1 _ _⟩
theorem gwrong5 (u : Nat) (s : ByteArray) (n m : Int) (w : World) (hu : u < 18446744073709551616) : Calls Tryd.prog 66 #[.agg #[.int .i64 5, .int .u64 u, .string s, .int .i64 n, .int .i64 m]] w fun e w' => e = .returned (.int .i64 (wrongN ⟨5, u, s, n, m⟩)) ∧ Fr (fun _ => False) w w' := by
  have hq := gquant_any (u % 4294967296) (w.alloc (.cells #[.int .i64 5, .int .u64 u, .string s, .int .i64 n, .int .i64 m] 31)) (by omega)
  have ec : ((u % 4294967296 : Nat) : Int) = (u : Int) % 4294967296 := by omega
  rw [ec] at hq
  have HQ := hide hq
  clear hq ec
  cases h : quantB (u % 4294967296)
  · have hr : wrongN ⟨5, u, s, n, m⟩ = 4 := by simp [wrongN, h]
    rw [hr]
    rw [h] at HQ
    clear hr
    go_enter Tryd.func66, Tryd.ntmps66
    go_wp2_with fail
    refine (unhide HQ).mono ?_
    rintro e w' ⟨rfl, rfl⟩
    go_wp2_with fail
    go_ret
    exact ⟨rfl, box1 _ _⟩
  · have hr : wrongN ⟨5, u, s, n, m⟩ = 0 := by simp [wrongN, h]
    rw [hr]
    rw [h] at HQ
    clear hr
    go_enter Tryd.func66, Tryd.ntmps66
    go_wp2_with fail
    refine (unhide HQ).mono ?_
    rintro e w' ⟨rfl, rfl⟩
    go_wp2_with fail
    go_ret
    exact ⟨rfl, box1 _ _⟩
end Go.Proofs.YtikolmpgnpkdbaaDoor
