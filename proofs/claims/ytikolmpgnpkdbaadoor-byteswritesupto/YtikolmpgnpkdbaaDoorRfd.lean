import Derived.Test.YtikolmpgnpkdbaaDoorRfc
namespace Go.Proofs.YtikolmpgnpkdbaaDoor
open Go.RowKit

theorem gwrong7 (u : Nat) (s : ByteArray) (n m : Int) (w : World) : Calls Tryd.prog 66 #[.agg #[.int .i64 7, .int .u64 u, .string s, .int .i64 n, .int .i64 m]] w fun e w' => e = .returned (.int .i64 (wrongN ⟨7, u, s, n, m⟩)) ∧ Fr (fun _ => False) w w' := by
  by_cases h0 : n < 0
  · have hr : wrongN ⟨7, u, s, n, m⟩ = 4 := by simp [wrongN, h0]
    rw [hr]
    clear hr
    go_enter Tryd.func66, Tryd.ntmps66
    go_wp2_with fail
    go_ret
    exact ⟨rfl, box1 _ _⟩
  by_cases h1 : m < n
  · have hr : wrongN ⟨7, u, s, n, m⟩ = 2 := by simp [wrongN, h0, h1]
    rw [hr]
    clear hr
    go_enter Tryd.func66, Tryd.ntmps66
    go_wp2_with fail
    go_ret
    exact ⟨rfl, box1 _ _⟩
  by_cases h2 : 4294967295 < n
  · have hr : wrongN ⟨7, u, s, n, m⟩ = 2 := by simp [wrongN, h0, h2]
    rw [hr]
    clear hr
    go_enter Tryd.func66, Tryd.ntmps66
    go_wp2_with fail
    go_ret
    exact ⟨rfl, box1 _ _⟩
  · have hr : wrongN ⟨7, u, s, n, m⟩ = 0 := by simp [wrongN, h0, h1, h2]
    rw [hr]
    clear hr
    go_enter Tryd.func66, Tryd.ntmps66
    go_wp2_with fail
    go_ret
    exact ⟨rfl, box1 _ _⟩

theorem gwrong_any (p : Pt) (w : World) (hk : p.k ∈ kinds) (hu : p.u < 18446744073709551616) : Calls Tryd.prog 66 #[.agg #[.int .i64 p.k, .int .u64 p.u, .string p.s, .int .i64 p.n, .int .i64 p.m]] w fun e w' => e = .returned (.int .i64 (wrongN p)) ∧ Fr (fun _ => False) w w' := by
  obtain ⟨k, u, s, n, m⟩ := p
  simp only [kinds, List.mem_cons, List.not_mem_nil, or_false] at hk hu ⊢
  rcases hk with rfl | rfl | rfl | rfl | rfl | rfl | rfl | rfl | rfl
  · exact gwrong1 u s n m w
  · exact gwrong2 u s n m w
  · exact gwrong4 u s n m w
  · exact gwrong8 u s n m w
  · exact gwrong5 u s n m w hu
  · exact gwrong6 u s n m w
  · exact gwrong7 u s n m w
  · exact gwrong9 u s n m w
  · exact gwrong10 u s n m w

theorem gnumber_v (v n : Nat) (w : World) (hn : n ≤ 8) (hv : v < 18446744073709551616) : Calls Tryd.prog 96 #[.int .u64 v, .int .i64 n] w fun e w' => ∃ x, e = .returned x ∧ Src w' x (be n v) ∧ Fr (fun _ => False) w w' :=
  (gnumber_any v n w hn hv).mono (fun _ _ h => ⟨_, h.1, own_src (by rw [be_length]; exact h.2.1), h.2.2⟩)

theorem glaid1 (u : Nat) (s : ByteArray) (n m : Int) (w : World) (hu : u < 18446744073709551616) : Calls Tryd.prog 67 #[.agg #[.int .i64 1, .int .u64 u, .string s, .int .i64 n, .int .i64 m]] w fun e w' => ∃ v, e = .returned v ∧ Src w' v (be 1 u) ∧ Fr (fun _ => False) w w' := by
  go_enter Tryd.func67, Tryd.ntmps67
  go_wp2_with fail
  refine (gnumber_v u 1 _ (by decide) hu).mono ?_
  rintro e w' ⟨x, rfl, hs, hf⟩
  have H := hide (And.intro hs hf)
  clear hs hf
  go_wp2_with fail
  go_ret
  exact ⟨_, rfl, (unhide H).1, (box1 w _).trans (unhide H).2 (fun _ _ h => h)⟩
theorem glaid2 (u : Nat) (s : ByteArray) (n m : Int) (w : World) (hu : u < 18446744073709551616) : Calls Tryd.prog 67 #[.agg #[.int .i64 2, .int .u64 u, .string s, .int .i64 n, .int .i64 m]] w fun e w' => ∃ v, e = .returned v ∧ Src w' v (be 2 u) ∧ Fr (fun _ => False) w w' := by
  go_enter Tryd.func67, Tryd.ntmps67
  go_wp2_with fail
  refine (gnumber_v u 2 _ (by decide) hu).mono ?_
  rintro e w' ⟨x, rfl, hs, hf⟩
  have H := hide (And.intro hs hf)
  clear hs hf
  go_wp2_with fail
  go_ret
  exact ⟨_, rfl, (unhide H).1, (box1 w _).trans (unhide H).2 (fun _ _ h => h)⟩
theorem glaid4 (u : Nat) (s : ByteArray) (n m : Int) (w : World) (hu : u < 18446744073709551616) : Calls Tryd.prog 67 #[.agg #[.int .i64 4, .int .u64 u, .string s, .int .i64 n, .int .i64 m]] w fun e w' => ∃ v, e = .returned v ∧ Src w' v (be 4 u) ∧ Fr (fun _ => False) w w' := by
  go_enter Tryd.func67, Tryd.ntmps67
  go_wp2_with fail
  refine (gnumber_v u 4 _ (by decide) hu).mono ?_
  rintro e w' ⟨x, rfl, hs, hf⟩
  have H := hide (And.intro hs hf)
  clear hs hf
  go_wp2_with fail
  go_ret
  exact ⟨_, rfl, (unhide H).1, (box1 w _).trans (unhide H).2 (fun _ _ h => h)⟩
theorem glaid8 (u : Nat) (s : ByteArray) (n m : Int) (w : World) (hu : u < 18446744073709551616) : Calls Tryd.prog 67 #[.agg #[.int .i64 8, .int .u64 u, .string s, .int .i64 n, .int .i64 m]] w fun e w' => ∃ v, e = .returned v ∧ Src w' v (be 8 u) ∧ Fr (fun _ => False) w w' := by
  go_enter Tryd.func67, Tryd.ntmps67
  go_wp2_with fail
  refine (gnumber_v u 8 _ (by decide) hu).mono ?_
  rintro e w' ⟨x, rfl, hs, hf⟩
  have H := hide (And.intro hs hf)
  clear hs hf
  go_wp2_with fail
  go_ret
  exact ⟨_, rfl, (unhide H).1, (box1 w _).trans (unhide H).2 (fun _ _ h => h)⟩
theorem glaid5 (u : Nat) (s : ByteArray) (n m : Int) (w : World) (hu : u < 18446744073709551616) : Calls Tryd.prog 67 #[.agg #[.int .i64 5, .int .u64 u, .string s, .int .i64 n, .int .i64 m]] w fun e w' => ∃ v, e = .returned v ∧ Src w' v (be 4 u) ∧ Fr (fun _ => False) w w' := by
  go_enter Tryd.func67, Tryd.ntmps67
  go_wp2_with fail
  refine (gnumber_v u 4 _ (by decide) hu).mono ?_
  rintro e w' ⟨x, rfl, hs, hf⟩
  have H := hide (And.intro hs hf)
  clear hs hf
  go_wp2_with fail
  go_ret
  exact ⟨_, rfl, (unhide H).1, (box1 w _).trans (unhide H).2 (fun _ _ h => h)⟩
theorem glaid7 (u q : Nat) (s : ByteArray) (m : Int) (w : World) (hq : q < 9223372036854775808) : Calls Tryd.prog 67 #[.agg #[.int .i64 7, .int .u64 u, .string s, .int .i64 q, .int .i64 m]] w fun e w' => ∃ v, e = .returned v ∧ Src w' v (be 4 q) ∧ Fr (fun _ => False) w w' := by
  have hwr : IntKind.u64.wrap (q : Int) = (q : Int) := by rw [IntKind.wrap_u64]; omega
  go_enter Tryd.func67, Tryd.ntmps67
  go_wp2_with fail
  refine (gnumber_v q 4 _ (by decide) (by omega)).mono ?_
  rintro e w' ⟨x, rfl, hs, hf⟩
  have H := hide (And.intro hs hf)
  clear hs hf
  go_wp2_with fail
  go_ret
  exact ⟨_, rfl, (unhide H).1, (box1 w _).trans (unhide H).2 (fun _ _ h => h)⟩
theorem glaid9 (u : Nat) (s : ByteArray) (n m : Int) (w : World) : Calls Tryd.prog 67 #[.agg #[.int .i64 9, .int .u64 u, .string s, .int .i64 n, .int .i64 m]] w fun e w' => ∃ v, e = .returned v ∧ Src w' v [] ∧ Fr (fun _ => False) w w' := by
  go_enter Tryd.func67, Tryd.ntmps67
  go_wp2_with fail
  go_ret
  exact ⟨_, rfl, .inl ⟨rfl, rfl⟩, box1 w _⟩
end Go.Proofs.YtikolmpgnpkdbaaDoor
