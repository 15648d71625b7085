import Derived.Test.YtkiepcdncegniaaZae
namespace Go.Proofs.Ytkiepcdncegniaa
open Go.RowKit Go.Maps Go.Sort Go.Shelf

/-- What two ids' numbers are to one another. -/
def cmpN (a b : Nat) : Int := if a < b then -1 else if b < a then 1 else 0
set_option maxRecDepth 100000 in
theorem nanU (a : Nat) (w : World) : Calls Try.prog 58 #[.int .u32 (a : Nat)] w fun e w' => e = .returned (.bool false) ∧ w' = w := by
  go_enter Try.func58, Try.ntmps58
  go_wp2_with fail
  go_ret
  exact ⟨rfl, rfl⟩
set_option maxRecDepth 100000 in
theorem compareU (a b : Nat) (w : World) : Calls Try.prog 47 #[.int .u32 (a : Nat), .int .u32 (b : Nat)] w fun e w' => e = .returned (.int .i64 (cmpN a b)) ∧ w' = w := by
  rcases Nat.lt_trichotomy a b with h | h | h
  · have e : cmpN a b = -1 := by simp [cmpN, h]
    have h1 : (a : Int) < (b : Int) := by omega
    rw [e]
    clear e
    go_enter Try.func47, Try.ntmps47
    go_wp2_with fail
    refine (nanU a w).mono ?_
    rintro e w1 ⟨rfl, rfl⟩
    go_wp2_with fail
    refine (nanU b _).mono ?_
    rintro e w1 ⟨rfl, rfl⟩
    go_wp2_with fail
    go_ret
    exact ⟨rfl, rfl⟩
  · subst h
    have e : cmpN a a = 0 := by simp [cmpN]
    rw [e]
    clear e
    go_enter Try.func47, Try.ntmps47
    go_wp2_with fail
    refine (nanU a w).mono ?_
    rintro e w1 ⟨rfl, rfl⟩
    go_wp2_with fail
    refine (nanU a _).mono ?_
    rintro e w1 ⟨rfl, rfl⟩
    go_wp2_with fail
    go_ret
    exact ⟨rfl, rfl⟩
  · have e : cmpN a b = 1 := by simp [cmpN, h]; omega
    have h1 : (b : Int) < (a : Int) := by omega
    have h2 : ¬ (a : Int) < (b : Int) := by omega
    have h3 : ¬ a < b := by omega
    rw [e]
    clear e
    go_enter Try.func47, Try.ntmps47
    go_wp2_with fail
    refine (nanU a w).mono ?_
    rintro e w1 ⟨rfl, rfl⟩
    go_wp2_with fail
    refine (nanU b _).mono ?_
    rintro e w1 ⟨rfl, rfl⟩
    go_wp2_with fail
    go_ret
    exact ⟨rfl, rfl⟩
set_option maxRecDepth 100000 in
/-- byCall. -/
theorem byCall_any (x y : Nat × Nat) (W : World) : Calls Try.prog 31 #[.agg #[.int .u32 (x.1 : Nat), .int .u32 (x.2 : Nat)], .agg #[.int .u32 (y.1 : Nat), .int .u32 (y.2 : Nat)]] W fun e w' => e = .returned (.int .i64 (cmpN x.2 y.2)) ∧ w' = (W.alloc (.cells #[.int .u32 (x.1 : Nat), .int .u32 (x.2 : Nat)] 29)).alloc (.cells #[.int .u32 (y.1 : Nat), .int .u32 (y.2 : Nat)] 29) := by
  have HC := hide (fun W' => compareU x.2 y.2 W')
  generalize cmpN x.2 y.2 = r at HC ⊢
  go_enter Try.func31, Try.ntmps31
  go_wp2_with fail
  refine (unhide HC _).mono ?_
  rintro e w1 ⟨rfl, rfl⟩
  go_wp2_with fail
  go_ret
  exact ⟨rfl, rfl⟩
end Go.Proofs.Ytkiepcdncegniaa
