import Derived.Test.YtkiepcdncegniaaOab
namespace Go.Proofs.Ytkiepcdncegniaa
open Go.RowKit

theorem Try.fbitsO (x : Nat) (w : World) : (callFunc 51 #[.float .f32 x]).run Try.prog w = .ok (.value (.int .u32 x)) w := by
  have h := @run_callFunc_extern Try.prog 51 _ Extern.MathFloatBits.float32bits Try.func51 (by kernel_rfl) (by kernel_rfl) (by kernel_rfl) (by kernel_rfl) #[.float .f32 x] w
  rw [h]; rfl
theorem Try.feq (x y : Nat) (w : World) : (binOp .eql 77 (.float .f32 x) (.float .f32 y)).run Try.prog w = .ok (.bool (Op.floatEq .f32 x y)) w := by kernel_rfl
set_option maxRecDepth 100000 in
theorem within_fin (x : Nat) (w : World) (hx : x < 4294967296) (hf : x % 2147483648 < 2139095040) :
    Calls Try.prog 80 #[.float .f32 x, .float .f32 4286578687, .float .f32 2139095039] w fun e w' => e = .returned (.bool true) ∧ w' = w := by
  have h1 := fun a ty W => run_max_fin Try.prog W a ty x hx hf
  have h2 := fun a ty W => run_min_fin Try.prog W a ty x hx hf
  have h3 : Op.floatEq .f32 x x = true := by
    have := ord_self x hf
    show (Ieee.single.order x x == some .eq) = true
    rw [this]; rfl
  have hq := Try.feq
  go_enter Try.func80, Try.ntmps80
  go_wp2_with fail
  go_ret
  exact ⟨rfl, rfl⟩
set_option maxRecDepth 100000 in
theorem within_inf (b : Bool) (w : World) :
    Calls Try.prog 80 #[.float .f32 (if b then 4286578688 else 2139095040), .float .f32 4286578687, .float .f32 2139095039] w fun e w' => e = .returned (.bool false) ∧ w' = w := by
  have h1 := fun a ty W => run_max_inf Try.prog W a ty b
  have h2 := fun a ty W => run_min_inf Try.prog W a ty b
  have h3 : Op.floatEq .f32 (if b then 4286578687 else 2139095039) (if b then 4286578688 else 2139095040) = false := by cases b <;> decide
  have hq := Try.feq
  generalize (if b then 4286578688 else 2139095040 : Nat) = X at *
  generalize (if b then 4286578687 else 2139095040 : Nat) = Y at *
  generalize (if b then 4286578687 else 2139095039 : Nat) = Z at *
  go_enter Try.func80, Try.ntmps80
  go_wp2_with fail
  go_ret
  exact ⟨rfl, rfl⟩
set_option maxRecDepth 100000 in
theorem within_nan (x : Nat) (w : World) (hf : 2139095040 < x % 2147483648) :
    Calls Try.prog 80 #[.float .f32 x, .float .f32 4286578687, .float .f32 2139095039] w fun e w' => e = .returned (.bool false) ∧ ∃ q, w' = w.drewN q := by
  obtain ⟨z, hz, h1⟩ := run_max_nan Try.prog w #[77, 77] 77 x 4286578687 hf
  obtain ⟨u, hu, h2⟩ := run_min_nan Try.prog w.drew #[77, 77] 77 z 2139095039 hz
  have h3 : Op.floatEq .f32 u x = false := by
    have := ord_nan_l u x hu
    show (Ieee.single.order u x == some .eq) = false
    rw [this]; rfl
  have hq := Try.feq
  go_enter Try.func80, Try.ntmps80
  go_wp2_with fail
  go_ret
  exact ⟨rfl, 2, rfl⟩
end Go.Proofs.Ytkiepcdncegniaa
