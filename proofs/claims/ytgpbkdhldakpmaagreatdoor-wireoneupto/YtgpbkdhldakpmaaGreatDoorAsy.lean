import Derived.Test.YtgpbkdhldakpmaaGreatDoorAsx
namespace Go.Proofs.YtgpbkdhldakpmaaGreatDoor
open Go.RowKit Go.Extern.Stop Go.Stop Go.Extern

theorem rl_mElem (fuel : Nat) (h : Value) (w : World) : (Go.method (fuel + 1) 93 (.agg #[h]) "Elem").run Tryz.prog w = .ok (191, .agg #[h]) w := by kernel_rfl
theorem rl_mImpl (fuel : Nat) (h : Value) (w : World) : (Go.method (fuel + 1) 93 (.agg #[h]) "Implements").run Tryz.prog w = .ok (192, .agg #[h]) w := by kernel_rfl
theorem rl_mAssign (fuel : Nat) (h : Value) (w : World) : (Go.method (fuel + 1) 93 (.agg #[h]) "AssignableTo").run Tryz.prog w = .ok (189, .agg #[h]) w := by kernel_rfl
theorem rl_mComp (fuel : Nat) (h : Value) (w : World) : (Go.method (fuel + 1) 93 (.agg #[h]) "Comparable").run Tryz.prog w = .ok (190, .agg #[h]) w := by kernel_rfl


end Go.Proofs.YtgpbkdhldakpmaaGreatDoor
