import Derived.Test.YtjkkonhhnmjcaaaGreatDoorAsy
namespace Go.Proofs.YtjkkonhhnmjcaaaGreatDoor
open Go.RowKit Go.Extern.Stop Go.Stop Go.Extern

theorem rl_infoE : (Tryz.prog.info? 265).map (·.comparable) = some true := by kernel_rfl
theorem rl_sizeE : (Tryz.prog.info? 281).map (·.size) = some 1 := by kernel_rfl
end Go.Proofs.YtjkkonhhnmjcaaaGreatDoor
