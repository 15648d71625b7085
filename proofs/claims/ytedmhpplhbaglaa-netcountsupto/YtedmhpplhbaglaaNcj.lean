import Derived.Test.YtedmhpplhbaglaaNci
namespace Go.Proofs.Ytedmhpplhbaglaa
open Go.RowKit Go.ChangeShapes Go.WideShapes Go.Maps

theorem ncounts_v (v : Value) (A : List OpV) (w : World) (hA : OpsAt w v A) (hn : A.length ≤ 1048575) :
    Calls Try.prog 5 #[v] w fun e w' => e = .returned (.bool true) ∧ Fr (fun _ => False) w w' := by
  obtain ⟨ao, c, rfl⟩ := hA.form
  exact ncounts_any ao c A w hA hn
end Go.Proofs.Ytedmhpplhbaglaa
