import Derived.Test.YtfoifojlgojgaabDoorDlo
namespace Go.Proofs.YtfoifojlgojgaabDoor
open Go.RowKit Go.ChangeShapes Go.WideShapes Go.Maps Go.Sort

/-- A bit of a file turned. -/
def DM.turned (s : DM) (x : List UInt8) (a k : Nat) : DM := { s with F := fun j => if j = x then (s.F x).turn a k else s.F j }
end Go.Proofs.YtfoifojlgojgaabDoor
