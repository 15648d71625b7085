import Derived.Test.YtjkkonhhnmjcaaaGreatDoorRtx
namespace Go.Proofs.YtjkkonhhnmjcaaaGreatDoor
open Go.RowKit

theorem box1b (w : World) (b : Nat) (a : Obj) : Fr (fun k => k = b) w (w.alloc a) := (box1 w a).mono (fun _ _ h => h.elim)


end Go.Proofs.YtjkkonhhnmjcaaaGreatDoor
