import Derived.Test.YtjkkonhhnmjcaaaGreatDoorAwk
namespace Go.Proofs.YtjkkonhhnmjcaaaGreatDoor
open Go.RowKit

end Go.Proofs.YtjkkonhhnmjcaaaGreatDoor
