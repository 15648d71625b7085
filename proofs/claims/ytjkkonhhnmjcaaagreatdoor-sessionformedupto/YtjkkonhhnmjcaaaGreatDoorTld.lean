import Derived.Test.YtjkkonhhnmjcaaaGreatDoorIsx
namespace Go.Proofs.YtjkkonhhnmjcaaaGreatDoor
open Go.RowKit

end Go.Proofs.YtjkkonhhnmjcaaaGreatDoor
