import Derived.Test.YtgpbkdhldakpmaaGreatDoorAwk
namespace Go.Proofs.YtgpbkdhldakpmaaGreatDoor
open Go.RowKit

end Go.Proofs.YtgpbkdhldakpmaaGreatDoor
