import Derived.Test.YtgpbkdhldakpmaaGreatDoorIsx
namespace Go.Proofs.YtgpbkdhldakpmaaGreatDoor
open Go.RowKit

end Go.Proofs.YtgpbkdhldakpmaaGreatDoor
