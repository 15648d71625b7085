import Derived.Test.YtcpbmphknonflaaGreatDoorAwk
namespace Go.Proofs.YtcpbmphknonflaaGreatDoor
open Go.RowKit

end Go.Proofs.YtcpbmphknonflaaGreatDoor
