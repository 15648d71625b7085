import Derived.Test.YtjkkonhhnmjcaaaGreatDoorAsx
namespace Go.Proofs.YtjkkonhhnmjcaaaGreatDoor
open Go.RowKit Go.Extern.Stop Go.Stop Go.Extern

end Go.Proofs.YtjkkonhhnmjcaaaGreatDoor
