import Derived.Shelf.SlSortCmp.NoneTotal
import Derived.Shelf.SlicesG.Cmp
import Derived.Shelf.LaysM
import Derived.Test.YtfoifojlgojgaabDoorDkt
namespace Go.Proofs.YtfoifojlgojgaabDoor
open Go.RowKit Go.Maps Go.Sort Go.Shelf

end Go.Proofs.YtfoifojlgojgaabDoor
