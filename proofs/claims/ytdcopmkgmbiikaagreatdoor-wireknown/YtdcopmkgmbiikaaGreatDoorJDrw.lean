import Derived.Test.YtdcopmkgmbiikaaGreatDoorJBase
import Derived.Deep.Draws
namespace Go.Proofs.YtdcopmkgmbiikaaGreatDoor
open Go.RowKit
theorem Fr.drewN {S:Nat→Prop} {a w:World} (h:Fr S a w) (n:Nat):Fr S a (w.drewN n):=⟨h.os,h.tape,h.output,h.size,h.block⟩
end Go.Proofs.YtdcopmkgmbiikaaGreatDoor
