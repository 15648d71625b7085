import Derived.Test.YtjkkonhhnmjcaaaGreatDoorRdd
import Derived.Test.YtjkkonhhnmjcaaaGreatDoorTld
import Derived.Test.YtjkkonhhnmjcaaaGreatDoorFai
namespace Go.Proofs.YtjkkonhhnmjcaaaGreatDoor
open Go.RowKit

theorem Ch.ahead {w wa w' : World} {F F' : Nat → Prop} (h : Ch w wa F F') (ha : Fr (fun _ => False) wa w') : Ch w w' F F' :=
  ⟨h.fr.trans ha (fun _ _ e => e.elim), h.new⟩

end Go.Proofs.YtjkkonhhnmjcaaaGreatDoor
