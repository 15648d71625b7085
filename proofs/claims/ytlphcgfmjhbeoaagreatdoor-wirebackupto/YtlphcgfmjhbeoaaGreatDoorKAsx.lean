import Derived.Test.YtlphcgfmjhbeoaaGreatDoorKBal
import Derived.LaidEql
import Derived.Stop.Asserts
import Derived.RowKitTokens
namespace Go.Proofs.YtlphcgfmjhbeoaaGreatDoor
open Go.RowKit Go.Extern.Stop Go.Stop Go.Extern
def ty (n : Nat) : Value := .pointer (some ⟨9, n, none⟩)
end Go.Proofs.YtlphcgfmjhbeoaaGreatDoor
