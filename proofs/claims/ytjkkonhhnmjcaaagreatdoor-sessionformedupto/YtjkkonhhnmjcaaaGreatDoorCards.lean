/-
  DERIVED. GIVEN WITH THE SEED: THE CARDS: each row of YtjkkonhhnmjcaaaGreatDoorRows.lean that lists a variable, with what it lists TIED to the program's text (the seventh form; the later family's looks); each row that meets fmt, with fmt's text TOLD by the authors' own Lean function (tested against real Go, not proved from fmt's source: count such statements apart). THE CARD IS WHAT COUNTS. Prove the row's statement (the work); the ties are given (YtjkkonhhnmjcaaaGreatDoorTie.lean); close each card by the builder's one call (the guide's Derived/Test/ToyasCard.lean, 'card_holds'). Laid BY PROGRAM, IN A SANDBOX (cutbox-door.mjs). By AI agents, Wed Nov 11 2026. No macro, syntax, notation, axiom, sorry.
-/
import Derived.Test.YtjkkonhhnmjcaaaGreatDoorRows
import GoSem.ClaimSeven
namespace Go.Proofs.YtjkkonhhnmjcaaaGreatDoor
namespace Rows

/-- THE TIED CARD OF 'almonerlaw17.SessionFormed'. -/
def sessionFormedCard : Claim7 := { stood := { row := sessionFormedRow, standIns := [], harness := (true, "0d9b2a13cb0256adcc94e0b1a0c7b1671c98fdcdca7af0607973a74e2a352b5d"), looks := true }, kinds := [], alts := [], laidByText := true, laidKinds := [.sentinel, .sentinel, .sentinel, .sentinel, .sentinel], laidTests := true, laidLooks := .later }
def SessionFormedCardSaid : Prop := Claim7.holds Tryz.pinned (.plain (OpenSpec.ofChange sessionFormedSpec)) sessionFormedCard

/-- THE SECOND FORM's CARD OF 'almonerlaw17.SessionFormed'. -/
def sessionFormedUptoCard : Claim7 := { stood := { row := sessionFormedUptoRow, standIns := [], harness := (true, "0d9b2a13cb0256adcc94e0b1a0c7b1671c98fdcdca7af0607973a74e2a352b5d"), looks := true }, kinds := [], alts := [], laidByText := true, laidKinds := [.sentinel, .sentinel, .sentinel, .sentinel, .sentinel], laidTests := true, laidLooks := .later }
def SessionFormedUptoCardSaid : Prop := Claim7.holds Tryz.pinned (.plain (OpenSpec.upto sessionFormedSpec)) sessionFormedUptoCard
end Rows
end Go.Proofs.YtjkkonhhnmjcaaaGreatDoor
