/-
  DERIVED. GIVEN WITH THE SEED: THE CARDS: each row of YtikolmpgnpkdbaaGreatDoorRows.lean that lists a variable, with what it lists TIED to the program's text (the seventh form; the later family's looks); each row that meets fmt, with fmt's text TOLD by the authors' own Lean function (tested against real Go, not proved from fmt's source: count such statements apart). THE CARD IS WHAT COUNTS. Prove the row's statement (the work); the ties are given (YtikolmpgnpkdbaaGreatDoorTie.lean); close each card by the builder's one call (the guide's Derived/Test/ToyasCard.lean, 'card_holds'). Laid BY PROGRAM, IN A SANDBOX (cutbox-door.mjs). By AI agents, Wed Nov 11 2026. No macro, syntax, notation, axiom, sorry.
-/
import Derived.Test.YtikolmpgnpkdbaaGreatDoorRows
import GoSem.ClaimSeven
namespace Go.Proofs.YtikolmpgnpkdbaaGreatDoor
namespace Rows

/-- THE TIED CARD OF 'almonerlaw1.BytesKnown'. -/
def bytesKnownCard : Claim7 := { stood := { row := bytesKnownRow, standIns := [], harness := (true, "45fed22b0e91416523a01fed1c6bd8b5320039cde008f7ee47615372c3630295"), looks := true }, kinds := [], alts := [], laidByText := true, laidKinds := [.handle, .sentinel, .sentinel, .sentinel, .sentinel, .sentinel, .sentinel, .sentinel], laidTests := true, laidLooks := .later }
def BytesKnownCardSaid : Prop := Claim7.holds Tryz.pinned (.plain (OpenSpec.ofChange bytesKnownSpec)) bytesKnownCard

/-- THE SECOND FORM's CARD OF 'almonerlaw1.BytesKnown'. -/
def bytesKnownUptoCard : Claim7 := { stood := { row := bytesKnownUptoRow, standIns := [], harness := (true, "45fed22b0e91416523a01fed1c6bd8b5320039cde008f7ee47615372c3630295"), looks := true }, kinds := [], alts := [], laidByText := true, laidKinds := [.handle, .sentinel, .sentinel, .sentinel, .sentinel, .sentinel, .sentinel, .sentinel], laidTests := true, laidLooks := .later }
def BytesKnownUptoCardSaid : Prop := Claim7.holds Tryz.pinned (.plain (OpenSpec.upto bytesKnownSpec)) bytesKnownUptoCard
end Rows
end Go.Proofs.YtikolmpgnpkdbaaGreatDoor
