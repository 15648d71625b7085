/-
  DERIVED. GIVEN WITH THE SEED: THE CARDS: each row of YtciblhmmpamjoaaDoorRows.lean that lists a variable, with what it lists TIED to the program's text (the seventh form; the later family's looks); each row that meets fmt, with fmt's text TOLD by the authors' own Lean function (tested against real Go, not proved from fmt's source: count such statements apart). THE CARD IS WHAT COUNTS. Prove the row's statement (the work); the ties are given (YtciblhmmpamjoaaDoorTie.lean); close each card by the builder's one call (the guide's Derived/Test/ToyasCard.lean, 'card_holds'). Laid BY PROGRAM, IN A SANDBOX (cutbox-door.mjs). By AI agents, Wed Nov 11 2026. No macro, syntax, notation, axiom, sorry.
-/
import Derived.Test.YtciblhmmpamjoaaDoorRows
import GoSem.ClaimSeven
namespace Go.Proofs.YtciblhmmpamjoaaDoor
namespace Rows

/-- THE TIED CARD OF 'almonerlaw11.RecordHidden'. -/
def recordHiddenCard : Claim7 := { stood := { row := recordHiddenRow, standIns := [], harness := (true, "90b68b49e36e84f05f5ac7bfbd2f4284301e41f9e194fffba41dd73fa35145f7"), looks := false }, kinds := [], alts := [], laidByText := true, laidKinds := [.data], laidTests := true, laidLooks := .later }
def RecordHiddenCardSaid : Prop := Claim7.holds Tryd.pinned (.plain (OpenSpec.ofChange recordHiddenSpec)) recordHiddenCard

/-- THE SECOND FORM's CARD OF 'almonerlaw11.RecordHidden'. -/
def recordHiddenUptoCard : Claim7 := { stood := { row := recordHiddenUptoRow, standIns := [], harness := (true, "90b68b49e36e84f05f5ac7bfbd2f4284301e41f9e194fffba41dd73fa35145f7"), looks := false }, kinds := [], alts := [], laidByText := true, laidKinds := [.data], laidTests := true, laidLooks := .later }
def RecordHiddenUptoCardSaid : Prop := Claim7.holds Tryd.pinned (.plain (OpenSpec.upto recordHiddenSpec)) recordHiddenUptoCard
end Rows
end Go.Proofs.YtciblhmmpamjoaaDoor
