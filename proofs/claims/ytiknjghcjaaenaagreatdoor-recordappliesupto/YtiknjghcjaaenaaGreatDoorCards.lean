/-
  DERIVED. GIVEN WITH THE SEED: THE CARDS: each row of YtiknjghcjaaenaaGreatDoorRows.lean that lists a variable, with what it lists TIED to the program's text (the seventh form; the later family's looks); each row that meets fmt, with fmt's text TOLD by the authors' own Lean function (tested against real Go, not proved from fmt's source: count such statements apart). THE CARD IS WHAT COUNTS. Prove the row's statement (the work); the ties are given (YtiknjghcjaaenaaGreatDoorTie.lean); close each card by the builder's one call (the guide's Derived/Test/ToyasCard.lean, 'card_holds'). Laid BY PROGRAM, IN A SANDBOX (cutbox-door.mjs). By AI agents, Wed Nov 11 2026. No macro, syntax, notation, axiom, sorry.
-/
import Derived.Test.YtiknjghcjaaenaaGreatDoorRows
import GoSem.ClaimSeven
namespace Go.Proofs.YtiknjghcjaaenaaGreatDoor
namespace Rows

/-- THE TIED CARD OF 'almonerlaw11.RecordApplies'. -/
def recordAppliesCard : Claim7 := { stood := { row := recordAppliesRow, standIns := [], harness := (true, "ce99016964ca82fbc9f6cb0a84169849a88b9845c86aa9e242f565a01350cad3"), looks := false }, kinds := [], alts := [], laidByText := true, laidKinds := [.data], laidTests := true, laidLooks := .later }
def RecordAppliesCardSaid : Prop := Claim7.holds Tryz.pinned (.plain (OpenSpec.ofChange recordAppliesSpec)) recordAppliesCard

/-- THE TIED CARD OF 'almonerlaw11.RecordAnswers'. -/
def recordAnswersCard : Claim7 := { stood := { row := recordAnswersRow, standIns := [], harness := (true, "ce99016964ca82fbc9f6cb0a84169849a88b9845c86aa9e242f565a01350cad3"), looks := false }, kinds := [], alts := [], laidByText := true, laidKinds := [.data], laidTests := true, laidLooks := .later }
def RecordAnswersCardSaid : Prop := Claim7.holds Tryz.pinned (.plain (OpenSpec.ofChange recordAnswersSpec)) recordAnswersCard

/-- THE TIED CARD OF 'almonerlaw11.RecordCopies'. -/
def recordCopiesCard : Claim7 := { stood := { row := recordCopiesRow, standIns := [], harness := (true, "ce99016964ca82fbc9f6cb0a84169849a88b9845c86aa9e242f565a01350cad3"), looks := false }, kinds := [], alts := [], laidByText := true, laidKinds := [.data], laidTests := true, laidLooks := .later }
def RecordCopiesCardSaid : Prop := Claim7.holds Tryz.pinned (.plain (OpenSpec.ofChange recordCopiesSpec)) recordCopiesCard

/-- THE SECOND FORM's CARD OF 'almonerlaw11.RecordApplies'. -/
def recordAppliesUptoCard : Claim7 := { stood := { row := recordAppliesUptoRow, standIns := [], harness := (true, "ce99016964ca82fbc9f6cb0a84169849a88b9845c86aa9e242f565a01350cad3"), looks := false }, kinds := [], alts := [], laidByText := true, laidKinds := [.data], laidTests := true, laidLooks := .later }
def RecordAppliesUptoCardSaid : Prop := Claim7.holds Tryz.pinned (.plain (OpenSpec.upto recordAppliesSpec)) recordAppliesUptoCard

/-- THE SECOND FORM's CARD OF 'almonerlaw11.RecordAnswers'. -/
def recordAnswersUptoCard : Claim7 := { stood := { row := recordAnswersUptoRow, standIns := [], harness := (true, "ce99016964ca82fbc9f6cb0a84169849a88b9845c86aa9e242f565a01350cad3"), looks := false }, kinds := [], alts := [], laidByText := true, laidKinds := [.data], laidTests := true, laidLooks := .later }
def RecordAnswersUptoCardSaid : Prop := Claim7.holds Tryz.pinned (.plain (OpenSpec.upto recordAnswersSpec)) recordAnswersUptoCard

/-- THE SECOND FORM's CARD OF 'almonerlaw11.RecordCopies'. -/
def recordCopiesUptoCard : Claim7 := { stood := { row := recordCopiesUptoRow, standIns := [], harness := (true, "ce99016964ca82fbc9f6cb0a84169849a88b9845c86aa9e242f565a01350cad3"), looks := false }, kinds := [], alts := [], laidByText := true, laidKinds := [.data], laidTests := true, laidLooks := .later }
def RecordCopiesUptoCardSaid : Prop := Claim7.holds Tryz.pinned (.plain (OpenSpec.upto recordCopiesSpec)) recordCopiesUptoCard
end Rows
end Go.Proofs.YtiknjghcjaaenaaGreatDoor
