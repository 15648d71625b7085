/-
  DERIVED. GIVEN WITH THE SEED: THE CARDS: each row of YtkpaoebpjcdglabDoorRows.lean that lists a variable, with what it lists TIED to the program's text (the seventh form; the later family's looks); each row that meets fmt, with fmt's text TOLD by the authors' own Lean function (tested against real Go, not proved from fmt's source: count such statements apart). THE CARD IS WHAT COUNTS. Prove the row's statement (the work); the ties are given (YtkpaoebpjcdglabDoorTie.lean); close each card by the builder's one call (the guide's Derived/Test/ToyasCard.lean, 'card_holds'). Laid BY PROGRAM, IN A SANDBOX (cutbox-door.mjs). By AI agents, Wed Nov 11 2026. No macro, syntax, notation, axiom, sorry.
-/
import Derived.Test.YtkpaoebpjcdglabDoorRows
import GoSem.ClaimSeven
namespace Go.Proofs.YtkpaoebpjcdglabDoor
namespace Rows

/-- THE TIED CARD OF 'almonerlaw11.RecordRefuses'. -/
def recordRefusesCard : Claim7 := { stood := { row := recordRefusesRow, standIns := [], harness := (true, "2181cff21242b1a409dfcf8d0d569144a9a345690ec8aa166b6082276a471c17"), looks := false }, kinds := [], alts := [], laidByText := true, laidKinds := [.data], laidTests := true, laidLooks := .later }
def RecordRefusesCardSaid : Prop := Claim7.holds Tryd.pinned (.plain (OpenSpec.ofChange recordRefusesSpec)) recordRefusesCard

/-- THE TIED CARD OF 'almonerlaw11.RecordHidden'. -/
def recordHiddenCard : Claim7 := { stood := { row := recordHiddenRow, standIns := [], harness := (true, "2181cff21242b1a409dfcf8d0d569144a9a345690ec8aa166b6082276a471c17"), looks := false }, kinds := [], alts := [], laidByText := true, laidKinds := [.data], laidTests := true, laidLooks := .later }
def RecordHiddenCardSaid : Prop := Claim7.holds Tryd.pinned (.plain (OpenSpec.ofChange recordHiddenSpec)) recordHiddenCard

/-- THE SECOND FORM's CARD OF 'almonerlaw11.RecordRefuses'. -/
def recordRefusesUptoCard : Claim7 := { stood := { row := recordRefusesUptoRow, standIns := [], harness := (true, "2181cff21242b1a409dfcf8d0d569144a9a345690ec8aa166b6082276a471c17"), looks := false }, kinds := [], alts := [], laidByText := true, laidKinds := [.data], laidTests := true, laidLooks := .later }
def RecordRefusesUptoCardSaid : Prop := Claim7.holds Tryd.pinned (.plain (OpenSpec.upto recordRefusesSpec)) recordRefusesUptoCard

/-- THE SECOND FORM's CARD OF 'almonerlaw11.RecordHidden'. -/
def recordHiddenUptoCard : Claim7 := { stood := { row := recordHiddenUptoRow, standIns := [], harness := (true, "2181cff21242b1a409dfcf8d0d569144a9a345690ec8aa166b6082276a471c17"), looks := false }, kinds := [], alts := [], laidByText := true, laidKinds := [.data], laidTests := true, laidLooks := .later }
def RecordHiddenUptoCardSaid : Prop := Claim7.holds Tryd.pinned (.plain (OpenSpec.upto recordHiddenSpec)) recordHiddenUptoCard
end Rows
end Go.Proofs.YtkpaoebpjcdglabDoor
