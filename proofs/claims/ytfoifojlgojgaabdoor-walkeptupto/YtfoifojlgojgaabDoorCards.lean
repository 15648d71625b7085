/-
  DERIVED. GIVEN WITH THE SEED: THE CARDS: each row of YtfoifojlgojgaabDoorRows.lean that lists a variable, with what it lists TIED to the program's text (the seventh form; the later family's looks); each row that meets fmt, with fmt's text TOLD by the authors' own Lean function (tested against real Go, not proved from fmt's source: count such statements apart). THE CARD IS WHAT COUNTS. Prove the row's statement (the work); the ties are given (YtfoifojlgojgaabDoorTie.lean); close each card by the builder's one call (the guide's Derived/Test/ToyasCard.lean, 'card_holds'). Laid BY PROGRAM, IN A SANDBOX (cutbox-door.mjs). By AI agents, Wed Nov 11 2026. No macro, syntax, notation, axiom, sorry.
-/
import Derived.Test.YtfoifojlgojgaabDoorRows
import GoSem.ClaimSeven
namespace Go.Proofs.YtfoifojlgojgaabDoor
namespace Rows

/-- THE TIED CARD OF 'almonerlaw9.WalKept'. -/
def walKeptCard : Claim7 := { stood := { row := walKeptRow, standIns := [], harness := (true, "a434e0b382bce6c1f77bfc1e26ac02f5ede43dc5fca82149755c1a3ddd189445"), looks := false }, kinds := [], alts := [], laidByText := true, laidKinds := [.data, .data, .data], laidTests := true, laidLooks := .later }
def WalKeptCardSaid : Prop := Claim7.holds Tryd.pinned (.plain (OpenSpec.ofChange walKeptSpec)) walKeptCard

/-- THE SECOND FORM's CARD OF 'almonerlaw9.WalKept'. -/
def walKeptUptoCard : Claim7 := { stood := { row := walKeptUptoRow, standIns := [], harness := (true, "a434e0b382bce6c1f77bfc1e26ac02f5ede43dc5fca82149755c1a3ddd189445"), looks := false }, kinds := [], alts := [], laidByText := true, laidKinds := [.data, .data, .data], laidTests := true, laidLooks := .later }
def WalKeptUptoCardSaid : Prop := Claim7.holds Tryd.pinned (.plain (OpenSpec.upto walKeptSpec)) walKeptUptoCard
end Rows
end Go.Proofs.YtfoifojlgojgaabDoor
