/-
  DERIVED. GIVEN WITH THE SEED: THE CARDS: each row of YtikolmpgnpkdbaaDoorRows.lean that lists a variable, with what it lists TIED to the program's text (the seventh form; the later family's looks); each row that meets fmt, with fmt's text TOLD by the authors' own Lean function (tested against real Go, not proved from fmt's source: count such statements apart). THE CARD IS WHAT COUNTS. Prove the row's statement (the work); the ties are given (YtikolmpgnpkdbaaDoorTie.lean); close each card by the builder's one call (the guide's Derived/Test/ToyasCard.lean, 'card_holds'). Laid BY PROGRAM, IN A SANDBOX (cutbox-door.mjs). By AI agents, Wed Nov 11 2026. No macro, syntax, notation, axiom, sorry.
-/
import Derived.Test.YtikolmpgnpkdbaaDoorRows
import GoSem.ClaimSeven
namespace Go.Proofs.YtikolmpgnpkdbaaDoor
namespace Rows

/-- THE TIED CARD OF 'almonerlaw1.BytesWrites'. -/
def bytesWritesCard : Claim7 := { stood := { row := bytesWritesRow, standIns := [], harness := (true, "d8e5d0a8dc62c6de0514b0335f28bc8d4db12300044d6e2d2187b95a7b936082"), looks := true }, kinds := [], alts := [], laidByText := true, laidKinds := [.handle, .sentinel, .sentinel, .sentinel, .sentinel, .sentinel, .sentinel, .sentinel], laidTests := true, laidLooks := .later }
def BytesWritesCardSaid : Prop := Claim7.holds Tryd.pinned (.plain (OpenSpec.ofChange bytesWritesSpec)) bytesWritesCard

/-- THE TIED CARD OF 'almonerlaw1.BytesReads'. -/
def bytesReadsCard : Claim7 := { stood := { row := bytesReadsRow, standIns := [], harness := (true, "d8e5d0a8dc62c6de0514b0335f28bc8d4db12300044d6e2d2187b95a7b936082"), looks := true }, kinds := [], alts := [], laidByText := true, laidKinds := [.handle, .sentinel, .sentinel, .sentinel, .sentinel, .sentinel, .sentinel, .sentinel], laidTests := true, laidLooks := .later }
def BytesReadsCardSaid : Prop := Claim7.holds Tryd.pinned (.plain (OpenSpec.ofChange bytesReadsSpec)) bytesReadsCard

/-- THE TIED CARD OF 'almonerlaw1.BytesBack'. -/
def bytesBackCard : Claim7 := { stood := { row := bytesBackRow, standIns := [], harness := (true, "d8e5d0a8dc62c6de0514b0335f28bc8d4db12300044d6e2d2187b95a7b936082"), looks := true }, kinds := [], alts := [], laidByText := true, laidKinds := [.sentinel, .sentinel, .sentinel, .sentinel, .sentinel, .sentinel, .sentinel], laidTests := true, laidLooks := .later }
def BytesBackCardSaid : Prop := Claim7.holds Tryd.pinned (.plain (OpenSpec.ofChange bytesBackSpec)) bytesBackCard

/-- THE TIED CARD OF 'almonerlaw1.BytesTwo'. -/
def bytesTwoCard : Claim7 := { stood := { row := bytesTwoRow, standIns := [], harness := (true, "d8e5d0a8dc62c6de0514b0335f28bc8d4db12300044d6e2d2187b95a7b936082"), looks := true }, kinds := [], alts := [], laidByText := true, laidKinds := [.sentinel, .sentinel, .sentinel, .sentinel, .sentinel, .sentinel, .sentinel], laidTests := true, laidLooks := .later }
def BytesTwoCardSaid : Prop := Claim7.holds Tryd.pinned (.plain (OpenSpec.ofChange bytesTwoSpec)) bytesTwoCard

/-- THE TIED CARD OF 'almonerlaw1.BytesKept'. -/
def bytesKeptCard : Claim7 := { stood := { row := bytesKeptRow, standIns := [], harness := (true, "d8e5d0a8dc62c6de0514b0335f28bc8d4db12300044d6e2d2187b95a7b936082"), looks := true }, kinds := [], alts := [], laidByText := true, laidKinds := [.sentinel, .sentinel, .sentinel], laidTests := true, laidLooks := .later }
def BytesKeptCardSaid : Prop := Claim7.holds Tryd.pinned (.plain (OpenSpec.ofChange bytesKeptSpec)) bytesKeptCard

/-- THE SECOND FORM's CARD OF 'almonerlaw1.BytesWrites'. -/
def bytesWritesUptoCard : Claim7 := { stood := { row := bytesWritesUptoRow, standIns := [], harness := (true, "d8e5d0a8dc62c6de0514b0335f28bc8d4db12300044d6e2d2187b95a7b936082"), looks := true }, kinds := [], alts := [], laidByText := true, laidKinds := [.handle, .sentinel, .sentinel, .sentinel, .sentinel, .sentinel, .sentinel, .sentinel], laidTests := true, laidLooks := .later }
def BytesWritesUptoCardSaid : Prop := Claim7.holds Tryd.pinned (.plain (OpenSpec.upto bytesWritesSpec)) bytesWritesUptoCard

/-- THE SECOND FORM's CARD OF 'almonerlaw1.BytesReads'. -/
def bytesReadsUptoCard : Claim7 := { stood := { row := bytesReadsUptoRow, standIns := [], harness := (true, "d8e5d0a8dc62c6de0514b0335f28bc8d4db12300044d6e2d2187b95a7b936082"), looks := true }, kinds := [], alts := [], laidByText := true, laidKinds := [.handle, .sentinel, .sentinel, .sentinel, .sentinel, .sentinel, .sentinel, .sentinel], laidTests := true, laidLooks := .later }
def BytesReadsUptoCardSaid : Prop := Claim7.holds Tryd.pinned (.plain (OpenSpec.upto bytesReadsSpec)) bytesReadsUptoCard

/-- THE SECOND FORM's CARD OF 'almonerlaw1.BytesBack'. -/
def bytesBackUptoCard : Claim7 := { stood := { row := bytesBackUptoRow, standIns := [], harness := (true, "d8e5d0a8dc62c6de0514b0335f28bc8d4db12300044d6e2d2187b95a7b936082"), looks := true }, kinds := [], alts := [], laidByText := true, laidKinds := [.sentinel, .sentinel, .sentinel, .sentinel, .sentinel, .sentinel, .sentinel], laidTests := true, laidLooks := .later }
def BytesBackUptoCardSaid : Prop := Claim7.holds Tryd.pinned (.plain (OpenSpec.upto bytesBackSpec)) bytesBackUptoCard

/-- THE SECOND FORM's CARD OF 'almonerlaw1.BytesTwo'. -/
def bytesTwoUptoCard : Claim7 := { stood := { row := bytesTwoUptoRow, standIns := [], harness := (true, "d8e5d0a8dc62c6de0514b0335f28bc8d4db12300044d6e2d2187b95a7b936082"), looks := true }, kinds := [], alts := [], laidByText := true, laidKinds := [.sentinel, .sentinel, .sentinel, .sentinel, .sentinel, .sentinel, .sentinel], laidTests := true, laidLooks := .later }
def BytesTwoUptoCardSaid : Prop := Claim7.holds Tryd.pinned (.plain (OpenSpec.upto bytesTwoSpec)) bytesTwoUptoCard

/-- THE SECOND FORM's CARD OF 'almonerlaw1.BytesKept'. -/
def bytesKeptUptoCard : Claim7 := { stood := { row := bytesKeptUptoRow, standIns := [], harness := (true, "d8e5d0a8dc62c6de0514b0335f28bc8d4db12300044d6e2d2187b95a7b936082"), looks := true }, kinds := [], alts := [], laidByText := true, laidKinds := [.sentinel, .sentinel, .sentinel], laidTests := true, laidLooks := .later }
def BytesKeptUptoCardSaid : Prop := Claim7.holds Tryd.pinned (.plain (OpenSpec.upto bytesKeptSpec)) bytesKeptUptoCard
end Rows
end Go.Proofs.YtikolmpgnpkdbaaDoor
