/-
  DERIVED. GIVEN WITH THE SEED: THE CARDS: each row of YthccbfgjekdiiaaDoorRows.lean that lists a variable, with what it lists TIED to the program's text (the seventh form; the later family's looks); each row that meets fmt, with fmt's text TOLD by the authors' own Lean function (tested against real Go, not proved from fmt's source: count such statements apart). THE CARD IS WHAT COUNTS. Prove the row's statement (the work); the ties are given (YthccbfgjekdiiaaDoorTie.lean); close each card by the builder's one call (the guide's Derived/Test/ToyasCard.lean, 'card_holds'). Laid BY PROGRAM, IN A SANDBOX (cutbox-door.mjs). By AI agents, Wed Nov 11 2026. No macro, syntax, notation, axiom, sorry.
-/
import Derived.Test.YthccbfgjekdiiaaDoorRows
import GoSem.ClaimSeven
namespace Go.Proofs.YthccbfgjekdiiaaDoor
namespace Rows

/-- THE TIED CARD OF 'almonerlaw4.MerkleTaken'. -/
def merkleTakenCard : Claim7 := { stood := { row := merkleTakenRow, standIns := [], harness := (true, "7598aa51d09475df0132791156a588004b1a8c783fb46f5d8c92a103f9724226"), looks := false }, kinds := [], alts := [], laidByText := true, laidKinds := [.data, .data, .data, .data], laidTests := true, laidLooks := .later }
def MerkleTakenCardSaid : Prop := Claim7.holds Tryd.pinned (.plain (OpenSpec.ofChange merkleTakenSpec)) merkleTakenCard

/-- THE TIED CARD OF 'almonerlaw4.MerkleTrees'. -/
def merkleTreesCard : Claim7 := { stood := { row := merkleTreesRow, standIns := [], harness := (true, "7598aa51d09475df0132791156a588004b1a8c783fb46f5d8c92a103f9724226"), looks := false }, kinds := [], alts := [], laidByText := true, laidKinds := [.data, .data, .data, .data, .data, .data], laidTests := true, laidLooks := .later }
def MerkleTreesCardSaid : Prop := Claim7.holds Tryd.pinned (.plain (OpenSpec.ofChange merkleTreesSpec)) merkleTreesCard

/-- THE SECOND FORM's CARD OF 'almonerlaw4.MerkleTaken'. -/
def merkleTakenUptoCard : Claim7 := { stood := { row := merkleTakenUptoRow, standIns := [], harness := (true, "7598aa51d09475df0132791156a588004b1a8c783fb46f5d8c92a103f9724226"), looks := false }, kinds := [], alts := [], laidByText := true, laidKinds := [.data, .data, .data, .data], laidTests := true, laidLooks := .later }
def MerkleTakenUptoCardSaid : Prop := Claim7.holds Tryd.pinned (.plain (OpenSpec.upto merkleTakenSpec)) merkleTakenUptoCard

/-- THE SECOND FORM's CARD OF 'almonerlaw4.MerkleTrees'. -/
def merkleTreesUptoCard : Claim7 := { stood := { row := merkleTreesUptoRow, standIns := [], harness := (true, "7598aa51d09475df0132791156a588004b1a8c783fb46f5d8c92a103f9724226"), looks := false }, kinds := [], alts := [], laidByText := true, laidKinds := [.data, .data, .data, .data, .data, .data], laidTests := true, laidLooks := .later }
def MerkleTreesUptoCardSaid : Prop := Claim7.holds Tryd.pinned (.plain (OpenSpec.upto merkleTreesSpec)) merkleTreesUptoCard
end Rows
end Go.Proofs.YthccbfgjekdiiaaDoor
