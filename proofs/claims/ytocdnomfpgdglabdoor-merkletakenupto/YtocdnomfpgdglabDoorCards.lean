/-
  DERIVED. GIVEN WITH THE SEED: THE CARDS: each row of YtocdnomfpgdglabDoorRows.lean that lists a variable, with what it lists TIED to the program's text (the seventh form; the later family's looks); each row that meets fmt, with fmt's text TOLD by the authors' own Lean function (tested against real Go, not proved from fmt's source: count such statements apart). THE CARD IS WHAT COUNTS. Prove the row's statement (the work); the ties are given (YtocdnomfpgdglabDoorTie.lean); close each card by the builder's one call (the guide's Derived/Test/ToyasCard.lean, 'card_holds'). Laid BY PROGRAM, IN A SANDBOX (cutbox-door.mjs). By AI agents, Wed Nov 11 2026. No macro, syntax, notation, axiom, sorry.
-/
import Derived.Test.YtocdnomfpgdglabDoorRows
import GoSem.ClaimSeven
namespace Go.Proofs.YtocdnomfpgdglabDoor
namespace Rows

/-- THE TIED CARD OF 'almonerlaw4.MerkleCollides'. -/
def merkleCollidesCard : Claim7 := { stood := { row := merkleCollidesRow, standIns := [], harness := (true, "3c1fb31b5b0c3c34737a85aa38478bad9e039cdad52f561aa0f1a3ee84203c9d"), looks := false }, kinds := [], alts := [], laidByText := true, laidKinds := [.data, .data, .data, .data, .data, .data], laidTests := true, laidLooks := .later }
def MerkleCollidesCardSaid : Prop := Claim7.holds Tryd.pinned (.plain (OpenSpec.ofChange merkleCollidesSpec)) merkleCollidesCard

/-- THE TIED CARD OF 'almonerlaw4.MerkleSound'. -/
def merkleSoundCard : Claim7 := { stood := { row := merkleSoundRow, standIns := [], harness := (true, "3c1fb31b5b0c3c34737a85aa38478bad9e039cdad52f561aa0f1a3ee84203c9d"), looks := false }, kinds := [], alts := [], laidByText := true, laidKinds := [.data, .data, .data, .data], laidTests := true, laidLooks := .later }
def MerkleSoundCardSaid : Prop := Claim7.holds Tryd.pinned (.plain (OpenSpec.ofChange merkleSoundSpec)) merkleSoundCard

/-- THE TIED CARD OF 'almonerlaw4.MerkleTaken'. -/
def merkleTakenCard : Claim7 := { stood := { row := merkleTakenRow, standIns := [], harness := (true, "3c1fb31b5b0c3c34737a85aa38478bad9e039cdad52f561aa0f1a3ee84203c9d"), looks := false }, kinds := [], alts := [], laidByText := true, laidKinds := [.data, .data, .data, .data], laidTests := true, laidLooks := .later }
def MerkleTakenCardSaid : Prop := Claim7.holds Tryd.pinned (.plain (OpenSpec.ofChange merkleTakenSpec)) merkleTakenCard

/-- THE TIED CARD OF 'almonerlaw4.MerkleTrees'. -/
def merkleTreesCard : Claim7 := { stood := { row := merkleTreesRow, standIns := [], harness := (true, "3c1fb31b5b0c3c34737a85aa38478bad9e039cdad52f561aa0f1a3ee84203c9d"), looks := false }, kinds := [], alts := [], laidByText := true, laidKinds := [.data, .data, .data, .data, .data, .data], laidTests := true, laidLooks := .later }
def MerkleTreesCardSaid : Prop := Claim7.holds Tryd.pinned (.plain (OpenSpec.ofChange merkleTreesSpec)) merkleTreesCard

/-- THE TIED CARD OF 'almonerlaw4.MerklePeaks'. -/
def merklePeaksCard : Claim7 := { stood := { row := merklePeaksRow, standIns := [], harness := (true, "3c1fb31b5b0c3c34737a85aa38478bad9e039cdad52f561aa0f1a3ee84203c9d"), looks := false }, kinds := [], alts := [], laidByText := true, laidKinds := [.data, .data, .data, .data], laidTests := true, laidLooks := .later }
def MerklePeaksCardSaid : Prop := Claim7.holds Tryd.pinned (.plain (OpenSpec.ofChange merklePeaksSpec)) merklePeaksCard

/-- THE SECOND FORM's CARD OF 'almonerlaw4.MerkleCollides'. -/
def merkleCollidesUptoCard : Claim7 := { stood := { row := merkleCollidesUptoRow, standIns := [], harness := (true, "3c1fb31b5b0c3c34737a85aa38478bad9e039cdad52f561aa0f1a3ee84203c9d"), looks := false }, kinds := [], alts := [], laidByText := true, laidKinds := [.data, .data, .data, .data, .data, .data], laidTests := true, laidLooks := .later }
def MerkleCollidesUptoCardSaid : Prop := Claim7.holds Tryd.pinned (.plain (OpenSpec.upto merkleCollidesSpec)) merkleCollidesUptoCard

/-- THE SECOND FORM's CARD OF 'almonerlaw4.MerkleSound'. -/
def merkleSoundUptoCard : Claim7 := { stood := { row := merkleSoundUptoRow, standIns := [], harness := (true, "3c1fb31b5b0c3c34737a85aa38478bad9e039cdad52f561aa0f1a3ee84203c9d"), looks := false }, kinds := [], alts := [], laidByText := true, laidKinds := [.data, .data, .data, .data], laidTests := true, laidLooks := .later }
def MerkleSoundUptoCardSaid : Prop := Claim7.holds Tryd.pinned (.plain (OpenSpec.upto merkleSoundSpec)) merkleSoundUptoCard

/-- THE SECOND FORM's CARD OF 'almonerlaw4.MerkleTaken'. -/
def merkleTakenUptoCard : Claim7 := { stood := { row := merkleTakenUptoRow, standIns := [], harness := (true, "3c1fb31b5b0c3c34737a85aa38478bad9e039cdad52f561aa0f1a3ee84203c9d"), looks := false }, kinds := [], alts := [], laidByText := true, laidKinds := [.data, .data, .data, .data], laidTests := true, laidLooks := .later }
def MerkleTakenUptoCardSaid : Prop := Claim7.holds Tryd.pinned (.plain (OpenSpec.upto merkleTakenSpec)) merkleTakenUptoCard

/-- THE SECOND FORM's CARD OF 'almonerlaw4.MerkleTrees'. -/
def merkleTreesUptoCard : Claim7 := { stood := { row := merkleTreesUptoRow, standIns := [], harness := (true, "3c1fb31b5b0c3c34737a85aa38478bad9e039cdad52f561aa0f1a3ee84203c9d"), looks := false }, kinds := [], alts := [], laidByText := true, laidKinds := [.data, .data, .data, .data, .data, .data], laidTests := true, laidLooks := .later }
def MerkleTreesUptoCardSaid : Prop := Claim7.holds Tryd.pinned (.plain (OpenSpec.upto merkleTreesSpec)) merkleTreesUptoCard

/-- THE SECOND FORM's CARD OF 'almonerlaw4.MerklePeaks'. -/
def merklePeaksUptoCard : Claim7 := { stood := { row := merklePeaksUptoRow, standIns := [], harness := (true, "3c1fb31b5b0c3c34737a85aa38478bad9e039cdad52f561aa0f1a3ee84203c9d"), looks := false }, kinds := [], alts := [], laidByText := true, laidKinds := [.data, .data, .data, .data], laidTests := true, laidLooks := .later }
def MerklePeaksUptoCardSaid : Prop := Claim7.holds Tryd.pinned (.plain (OpenSpec.upto merklePeaksSpec)) merklePeaksUptoCard
end Rows
end Go.Proofs.YtocdnomfpgdglabDoor
