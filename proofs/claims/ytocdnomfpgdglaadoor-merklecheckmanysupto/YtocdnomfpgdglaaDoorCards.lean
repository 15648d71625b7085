/-
  DERIVED. GIVEN WITH THE SEED: THE CARDS: each row of YtocdnomfpgdglaaDoorRows.lean that lists a variable, with what it lists TIED to the program's text (the seventh form; the later family's looks); each row that meets fmt, with fmt's text TOLD by the authors' own Lean function (tested against real Go, not proved from fmt's source: count such statements apart). THE CARD IS WHAT COUNTS. Prove the row's statement (the work); the ties are given (YtocdnomfpgdglaaDoorTie.lean); close each card by the builder's one call (the guide's Derived/Test/ToyasCard.lean, 'card_holds'). Laid BY PROGRAM, IN A SANDBOX (cutbox-door.mjs). By AI agents, Wed Nov 11 2026. No macro, syntax, notation, axiom, sorry.
-/
import Derived.Test.YtocdnomfpgdglaaDoorRows
import GoSem.ClaimSeven
namespace Go.Proofs.YtocdnomfpgdglaaDoor
namespace Rows

/-- THE TIED CARD OF 'almonerlaw4.MerkleKnown'. -/
def merkleKnownCard : Claim7 := { stood := { row := merkleKnownRow, standIns := [], harness := (true, "22c0d05fdacf05d8f25d0ea7efafcd4266558fea18c3e7542fd5d9f1bbce22dc"), looks := false }, kinds := [], alts := [], laidByText := true, laidKinds := [.data, .data, .data, .data], laidTests := true, laidLooks := .later }
def MerkleKnownCardSaid : Prop := Claim7.holds Tryd.pinned (.plain (OpenSpec.ofChange merkleKnownSpec)) merkleKnownCard

/-- THE TIED CARD OF 'almonerlaw4.MerkleRoots'. -/
def merkleRootsCard : Claim7 := { stood := { row := merkleRootsRow, standIns := [], harness := (true, "22c0d05fdacf05d8f25d0ea7efafcd4266558fea18c3e7542fd5d9f1bbce22dc"), looks := false }, kinds := [], alts := [], laidByText := true, laidKinds := [.data, .data, .data, .data, .data, .data], laidTests := true, laidLooks := .later }
def MerkleRootsCardSaid : Prop := Claim7.holds Tryd.pinned (.plain (OpenSpec.ofChange merkleRootsSpec)) merkleRootsCard

/-- THE TIED CARD OF 'almonerlaw4.MerklePaths'. -/
def merklePathsCard : Claim7 := { stood := { row := merklePathsRow, standIns := [], harness := (true, "22c0d05fdacf05d8f25d0ea7efafcd4266558fea18c3e7542fd5d9f1bbce22dc"), looks := false }, kinds := [], alts := [], laidByText := true, laidKinds := [.data, .data, .data, .data, .data, .data], laidTests := true, laidLooks := .later }
def MerklePathsCardSaid : Prop := Claim7.holds Tryd.pinned (.plain (OpenSpec.ofChange merklePathsSpec)) merklePathsCard

/-- THE TIED CARD OF 'almonerlaw4.MerkleManys'. -/
def merkleManysCard : Claim7 := { stood := { row := merkleManysRow, standIns := [], harness := (true, "22c0d05fdacf05d8f25d0ea7efafcd4266558fea18c3e7542fd5d9f1bbce22dc"), looks := false }, kinds := [], alts := [], laidByText := true, laidKinds := [.data, .data, .data, .data, .data, .data], laidTests := true, laidLooks := .later }
def MerkleManysCardSaid : Prop := Claim7.holds Tryd.pinned (.plain (OpenSpec.ofChange merkleManysSpec)) merkleManysCard

/-- THE TIED CARD OF 'almonerlaw4.MerkleChecks'. -/
def merkleChecksCard : Claim7 := { stood := { row := merkleChecksRow, standIns := [], harness := (true, "22c0d05fdacf05d8f25d0ea7efafcd4266558fea18c3e7542fd5d9f1bbce22dc"), looks := false }, kinds := [], alts := [], laidByText := true, laidKinds := [.data, .data, .data, .data, .data, .data], laidTests := true, laidLooks := .later }
def MerkleChecksCardSaid : Prop := Claim7.holds Tryd.pinned (.plain (OpenSpec.ofChange merkleChecksSpec)) merkleChecksCard

/-- THE TIED CARD OF 'almonerlaw4.MerkleCheckManys'. -/
def merkleCheckManysCard : Claim7 := { stood := { row := merkleCheckManysRow, standIns := [], harness := (true, "22c0d05fdacf05d8f25d0ea7efafcd4266558fea18c3e7542fd5d9f1bbce22dc"), looks := false }, kinds := [], alts := [], laidByText := true, laidKinds := [.data, .data, .data, .data, .data, .data], laidTests := true, laidLooks := .later }
def MerkleCheckManysCardSaid : Prop := Claim7.holds Tryd.pinned (.plain (OpenSpec.ofChange merkleCheckManysSpec)) merkleCheckManysCard

/-- THE SECOND FORM's CARD OF 'almonerlaw4.MerkleKnown'. -/
def merkleKnownUptoCard : Claim7 := { stood := { row := merkleKnownUptoRow, standIns := [], harness := (true, "22c0d05fdacf05d8f25d0ea7efafcd4266558fea18c3e7542fd5d9f1bbce22dc"), looks := false }, kinds := [], alts := [], laidByText := true, laidKinds := [.data, .data, .data, .data], laidTests := true, laidLooks := .later }
def MerkleKnownUptoCardSaid : Prop := Claim7.holds Tryd.pinned (.plain (OpenSpec.upto merkleKnownSpec)) merkleKnownUptoCard

/-- THE SECOND FORM's CARD OF 'almonerlaw4.MerkleRoots'. -/
def merkleRootsUptoCard : Claim7 := { stood := { row := merkleRootsUptoRow, standIns := [], harness := (true, "22c0d05fdacf05d8f25d0ea7efafcd4266558fea18c3e7542fd5d9f1bbce22dc"), looks := false }, kinds := [], alts := [], laidByText := true, laidKinds := [.data, .data, .data, .data, .data, .data], laidTests := true, laidLooks := .later }
def MerkleRootsUptoCardSaid : Prop := Claim7.holds Tryd.pinned (.plain (OpenSpec.upto merkleRootsSpec)) merkleRootsUptoCard

/-- THE SECOND FORM's CARD OF 'almonerlaw4.MerklePaths'. -/
def merklePathsUptoCard : Claim7 := { stood := { row := merklePathsUptoRow, standIns := [], harness := (true, "22c0d05fdacf05d8f25d0ea7efafcd4266558fea18c3e7542fd5d9f1bbce22dc"), looks := false }, kinds := [], alts := [], laidByText := true, laidKinds := [.data, .data, .data, .data, .data, .data], laidTests := true, laidLooks := .later }
def MerklePathsUptoCardSaid : Prop := Claim7.holds Tryd.pinned (.plain (OpenSpec.upto merklePathsSpec)) merklePathsUptoCard

/-- THE SECOND FORM's CARD OF 'almonerlaw4.MerkleManys'. -/
def merkleManysUptoCard : Claim7 := { stood := { row := merkleManysUptoRow, standIns := [], harness := (true, "22c0d05fdacf05d8f25d0ea7efafcd4266558fea18c3e7542fd5d9f1bbce22dc"), looks := false }, kinds := [], alts := [], laidByText := true, laidKinds := [.data, .data, .data, .data, .data, .data], laidTests := true, laidLooks := .later }
def MerkleManysUptoCardSaid : Prop := Claim7.holds Tryd.pinned (.plain (OpenSpec.upto merkleManysSpec)) merkleManysUptoCard

/-- THE SECOND FORM's CARD OF 'almonerlaw4.MerkleChecks'. -/
def merkleChecksUptoCard : Claim7 := { stood := { row := merkleChecksUptoRow, standIns := [], harness := (true, "22c0d05fdacf05d8f25d0ea7efafcd4266558fea18c3e7542fd5d9f1bbce22dc"), looks := false }, kinds := [], alts := [], laidByText := true, laidKinds := [.data, .data, .data, .data, .data, .data], laidTests := true, laidLooks := .later }
def MerkleChecksUptoCardSaid : Prop := Claim7.holds Tryd.pinned (.plain (OpenSpec.upto merkleChecksSpec)) merkleChecksUptoCard

/-- THE SECOND FORM's CARD OF 'almonerlaw4.MerkleCheckManys'. -/
def merkleCheckManysUptoCard : Claim7 := { stood := { row := merkleCheckManysUptoRow, standIns := [], harness := (true, "22c0d05fdacf05d8f25d0ea7efafcd4266558fea18c3e7542fd5d9f1bbce22dc"), looks := false }, kinds := [], alts := [], laidByText := true, laidKinds := [.data, .data, .data, .data, .data, .data], laidTests := true, laidLooks := .later }
def MerkleCheckManysUptoCardSaid : Prop := Claim7.holds Tryd.pinned (.plain (OpenSpec.upto merkleCheckManysSpec)) merkleCheckManysUptoCard
end Rows
end Go.Proofs.YtocdnomfpgdglaaDoor
