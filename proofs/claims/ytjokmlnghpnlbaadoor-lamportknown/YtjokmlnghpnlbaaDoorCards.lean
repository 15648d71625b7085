/-
  DERIVED. GIVEN WITH THE SEED: THE CARDS: each row of YtjokmlnghpnlbaaDoorRows.lean that lists a variable, with what it lists TIED to the program's text (the seventh form; the later family's looks); each row that meets fmt, with fmt's text TOLD by the authors' own Lean function (tested against real Go, not proved from fmt's source: count such statements apart). THE CARD IS WHAT COUNTS. Prove the row's statement (the work); the ties are given (YtjokmlnghpnlbaaDoorTie.lean); close each card by the builder's one call (the guide's Derived/Test/ToyasCard.lean, 'card_holds'). Laid BY PROGRAM, IN A SANDBOX (cutbox-door.mjs). By AI agents, Wed Nov 11 2026. No macro, syntax, notation, axiom, sorry.
-/
import Derived.Test.YtjokmlnghpnlbaaDoorRows
import GoSem.ClaimSeven
namespace Go.Proofs.YtjokmlnghpnlbaaDoor
namespace Rows

/-- THE TIED CARD OF 'almonerlaw5.LamportKnown'. -/
def lamportKnownCard : Claim7 := { stood := { row := lamportKnownRow, standIns := [], harness := (true, "b530bccbc68dd535e944722de3498bf30c8b4079741c0e20c3eafdb838a154af"), looks := false }, kinds := [], alts := [], laidByText := true, laidKinds := [.data, .data, .data, .data], laidTests := true, laidLooks := .later }
def LamportKnownCardSaid : Prop := Claim7.holds Tryd.pinned (.plain (OpenSpec.ofChange lamportKnownSpec)) lamportKnownCard

/-- THE TIED CARD OF 'almonerlaw5.LamportSizes'. -/
def lamportSizesCard : Claim7 := { stood := { row := lamportSizesRow, standIns := [], harness := (true, "b530bccbc68dd535e944722de3498bf30c8b4079741c0e20c3eafdb838a154af"), looks := false }, kinds := [], alts := [], laidByText := true, laidKinds := [.data, .data, .data, .data, .data, .data], laidTests := true, laidLooks := .later }
def LamportSizesCardSaid : Prop := Claim7.holds Tryd.pinned (.plain (OpenSpec.ofChange lamportSizesSpec)) lamportSizesCard

/-- THE TIED CARD OF 'almonerlaw5.LamportSigns'. -/
def lamportSignsCard : Claim7 := { stood := { row := lamportSignsRow, standIns := [], harness := (true, "b530bccbc68dd535e944722de3498bf30c8b4079741c0e20c3eafdb838a154af"), looks := false }, kinds := [], alts := [], laidByText := true, laidKinds := [.data, .data, .data, .data, .data, .data], laidTests := true, laidLooks := .later }
def LamportSignsCardSaid : Prop := Claim7.holds Tryd.pinned (.plain (OpenSpec.ofChange lamportSignsSpec)) lamportSignsCard

/-- THE TIED CARD OF 'almonerlaw5.LamportChecks'. -/
def lamportChecksCard : Claim7 := { stood := { row := lamportChecksRow, standIns := [], harness := (true, "b530bccbc68dd535e944722de3498bf30c8b4079741c0e20c3eafdb838a154af"), looks := false }, kinds := [], alts := [], laidByText := true, laidKinds := [.data, .data, .data, .data, .data, .data], laidTests := true, laidLooks := .later }
def LamportChecksCardSaid : Prop := Claim7.holds Tryd.pinned (.plain (OpenSpec.ofChange lamportChecksSpec)) lamportChecksCard

/-- THE TIED CARD OF 'almonerlaw5.LamportTaken'. -/
def lamportTakenCard : Claim7 := { stood := { row := lamportTakenRow, standIns := [], harness := (true, "b530bccbc68dd535e944722de3498bf30c8b4079741c0e20c3eafdb838a154af"), looks := false }, kinds := [], alts := [], laidByText := true, laidKinds := [.data, .data, .data, .data, .data, .data], laidTests := true, laidLooks := .later }
def LamportTakenCardSaid : Prop := Claim7.holds Tryd.pinned (.plain (OpenSpec.ofChange lamportTakenSpec)) lamportTakenCard

/-- THE SECOND FORM's CARD OF 'almonerlaw5.LamportKnown'. -/
def lamportKnownUptoCard : Claim7 := { stood := { row := lamportKnownUptoRow, standIns := [], harness := (true, "b530bccbc68dd535e944722de3498bf30c8b4079741c0e20c3eafdb838a154af"), looks := false }, kinds := [], alts := [], laidByText := true, laidKinds := [.data, .data, .data, .data], laidTests := true, laidLooks := .later }
def LamportKnownUptoCardSaid : Prop := Claim7.holds Tryd.pinned (.plain (OpenSpec.upto lamportKnownSpec)) lamportKnownUptoCard

/-- THE SECOND FORM's CARD OF 'almonerlaw5.LamportSizes'. -/
def lamportSizesUptoCard : Claim7 := { stood := { row := lamportSizesUptoRow, standIns := [], harness := (true, "b530bccbc68dd535e944722de3498bf30c8b4079741c0e20c3eafdb838a154af"), looks := false }, kinds := [], alts := [], laidByText := true, laidKinds := [.data, .data, .data, .data, .data, .data], laidTests := true, laidLooks := .later }
def LamportSizesUptoCardSaid : Prop := Claim7.holds Tryd.pinned (.plain (OpenSpec.upto lamportSizesSpec)) lamportSizesUptoCard

/-- THE SECOND FORM's CARD OF 'almonerlaw5.LamportSigns'. -/
def lamportSignsUptoCard : Claim7 := { stood := { row := lamportSignsUptoRow, standIns := [], harness := (true, "b530bccbc68dd535e944722de3498bf30c8b4079741c0e20c3eafdb838a154af"), looks := false }, kinds := [], alts := [], laidByText := true, laidKinds := [.data, .data, .data, .data, .data, .data], laidTests := true, laidLooks := .later }
def LamportSignsUptoCardSaid : Prop := Claim7.holds Tryd.pinned (.plain (OpenSpec.upto lamportSignsSpec)) lamportSignsUptoCard

/-- THE SECOND FORM's CARD OF 'almonerlaw5.LamportChecks'. -/
def lamportChecksUptoCard : Claim7 := { stood := { row := lamportChecksUptoRow, standIns := [], harness := (true, "b530bccbc68dd535e944722de3498bf30c8b4079741c0e20c3eafdb838a154af"), looks := false }, kinds := [], alts := [], laidByText := true, laidKinds := [.data, .data, .data, .data, .data, .data], laidTests := true, laidLooks := .later }
def LamportChecksUptoCardSaid : Prop := Claim7.holds Tryd.pinned (.plain (OpenSpec.upto lamportChecksSpec)) lamportChecksUptoCard

/-- THE SECOND FORM's CARD OF 'almonerlaw5.LamportTaken'. -/
def lamportTakenUptoCard : Claim7 := { stood := { row := lamportTakenUptoRow, standIns := [], harness := (true, "b530bccbc68dd535e944722de3498bf30c8b4079741c0e20c3eafdb838a154af"), looks := false }, kinds := [], alts := [], laidByText := true, laidKinds := [.data, .data, .data, .data, .data, .data], laidTests := true, laidLooks := .later }
def LamportTakenUptoCardSaid : Prop := Claim7.holds Tryd.pinned (.plain (OpenSpec.upto lamportTakenSpec)) lamportTakenUptoCard
end Rows
end Go.Proofs.YtjokmlnghpnlbaaDoor
