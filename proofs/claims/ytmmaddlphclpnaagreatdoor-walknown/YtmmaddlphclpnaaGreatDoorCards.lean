/-
  DERIVED. GIVEN WITH THE SEED: THE CARDS: each row of YtmmaddlphclpnaaGreatDoorRows.lean that lists a variable, with what it lists TIED to the program's text (the seventh form; the later family's looks); each row that meets fmt, with fmt's text TOLD by the authors' own Lean function (tested against real Go, not proved from fmt's source: count such statements apart). THE CARD IS WHAT COUNTS. Prove the row's statement (the work); the ties are given (YtmmaddlphclpnaaGreatDoorTie.lean); close each card by the builder's one call (the guide's Derived/Test/ToyasCard.lean, 'card_holds'). Laid BY PROGRAM, IN A SANDBOX (cutbox-door.mjs). By AI agents, Wed Nov 11 2026. No macro, syntax, notation, axiom, sorry.
-/
import Derived.Test.YtmmaddlphclpnaaGreatDoorRows
import GoSem.ClaimSeven
namespace Go.Proofs.YtmmaddlphclpnaaGreatDoor
namespace Rows

/-- THE TIED CARD OF 'almonerlaw9.WalKnown'. -/
def walKnownCard : Claim7 := { stood := { row := walKnownRow, standIns := [], harness := (true, "d90ac96156d0be44a58165f97fd77868724a719cfeb9de0cd467ba2451c63d80"), looks := false }, kinds := [], alts := [], laidByText := true, laidKinds := [.data, .data, .data], laidTests := true, laidLooks := .later }
def WalKnownCardSaid : Prop := Claim7.holds Tryz.pinned (.plain (OpenSpec.ofChange walKnownSpec)) walKnownCard

/-- THE TIED CARD OF 'almonerlaw9.WalPlays'. -/
def walPlaysCard : Claim7 := { stood := { row := walPlaysRow, standIns := [], harness := (true, "d90ac96156d0be44a58165f97fd77868724a719cfeb9de0cd467ba2451c63d80"), looks := false }, kinds := [], alts := [], laidByText := true, laidKinds := [.data, .data, .data], laidTests := true, laidLooks := .later }
def WalPlaysCardSaid : Prop := Claim7.holds Tryz.pinned (.plain (OpenSpec.ofChange walPlaysSpec)) walPlaysCard

/-- THE TIED CARD OF 'almonerlaw9.WalRecovers'. -/
def walRecoversCard : Claim7 := { stood := { row := walRecoversRow, standIns := [], harness := (true, "d90ac96156d0be44a58165f97fd77868724a719cfeb9de0cd467ba2451c63d80"), looks := false }, kinds := [], alts := [], laidByText := true, laidKinds := [.data, .data, .data], laidTests := true, laidLooks := .later }
def WalRecoversCardSaid : Prop := Claim7.holds Tryz.pinned (.plain (OpenSpec.ofChange walRecoversSpec)) walRecoversCard

/-- THE TIED CARD OF 'almonerlaw9.WalWhole'. -/
def walWholeCard : Claim7 := { stood := { row := walWholeRow, standIns := [], harness := (true, "d90ac96156d0be44a58165f97fd77868724a719cfeb9de0cd467ba2451c63d80"), looks := false }, kinds := [], alts := [], laidByText := true, laidKinds := [.data, .data, .data], laidTests := true, laidLooks := .later }
def WalWholeCardSaid : Prop := Claim7.holds Tryz.pinned (.plain (OpenSpec.ofChange walWholeSpec)) walWholeCard

/-- THE TIED CARD OF 'almonerlaw9.WalTurned'. -/
def walTurnedCard : Claim7 := { stood := { row := walTurnedRow, standIns := [], harness := (true, "d90ac96156d0be44a58165f97fd77868724a719cfeb9de0cd467ba2451c63d80"), looks := false }, kinds := [], alts := [], laidByText := true, laidKinds := [.data, .data, .data], laidTests := true, laidLooks := .later }
def WalTurnedCardSaid : Prop := Claim7.holds Tryz.pinned (.plain (OpenSpec.ofChange walTurnedSpec)) walTurnedCard

/-- THE SECOND FORM's CARD OF 'almonerlaw9.WalKnown'. -/
def walKnownUptoCard : Claim7 := { stood := { row := walKnownUptoRow, standIns := [], harness := (true, "d90ac96156d0be44a58165f97fd77868724a719cfeb9de0cd467ba2451c63d80"), looks := false }, kinds := [], alts := [], laidByText := true, laidKinds := [.data, .data, .data], laidTests := true, laidLooks := .later }
def WalKnownUptoCardSaid : Prop := Claim7.holds Tryz.pinned (.plain (OpenSpec.upto walKnownSpec)) walKnownUptoCard

/-- THE SECOND FORM's CARD OF 'almonerlaw9.WalPlays'. -/
def walPlaysUptoCard : Claim7 := { stood := { row := walPlaysUptoRow, standIns := [], harness := (true, "d90ac96156d0be44a58165f97fd77868724a719cfeb9de0cd467ba2451c63d80"), looks := false }, kinds := [], alts := [], laidByText := true, laidKinds := [.data, .data, .data], laidTests := true, laidLooks := .later }
def WalPlaysUptoCardSaid : Prop := Claim7.holds Tryz.pinned (.plain (OpenSpec.upto walPlaysSpec)) walPlaysUptoCard

/-- THE SECOND FORM's CARD OF 'almonerlaw9.WalRecovers'. -/
def walRecoversUptoCard : Claim7 := { stood := { row := walRecoversUptoRow, standIns := [], harness := (true, "d90ac96156d0be44a58165f97fd77868724a719cfeb9de0cd467ba2451c63d80"), looks := false }, kinds := [], alts := [], laidByText := true, laidKinds := [.data, .data, .data], laidTests := true, laidLooks := .later }
def WalRecoversUptoCardSaid : Prop := Claim7.holds Tryz.pinned (.plain (OpenSpec.upto walRecoversSpec)) walRecoversUptoCard

/-- THE SECOND FORM's CARD OF 'almonerlaw9.WalWhole'. -/
def walWholeUptoCard : Claim7 := { stood := { row := walWholeUptoRow, standIns := [], harness := (true, "d90ac96156d0be44a58165f97fd77868724a719cfeb9de0cd467ba2451c63d80"), looks := false }, kinds := [], alts := [], laidByText := true, laidKinds := [.data, .data, .data], laidTests := true, laidLooks := .later }
def WalWholeUptoCardSaid : Prop := Claim7.holds Tryz.pinned (.plain (OpenSpec.upto walWholeSpec)) walWholeUptoCard

/-- THE SECOND FORM's CARD OF 'almonerlaw9.WalTurned'. -/
def walTurnedUptoCard : Claim7 := { stood := { row := walTurnedUptoRow, standIns := [], harness := (true, "d90ac96156d0be44a58165f97fd77868724a719cfeb9de0cd467ba2451c63d80"), looks := false }, kinds := [], alts := [], laidByText := true, laidKinds := [.data, .data, .data], laidTests := true, laidLooks := .later }
def WalTurnedUptoCardSaid : Prop := Claim7.holds Tryz.pinned (.plain (OpenSpec.upto walTurnedSpec)) walTurnedUptoCard
end Rows
end Go.Proofs.YtmmaddlphclpnaaGreatDoor
