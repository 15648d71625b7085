/-
  NARROWER THAN 'FOR EVERY INPUT', by the rows' own cells (each row's printed sentence says how): WireKnown: laid · WirePuts: laid · WireGets: laid · WireBack: laid.
  DERIVED. THE GIVEN ROWS OF THIS SEAT. 4 by the template 'for every input the law returns true; each argument reads behind the call as it read before'; 0 by the template 'total and deterministic' (their statements: YtdcopmkgmbiikaaGreatDoorTotals.lean).
  GIVEN WITH THE SEED: the statements are not yours to turn. If you find one false, say at which input.
  Laid BY PROGRAM, IN A SANDBOX (cutbox-rows.mjs): the forced cells as the released guide's own fill.sh prints them over the translation f926f85fc7632d1d… (all of the seat's roots in one cut). By AI agents, Wed Nov 11 2026. No macro, syntax, notation, axiom, sorry.
-/
import Derived.Test.YtdcopmkgmbiikaaGreatDoorChecked
import GoSem.Claim
import GoSem.ClaimJoined
import GoSem.ClaimMapViews
import Derived.JoinedTies
import Derived.KernelRfl
namespace Go.Proofs.YtdcopmkgmbiikaaGreatDoor
/- THE CELL 'sum', in the pinned program and in every row, IS THE sha256 OF THE DUMP (.gsa) THAT YtdcopmkgmbiikaaGreatDoorProg.lean LOADS. Nothing in Lean hashes anything: it is a label: what it is worth is what the hold of that sum in a sandbox is worth. -/
noncomputable def Tryz.pinned : Pinned := { name := "ytdcopmkgmbiikaagreatdoor", sum := "f926f85fc7632d1d6a9266a8df590cdc4e8aaf50c094cea8f275c610ea42e9d4", checked := Tryz.checked }
namespace Rows
def none {H : Type} : Left H := { results := [], args := [] }

/- WHAT THE LISTED PACKAGE-LEVEL VARIABLES READ AS WHEN THE CALL BEGINS. Each datum BY PROGRAM (the guide's laid-datum.mjs) off the statement by which the dump's own 'gosem.cut.vars' lays the variable. In a bare row this is a premise. The card (YtdcopmkgmbiikaaGreatDoorCards.lean) ties it to the program's text. -/
def laid_errors_errorType {H : Type} : DataW H := .iface "internal/reflectlite.rtype" (.agg [.ptr (.lit (.string [101, 114, 114, 111, 114]))])
def laid_almoner_api_ErrShort {H : Type} : DataW H := .iface "*errors.errorString" (.ptr (.agg [.lit (.string [116, 111, 111, 32, 102, 101, 119, 32, 98, 121, 116, 101, 115])]))
def laid_almoner_api_ErrLong {H : Type} : DataW H := .iface "*errors.errorString" (.ptr (.agg [.lit (.string [116, 111, 111, 32, 108, 111, 110, 103])]))
def laid_almoner_api_ErrTrailing {H : Type} : DataW H := .iface "*errors.errorString" (.ptr (.agg [.lit (.string [98, 121, 116, 101, 115, 32, 98, 101, 104, 105, 110, 100, 32, 116, 104, 101, 32, 101, 110, 100])]))
def laid_almoner_api_ErrRange {H : Type} : DataW H := .iface "*errors.errorString" (.ptr (.agg [.lit (.string [97, 32, 110, 117, 109, 98, 101, 114, 32, 116, 104, 97, 116, 32, 109, 97, 121, 32, 110, 111, 116, 32, 98, 101])]))
def laid_almoner_api_ErrKind {H : Type} : DataW H := .iface "*errors.errorString" (.ptr (.agg [.lit (.string [110, 111, 32, 115, 117, 99, 104, 32, 107, 105, 110, 100])]))
def laid_almoner_api_ErrOrder {H : Type} : DataW H := .iface "*errors.errorString" (.ptr (.agg [.lit (.string [110, 111, 116, 32, 105, 110, 32, 111, 114, 100, 101, 114])]))
def laid_almoner_almonerlaw1_own {H : Type} : DataW H := .iface "*errors.errorString" (.ptr (.agg [.lit (.string [111, 119, 110])]))

/-- 'almonerlaw7.WireKnown': WHATEVER THE INPUT: true; the input reads as it did. -/
def wireKnownSpec : ChangeSpec := { name := "wireKnown", fn := fun _ => fun
  | [] => { results := [.lit (.bool true)], args := [] }
  | _ => none }
def wireKnownRow : OpenClaim := { program := "ytdcopmkgmbiikaagreatdoor", sum := "f926f85fc7632d1d6a9266a8df590cdc4e8aaf50c094cea8f275c610ea42e9d4", func := "almoner/almonerlaw7.WireKnown", spec := "wireKnown", inPlace := ["math.Float32bits", "math.Float32frombits", "internal/reflectlite.ValueOf", "(internal/reflectlite.Value).Type", "(internal/reflectlite.Value).IsNil", "internal/reflectlite.TypeOf", "(internal/reflectlite.Value).Elem", "(internal/reflectlite.Value).Set"], unfollowed := true, recurses := true, named := ["almoner/api.ErrKind", "almoner/api.ErrRange", "almoner/api.ErrLong", "almoner/api.ErrShort", "almoner/api.ErrOrder", "almoner/api.ErrTrailing", "errors.errorType", "almoner/almonerlaw1.own"], apart := false, laid := [("errors.errorType", laid_errors_errorType), ("almoner/api.ErrShort", laid_almoner_api_ErrShort), ("almoner/api.ErrLong", laid_almoner_api_ErrLong), ("almoner/api.ErrTrailing", laid_almoner_api_ErrTrailing), ("almoner/api.ErrRange", laid_almoner_api_ErrRange), ("almoner/api.ErrKind", laid_almoner_api_ErrKind), ("almoner/api.ErrOrder", laid_almoner_api_ErrOrder), ("almoner/almonerlaw1.own", laid_almoner_almonerlaw1_own)] }
def WireKnownSaid : Prop := wireKnownRow.holds Tryz.pinned (OpenSpec.ofChange wireKnownSpec)

/-- ITS FALSE NEIGHBOUR: 'it returns false'. Refute it at one input. -/
def wireKnownWrong : ChangeSpec := { name := "wireKnown", fn := fun _ => fun
  | [] => { results := [.lit (.bool false)], args := [] }
  | _ => none }
def WireKnownWrongFalsely : Prop := wireKnownRow.holds Tryz.pinned (OpenSpec.ofChange wireKnownWrong)

/-- 'almonerlaw7.WirePuts': WHATEVER THE INPUT: true; the input reads as it did. -/
def wirePutsSpec : ChangeSpec := { name := "wirePuts", fn := fun _ => fun
  | [d1, d2] => { results := [.lit (.bool true)], args := [d1, d2] }
  | _ => none }
def wirePutsRow : OpenClaim := { program := "ytdcopmkgmbiikaagreatdoor", sum := "f926f85fc7632d1d6a9266a8df590cdc4e8aaf50c094cea8f275c610ea42e9d4", func := "almoner/almonerlaw7.WirePuts", spec := "wirePuts", inPlace := ["math.Float32bits", "math.Float32frombits", "internal/reflectlite.ValueOf", "(internal/reflectlite.Value).Type", "(internal/reflectlite.Value).IsNil", "internal/reflectlite.TypeOf", "(internal/reflectlite.Value).Elem", "(internal/reflectlite.Value).Set"], unfollowed := true, recurses := true, named := ["almoner/api.ErrKind", "almoner/api.ErrRange", "almoner/api.ErrLong", "almoner/api.ErrShort", "almoner/api.ErrOrder", "almoner/api.ErrTrailing", "errors.errorType", "almoner/almonerlaw1.own"], apart := false, laid := [("errors.errorType", laid_errors_errorType), ("almoner/api.ErrShort", laid_almoner_api_ErrShort), ("almoner/api.ErrLong", laid_almoner_api_ErrLong), ("almoner/api.ErrTrailing", laid_almoner_api_ErrTrailing), ("almoner/api.ErrRange", laid_almoner_api_ErrRange), ("almoner/api.ErrKind", laid_almoner_api_ErrKind), ("almoner/api.ErrOrder", laid_almoner_api_ErrOrder), ("almoner/almonerlaw1.own", laid_almoner_almonerlaw1_own)] }
def WirePutsSaid : Prop := wirePutsRow.holds Tryz.pinned (OpenSpec.ofChange wirePutsSpec)

/-- ITS FALSE NEIGHBOUR: 'it returns false'. Refute it at one input. -/
def wirePutsWrong : ChangeSpec := { name := "wirePuts", fn := fun _ => fun
  | [d1, d2] => { results := [.lit (.bool false)], args := [d1, d2] }
  | _ => none }
def WirePutsWrongFalsely : Prop := wirePutsRow.holds Tryz.pinned (OpenSpec.ofChange wirePutsWrong)

/-- 'almonerlaw7.WireGets': WHATEVER THE INPUT: true; the input reads as it did. -/
def wireGetsSpec : ChangeSpec := { name := "wireGets", fn := fun _ => fun
  | [d1, d2] => { results := [.lit (.bool true)], args := [d1, d2] }
  | _ => none }
def wireGetsRow : OpenClaim := { program := "ytdcopmkgmbiikaagreatdoor", sum := "f926f85fc7632d1d6a9266a8df590cdc4e8aaf50c094cea8f275c610ea42e9d4", func := "almoner/almonerlaw7.WireGets", spec := "wireGets", inPlace := ["math.Float32bits", "math.Float32frombits", "internal/reflectlite.ValueOf", "(internal/reflectlite.Value).Type", "(internal/reflectlite.Value).IsNil", "internal/reflectlite.TypeOf", "(internal/reflectlite.Value).Elem", "(internal/reflectlite.Value).Set"], unfollowed := true, recurses := true, named := ["almoner/api.ErrKind", "almoner/api.ErrRange", "almoner/api.ErrLong", "almoner/api.ErrShort", "almoner/api.ErrOrder", "almoner/api.ErrTrailing", "errors.errorType", "almoner/almonerlaw1.own"], apart := false, laid := [("errors.errorType", laid_errors_errorType), ("almoner/api.ErrShort", laid_almoner_api_ErrShort), ("almoner/api.ErrLong", laid_almoner_api_ErrLong), ("almoner/api.ErrTrailing", laid_almoner_api_ErrTrailing), ("almoner/api.ErrRange", laid_almoner_api_ErrRange), ("almoner/api.ErrKind", laid_almoner_api_ErrKind), ("almoner/api.ErrOrder", laid_almoner_api_ErrOrder), ("almoner/almonerlaw1.own", laid_almoner_almonerlaw1_own)] }
def WireGetsSaid : Prop := wireGetsRow.holds Tryz.pinned (OpenSpec.ofChange wireGetsSpec)

/-- ITS FALSE NEIGHBOUR: 'it returns false'. Refute it at one input. -/
def wireGetsWrong : ChangeSpec := { name := "wireGets", fn := fun _ => fun
  | [d1, d2] => { results := [.lit (.bool false)], args := [d1, d2] }
  | _ => none }
def WireGetsWrongFalsely : Prop := wireGetsRow.holds Tryz.pinned (OpenSpec.ofChange wireGetsWrong)

/-- 'almonerlaw7.WireBack': WHATEVER THE INPUT: true; the input reads as it did. -/
def wireBackSpec : ChangeSpec := { name := "wireBack", fn := fun _ => fun
  | [d1, d2, d3, d4] => { results := [.lit (.bool true)], args := [d1, d2, d3, d4] }
  | _ => none }
def wireBackRow : OpenClaim := { program := "ytdcopmkgmbiikaagreatdoor", sum := "f926f85fc7632d1d6a9266a8df590cdc4e8aaf50c094cea8f275c610ea42e9d4", func := "almoner/almonerlaw7.WireBack", spec := "wireBack", inPlace := ["math.Float32bits", "math.Float32frombits", "internal/reflectlite.TypeOf"], unfollowed := true, recurses := true, named := ["almoner/api.ErrShort", "almoner/api.ErrTrailing", "almoner/api.ErrKind", "almoner/api.ErrRange", "almoner/api.ErrLong", "almoner/api.ErrOrder"], apart := false, laid := [("almoner/api.ErrShort", laid_almoner_api_ErrShort), ("almoner/api.ErrLong", laid_almoner_api_ErrLong), ("almoner/api.ErrTrailing", laid_almoner_api_ErrTrailing), ("almoner/api.ErrRange", laid_almoner_api_ErrRange), ("almoner/api.ErrKind", laid_almoner_api_ErrKind), ("almoner/api.ErrOrder", laid_almoner_api_ErrOrder)] }
def WireBackSaid : Prop := wireBackRow.holds Tryz.pinned (OpenSpec.ofChange wireBackSpec)

/-- ITS FALSE NEIGHBOUR: 'it returns false'. Refute it at one input. -/
def wireBackWrong : ChangeSpec := { name := "wireBack", fn := fun _ => fun
  | [d1, d2, d3, d4] => { results := [.lit (.bool false)], args := [d1, d2, d3, d4] }
  | _ => none }
def WireBackWrongFalsely : Prop := wireBackRow.holds Tryz.pinned (OpenSpec.ofChange wireBackWrong)

/- THE SECOND FORM. 'bulk': how many values and letters a reading holds, each counted each time it is reached (what is shared counts as often as it is met; a slice's spare places count too). A statement '..UptoSaid' is the law's where the arguments, and the package variables that the reading takes, are together of bulk at most 1048576: NARROWER than '..Said'. Prove '..Said' where nothing that the law and all that it calls make is longer than what came in: it says more and counts as full. Else prove '..UptoSaid'. A law counts once. -/
mutual
def uptoBulk {H : Type} : DataW H → Nat
  | .lit (.string bytes) => bytes.length + 1
  | .lit _ => 1
  | .nil => 1
  | .ptr d => uptoBulk d + 1
  | .slice elems spare => uptoBulkAll elems + uptoBulkAll spare + 1
  | .agg parts => uptoBulkAll parts + 1
  | .iface _ d => uptoBulk d + 1
  | .map entries => uptoBulkEntries entries + 1
  | .held _ => 1
def uptoBulkAll {H : Type} : List (DataW H) → Nat
  | [] => 0
  | d :: r => uptoBulk d + uptoBulkAll r
def uptoBulkEntries {H : Type} : List (Lit × DataW H) → Nat
  | [] => 0
  | x :: r => uptoBulkEntry x + uptoBulkEntries r
def uptoBulkEntry {H : Type} : Lit × DataW H → Nat
  | (.string bytes, d) => bytes.length + uptoBulk d + 1
  | (_, d) => uptoBulk d + 1
 end
def uptoSmall : (H : Type) → List (DataW H) → Bool := fun _ ds => decide (uptoBulkAll ds ≤ 1048576)
def OpenSpec.upto (s : _root_.Go.ChangeSpec) : _root_.Go.OpenSpec := { _root_.Go.OpenSpec.ofChange s with cond := some uptoSmall }

/-- 'almonerlaw7.WireKnown', WHERE WHAT IT READS IS OF BULK AT MOST 1048576: true; the input reads as it did. -/
def wireKnownUptoRow : OpenClaim := { program := "ytdcopmkgmbiikaagreatdoor", sum := "f926f85fc7632d1d6a9266a8df590cdc4e8aaf50c094cea8f275c610ea42e9d4", func := "almoner/almonerlaw7.WireKnown", spec := "wireKnown", inPlace := ["math.Float32bits", "math.Float32frombits", "internal/reflectlite.ValueOf", "(internal/reflectlite.Value).Type", "(internal/reflectlite.Value).IsNil", "internal/reflectlite.TypeOf", "(internal/reflectlite.Value).Elem", "(internal/reflectlite.Value).Set"], unfollowed := true, recurses := true, named := ["almoner/api.ErrKind", "almoner/api.ErrRange", "almoner/api.ErrLong", "almoner/api.ErrShort", "almoner/api.ErrOrder", "almoner/api.ErrTrailing", "errors.errorType", "almoner/almonerlaw1.own"], apart := false, laid := [("errors.errorType", laid_errors_errorType), ("almoner/api.ErrShort", laid_almoner_api_ErrShort), ("almoner/api.ErrLong", laid_almoner_api_ErrLong), ("almoner/api.ErrTrailing", laid_almoner_api_ErrTrailing), ("almoner/api.ErrRange", laid_almoner_api_ErrRange), ("almoner/api.ErrKind", laid_almoner_api_ErrKind), ("almoner/api.ErrOrder", laid_almoner_api_ErrOrder), ("almoner/almonerlaw1.own", laid_almoner_almonerlaw1_own)], narrowed := true }
def WireKnownUptoSaid : Prop := wireKnownUptoRow.holds Tryz.pinned (OpenSpec.upto wireKnownSpec)

/-- 'almonerlaw7.WirePuts', WHERE WHAT IT READS IS OF BULK AT MOST 1048576: true; the input reads as it did. -/
def wirePutsUptoRow : OpenClaim := { program := "ytdcopmkgmbiikaagreatdoor", sum := "f926f85fc7632d1d6a9266a8df590cdc4e8aaf50c094cea8f275c610ea42e9d4", func := "almoner/almonerlaw7.WirePuts", spec := "wirePuts", inPlace := ["math.Float32bits", "math.Float32frombits", "internal/reflectlite.ValueOf", "(internal/reflectlite.Value).Type", "(internal/reflectlite.Value).IsNil", "internal/reflectlite.TypeOf", "(internal/reflectlite.Value).Elem", "(internal/reflectlite.Value).Set"], unfollowed := true, recurses := true, named := ["almoner/api.ErrKind", "almoner/api.ErrRange", "almoner/api.ErrLong", "almoner/api.ErrShort", "almoner/api.ErrOrder", "almoner/api.ErrTrailing", "errors.errorType", "almoner/almonerlaw1.own"], apart := false, laid := [("errors.errorType", laid_errors_errorType), ("almoner/api.ErrShort", laid_almoner_api_ErrShort), ("almoner/api.ErrLong", laid_almoner_api_ErrLong), ("almoner/api.ErrTrailing", laid_almoner_api_ErrTrailing), ("almoner/api.ErrRange", laid_almoner_api_ErrRange), ("almoner/api.ErrKind", laid_almoner_api_ErrKind), ("almoner/api.ErrOrder", laid_almoner_api_ErrOrder), ("almoner/almonerlaw1.own", laid_almoner_almonerlaw1_own)], narrowed := true }
def WirePutsUptoSaid : Prop := wirePutsUptoRow.holds Tryz.pinned (OpenSpec.upto wirePutsSpec)

/-- 'almonerlaw7.WireGets', WHERE WHAT IT READS IS OF BULK AT MOST 1048576: true; the input reads as it did. -/
def wireGetsUptoRow : OpenClaim := { program := "ytdcopmkgmbiikaagreatdoor", sum := "f926f85fc7632d1d6a9266a8df590cdc4e8aaf50c094cea8f275c610ea42e9d4", func := "almoner/almonerlaw7.WireGets", spec := "wireGets", inPlace := ["math.Float32bits", "math.Float32frombits", "internal/reflectlite.ValueOf", "(internal/reflectlite.Value).Type", "(internal/reflectlite.Value).IsNil", "internal/reflectlite.TypeOf", "(internal/reflectlite.Value).Elem", "(internal/reflectlite.Value).Set"], unfollowed := true, recurses := true, named := ["almoner/api.ErrKind", "almoner/api.ErrRange", "almoner/api.ErrLong", "almoner/api.ErrShort", "almoner/api.ErrOrder", "almoner/api.ErrTrailing", "errors.errorType", "almoner/almonerlaw1.own"], apart := false, laid := [("errors.errorType", laid_errors_errorType), ("almoner/api.ErrShort", laid_almoner_api_ErrShort), ("almoner/api.ErrLong", laid_almoner_api_ErrLong), ("almoner/api.ErrTrailing", laid_almoner_api_ErrTrailing), ("almoner/api.ErrRange", laid_almoner_api_ErrRange), ("almoner/api.ErrKind", laid_almoner_api_ErrKind), ("almoner/api.ErrOrder", laid_almoner_api_ErrOrder), ("almoner/almonerlaw1.own", laid_almoner_almonerlaw1_own)], narrowed := true }
def WireGetsUptoSaid : Prop := wireGetsUptoRow.holds Tryz.pinned (OpenSpec.upto wireGetsSpec)

/-- 'almonerlaw7.WireBack', WHERE WHAT IT READS IS OF BULK AT MOST 1048576: true; the input reads as it did. -/
def wireBackUptoRow : OpenClaim := { program := "ytdcopmkgmbiikaagreatdoor", sum := "f926f85fc7632d1d6a9266a8df590cdc4e8aaf50c094cea8f275c610ea42e9d4", func := "almoner/almonerlaw7.WireBack", spec := "wireBack", inPlace := ["math.Float32bits", "math.Float32frombits", "internal/reflectlite.TypeOf"], unfollowed := true, recurses := true, named := ["almoner/api.ErrShort", "almoner/api.ErrTrailing", "almoner/api.ErrKind", "almoner/api.ErrRange", "almoner/api.ErrLong", "almoner/api.ErrOrder"], apart := false, laid := [("almoner/api.ErrShort", laid_almoner_api_ErrShort), ("almoner/api.ErrLong", laid_almoner_api_ErrLong), ("almoner/api.ErrTrailing", laid_almoner_api_ErrTrailing), ("almoner/api.ErrRange", laid_almoner_api_ErrRange), ("almoner/api.ErrKind", laid_almoner_api_ErrKind), ("almoner/api.ErrOrder", laid_almoner_api_ErrOrder)], narrowed := true }
def WireBackUptoSaid : Prop := wireBackUptoRow.holds Tryz.pinned (OpenSpec.upto wireBackSpec)

end Rows
end Go.Proofs.YtdcopmkgmbiikaaGreatDoor
