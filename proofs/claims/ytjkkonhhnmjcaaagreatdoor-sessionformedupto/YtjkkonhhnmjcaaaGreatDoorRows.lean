/-
  NARROWER THAN 'FOR EVERY INPUT', by the rows' own cells (each row's printed sentence says how): SessionFormed: laid.
  DERIVED. THE GIVEN ROWS OF THIS SEAT. 1 by the template 'for every input the law returns true; each argument reads behind the call as it read before'; 0 by the template 'total and deterministic' (their statements: YtjkkonhhnmjcaaaGreatDoorTotals.lean).
  GIVEN WITH THE SEED: the statements are not yours to turn. If you find one false, say at which input.
  Laid BY PROGRAM, IN A SANDBOX (cutbox-rows.mjs): the forced cells as the released guide's own fill.sh prints them over the translation 68082059c12fe9b6… (all of the seat's roots in one cut). By AI agents, Wed Nov 11 2026. No macro, syntax, notation, axiom, sorry.
-/
import Derived.Test.YtjkkonhhnmjcaaaGreatDoorChecked
import GoSem.Claim
import GoSem.ClaimJoined
import GoSem.ClaimMapViews
import Derived.JoinedTies
import Derived.KernelRfl
namespace Go.Proofs.YtjkkonhhnmjcaaaGreatDoor
/- THE CELL 'sum', in the pinned program and in every row, IS THE sha256 OF THE DUMP (.gsa) THAT YtjkkonhhnmjcaaaGreatDoorProg.lean LOADS. Nothing in Lean hashes anything: it is a label: what it is worth is what the hold of that sum in a sandbox is worth. -/
noncomputable def Tryz.pinned : Pinned := { name := "ytjkkonhhnmjcaaagreatdoor", sum := "68082059c12fe9b6681114c90515b434b7c923d125940d2c8f0e5d97b2743841", checked := Tryz.checked }
namespace Rows
def none {H : Type} : Left H := { results := [], args := [] }

/- WHAT THE LISTED PACKAGE-LEVEL VARIABLES READ AS WHEN THE CALL BEGINS. Each datum BY PROGRAM (the guide's laid-datum.mjs) off the statement by which the dump's own 'gosem.cut.vars' lays the variable. In a bare row this is a premise. The card (YtjkkonhhnmjcaaaGreatDoorCards.lean) ties it to the program's text. -/
def laid_almoner_api_ErrShort {H : Type} : DataW H := .iface "*errors.errorString" (.ptr (.agg [.lit (.string [116, 111, 111, 32, 102, 101, 119, 32, 98, 121, 116, 101, 115])]))
def laid_almoner_api_ErrLong {H : Type} : DataW H := .iface "*errors.errorString" (.ptr (.agg [.lit (.string [116, 111, 111, 32, 108, 111, 110, 103])]))
def laid_almoner_api_ErrRange {H : Type} : DataW H := .iface "*errors.errorString" (.ptr (.agg [.lit (.string [97, 32, 110, 117, 109, 98, 101, 114, 32, 116, 104, 97, 116, 32, 109, 97, 121, 32, 110, 111, 116, 32, 98, 101])]))
def laid_almoner_api_ErrKind {H : Type} : DataW H := .iface "*errors.errorString" (.ptr (.agg [.lit (.string [110, 111, 32, 115, 117, 99, 104, 32, 107, 105, 110, 100])]))
def laid_almoner_api_ErrOrder {H : Type} : DataW H := .iface "*errors.errorString" (.ptr (.agg [.lit (.string [110, 111, 116, 32, 105, 110, 32, 111, 114, 100, 101, 114])]))

/-- 'almonerlaw17.SessionFormed': WHATEVER THE INPUT: true; the input reads as it did. -/
def sessionFormedSpec : ChangeSpec := { name := "sessionFormed", fn := fun _ => fun
  | [d] => { results := [.lit (.bool true)], args := [d] }
  | _ => none }
def sessionFormedRow : OpenClaim := { program := "ytjkkonhhnmjcaaagreatdoor", sum := "68082059c12fe9b6681114c90515b434b7c923d125940d2c8f0e5d97b2743841", func := "almoner/almonerlaw17.SessionFormed", spec := "sessionFormed", inPlace := ["math.Float32bits", "math.Float32frombits"], unfollowed := true, recurses := true, named := ["almoner/api.ErrKind", "almoner/api.ErrRange", "almoner/api.ErrLong", "almoner/api.ErrShort", "almoner/api.ErrOrder"], plainKeys := false, apart := false, laid := [("almoner/api.ErrShort", laid_almoner_api_ErrShort), ("almoner/api.ErrLong", laid_almoner_api_ErrLong), ("almoner/api.ErrRange", laid_almoner_api_ErrRange), ("almoner/api.ErrKind", laid_almoner_api_ErrKind), ("almoner/api.ErrOrder", laid_almoner_api_ErrOrder)] }
def SessionFormedSaid : Prop := sessionFormedRow.holds Tryz.pinned (OpenSpec.ofChange sessionFormedSpec)

/-- ITS FALSE NEIGHBOUR: 'it returns false'. Refute it at one input. -/
def sessionFormedWrong : ChangeSpec := { name := "sessionFormed", fn := fun _ => fun
  | [d] => { results := [.lit (.bool false)], args := [d] }
  | _ => none }
def SessionFormedWrongFalsely : Prop := sessionFormedRow.holds Tryz.pinned (OpenSpec.ofChange sessionFormedWrong)

/- THE SECOND FORM. 'bulk': how many values and letters a reading holds, each counted each time it is reached (what is shared counts as often as it is met; a slice's spare places count too). A statement '..UptoSaid' is the law's where the arguments, and the package variables that the reading takes, are together of bulk at most 1048576: NARROWER than '..Said'. Prove '..Said' where nothing that the law and all that it calls make is longer than what came in: it says more and counts as full. Else prove '..UptoSaid'. A law counts once. -/
mutual
def uptoBulk {H : Type} : DataW H → Nat
  | .lit (.string bytes) => bytes.length + 1
  | .lit _ => 1
  | .nil => 1
  | .ptr d => uptoBulk d + 1
  | .slice elems spare => uptoBulkAll elems + uptoBulkAll spare + 1
  | .agg parts => uptoBulkAll parts + 1
  | .iface _ d => uptoBulk d + 1
  | .map entries => uptoBulkEntries entries + 1
  | .held _ => 1
def uptoBulkAll {H : Type} : List (DataW H) → Nat
  | [] => 0
  | d :: r => uptoBulk d + uptoBulkAll r
def uptoBulkEntries {H : Type} : List (Lit × DataW H) → Nat
  | [] => 0
  | x :: r => uptoBulkEntry x + uptoBulkEntries r
def uptoBulkEntry {H : Type} : Lit × DataW H → Nat
  | (.string bytes, d) => bytes.length + uptoBulk d + 1
  | (_, d) => uptoBulk d + 1
 end
def uptoSmall : (H : Type) → List (DataW H) → Bool := fun _ ds => decide (uptoBulkAll ds ≤ 1048576)
def OpenSpec.upto (s : _root_.Go.ChangeSpec) : _root_.Go.OpenSpec := { _root_.Go.OpenSpec.ofChange s with cond := some uptoSmall }

/-- 'almonerlaw17.SessionFormed', WHERE WHAT IT READS IS OF BULK AT MOST 1048576: true; the input reads as it did. -/
def sessionFormedUptoRow : OpenClaim := { program := "ytjkkonhhnmjcaaagreatdoor", sum := "68082059c12fe9b6681114c90515b434b7c923d125940d2c8f0e5d97b2743841", func := "almoner/almonerlaw17.SessionFormed", spec := "sessionFormed", inPlace := ["math.Float32bits", "math.Float32frombits"], unfollowed := true, recurses := true, named := ["almoner/api.ErrKind", "almoner/api.ErrRange", "almoner/api.ErrLong", "almoner/api.ErrShort", "almoner/api.ErrOrder"], plainKeys := false, apart := false, laid := [("almoner/api.ErrShort", laid_almoner_api_ErrShort), ("almoner/api.ErrLong", laid_almoner_api_ErrLong), ("almoner/api.ErrRange", laid_almoner_api_ErrRange), ("almoner/api.ErrKind", laid_almoner_api_ErrKind), ("almoner/api.ErrOrder", laid_almoner_api_ErrOrder)], narrowed := true }
def SessionFormedUptoSaid : Prop := sessionFormedUptoRow.holds Tryz.pinned (OpenSpec.upto sessionFormedSpec)

end Rows
end Go.Proofs.YtjkkonhhnmjcaaaGreatDoor
