/-
  NARROWER THAN 'FOR EVERY INPUT', by the rows' own cells (each row's printed sentence says how): RecordApplies: laid · RecordAnswers: laid · RecordCopies: laid.
  DERIVED. THE GIVEN ROWS OF THIS SEAT. 3 by the template 'for every input the law returns true; each argument reads behind the call as it read before'; 0 by the template 'total and deterministic' (their statements: YtiknjghcjaaenaaGreatDoorTotals.lean).
  GIVEN WITH THE SEED: the statements are not yours to turn. If you find one false, say at which input.
  Laid BY PROGRAM, IN A SANDBOX (cutbox-rows.mjs): the forced cells as the released guide's own fill.sh prints them over the translation 64d385bf8303618e… (all of the seat's roots in one cut). By AI agents, Wed Nov 11 2026. No macro, syntax, notation, axiom, sorry.
-/
import Derived.Test.YtiknjghcjaaenaaGreatDoorChecked
import GoSem.Claim
import GoSem.ClaimJoined
import GoSem.ClaimMapViews
import Derived.JoinedTies
import Derived.KernelRfl
namespace Go.Proofs.YtiknjghcjaaenaaGreatDoor
/- THE CELL 'sum', in the pinned program and in every row, IS THE sha256 OF THE DUMP (.gsa) THAT YtiknjghcjaaenaaGreatDoorProg.lean LOADS. Nothing in Lean hashes anything: it is a label: what it is worth is what the hold of that sum in a sandbox is worth. -/
noncomputable def Tryz.pinned : Pinned := { name := "ytiknjghcjaaenaagreatdoor", sum := "64d385bf8303618eb7931b5a65f500531d834ec674bd558a3c542de24f059ba5", checked := Tryz.checked }
namespace Rows
def none {H : Type} : Left H := { results := [], args := [] }

/- WHAT THE LISTED PACKAGE-LEVEL VARIABLES READ AS WHEN THE CALL BEGINS. Each datum BY PROGRAM (the guide's laid-datum.mjs) off the statement by which the dump's own 'gosem.cut.vars' lays the variable. In a bare row this is a premise. The card (YtiknjghcjaaenaaGreatDoorCards.lean) ties it to the program's text. -/
def laid_almoner_quant_units {H : Type} : DataW H := .agg [.agg [.lit (.string []), .lit (.int .u8 0), .lit (.int .i64 0), .lit (.int .i64 0), .lit (.int .i64 0)], .agg [.lit (.string [103]), .lit (.int .u8 1), .lit (.int .i64 1), .lit (.int .i64 1), .lit (.int .i64 0)], .agg [.lit (.string [109, 103]), .lit (.int .u8 1), .lit (.int .i64 1), .lit (.int .i64 1000), .lit (.int .i64 0)], .agg [.lit (.string [117, 103]), .lit (.int .u8 1), .lit (.int .i64 1), .lit (.int .i64 1000000), .lit (.int .i64 0)], .agg [.lit (.string [107, 103]), .lit (.int .u8 1), .lit (.int .i64 1000), .lit (.int .i64 1), .lit (.int .i64 0)], .agg [.lit (.string [108, 98]), .lit (.int .u8 1), .lit (.int .i64 45359237), .lit (.int .i64 100000), .lit (.int .i64 0)], .agg [.lit (.string [76]), .lit (.int .u8 2), .lit (.int .i64 1), .lit (.int .i64 1), .lit (.int .i64 0)], .agg [.lit (.string [109, 76]), .lit (.int .u8 2), .lit (.int .i64 1), .lit (.int .i64 1000), .lit (.int .i64 0)], .agg [.lit (.string [109]), .lit (.int .u8 3), .lit (.int .i64 1), .lit (.int .i64 1), .lit (.int .i64 0)], .agg [.lit (.string [99, 109]), .lit (.int .u8 3), .lit (.int .i64 1), .lit (.int .i64 100), .lit (.int .i64 0)], .agg [.lit (.string [105, 110]), .lit (.int .u8 3), .lit (.int .i64 254), .lit (.int .i64 10000), .lit (.int .i64 0)], .agg [.lit (.string [67]), .lit (.int .u8 4), .lit (.int .i64 1), .lit (.int .i64 1), .lit (.int .i64 27315)], .agg [.lit (.string [70]), .lit (.int .u8 4), .lit (.int .i64 5), .lit (.int .i64 9), .lit (.int .i64 45967)], .agg [.lit (.string [75]), .lit (.int .u8 4), .lit (.int .i64 1), .lit (.int .i64 1), .lit (.int .i64 0)], .agg [.lit (.string [107, 80, 97]), .lit (.int .u8 5), .lit (.int .i64 1), .lit (.int .i64 1), .lit (.int .i64 0)], .agg [.lit (.string [109, 109, 72, 103]), .lit (.int .u8 5), .lit (.int .i64 101325), .lit (.int .i64 760000), .lit (.int .i64 0)], .agg [.lit (.string [109, 109, 111, 108, 47, 76]), .lit (.int .u8 6), .lit (.int .i64 1), .lit (.int .i64 1), .lit (.int .i64 0)], .agg [.lit (.string [109, 103, 47, 100, 76]), .lit (.int .u8 6), .lit (.int .i64 10000), .lit (.int .i64 180156), .lit (.int .i64 0)], .agg [.lit (.string [47, 109, 105, 110]), .lit (.int .u8 7), .lit (.int .i64 1), .lit (.int .i64 1), .lit (.int .i64 0)], .agg [.lit (.string [47, 115]), .lit (.int .u8 7), .lit (.int .i64 60), .lit (.int .i64 1), .lit (.int .i64 0)], .agg [.lit (.string [37]), .lit (.int .u8 8), .lit (.int .i64 1), .lit (.int .i64 1), .lit (.int .i64 0)], .agg [.lit (.string [49]), .lit (.int .u8 8), .lit (.int .i64 100), .lit (.int .i64 1), .lit (.int .i64 0)]]

/-- 'almonerlaw11.RecordApplies': WHATEVER THE INPUT: true; the input reads as it did. -/
def recordAppliesSpec : ChangeSpec := { name := "recordApplies", fn := fun _ => fun
  | [d] => { results := [.lit (.bool true)], args := [d] }
  | _ => none }
def recordAppliesRow : OpenClaim := { program := "ytiknjghcjaaenaagreatdoor", sum := "64d385bf8303618eb7931b5a65f500531d834ec674bd558a3c542de24f059ba5", func := "almoner/almonerlaw11.RecordApplies", spec := "recordApplies", inPlace := ["math.Float32bits", "slices.overlaps[uint32]"], unfollowed := true, recurses := true, named := ["almoner/quant.units"], apart := false, laid := [("almoner/quant.units", laid_almoner_quant_units)] }
def RecordAppliesSaid : Prop := recordAppliesRow.holds Tryz.pinned (OpenSpec.ofChange recordAppliesSpec)

/-- ITS FALSE NEIGHBOUR: 'it returns false'. Refute it at one input. -/
def recordAppliesWrong : ChangeSpec := { name := "recordApplies", fn := fun _ => fun
  | [d] => { results := [.lit (.bool false)], args := [d] }
  | _ => none }
def RecordAppliesWrongFalsely : Prop := recordAppliesRow.holds Tryz.pinned (OpenSpec.ofChange recordAppliesWrong)

/-- 'almonerlaw11.RecordAnswers': WHATEVER THE INPUT: true; the input reads as it did. -/
def recordAnswersSpec : ChangeSpec := { name := "recordAnswers", fn := fun _ => fun
  | [d] => { results := [.lit (.bool true)], args := [d] }
  | _ => none }
def recordAnswersRow : OpenClaim := { program := "ytiknjghcjaaenaagreatdoor", sum := "64d385bf8303618eb7931b5a65f500531d834ec674bd558a3c542de24f059ba5", func := "almoner/almonerlaw11.RecordAnswers", spec := "recordAnswers", inPlace := ["math.Float32bits", "slices.overlaps[uint32]"], unfollowed := true, recurses := true, named := ["almoner/quant.units"], apart := false, laid := [("almoner/quant.units", laid_almoner_quant_units)] }
def RecordAnswersSaid : Prop := recordAnswersRow.holds Tryz.pinned (OpenSpec.ofChange recordAnswersSpec)

/-- ITS FALSE NEIGHBOUR: 'it returns false'. Refute it at one input. -/
def recordAnswersWrong : ChangeSpec := { name := "recordAnswers", fn := fun _ => fun
  | [d] => { results := [.lit (.bool false)], args := [d] }
  | _ => none }
def RecordAnswersWrongFalsely : Prop := recordAnswersRow.holds Tryz.pinned (OpenSpec.ofChange recordAnswersWrong)

/-- 'almonerlaw11.RecordCopies': WHATEVER THE INPUT: true; the input reads as it did. -/
def recordCopiesSpec : ChangeSpec := { name := "recordCopies", fn := fun _ => fun
  | [d1, d2, d3] => { results := [.lit (.bool true)], args := [d1, d2, d3] }
  | _ => none }
def recordCopiesRow : OpenClaim := { program := "ytiknjghcjaaenaagreatdoor", sum := "64d385bf8303618eb7931b5a65f500531d834ec674bd558a3c542de24f059ba5", func := "almoner/almonerlaw11.RecordCopies", spec := "recordCopies", inPlace := ["math.Float32bits", "slices.overlaps[uint32]"], unfollowed := true, recurses := true, named := ["almoner/quant.units"], apart := false, laid := [("almoner/quant.units", laid_almoner_quant_units)] }
def RecordCopiesSaid : Prop := recordCopiesRow.holds Tryz.pinned (OpenSpec.ofChange recordCopiesSpec)

/-- ITS FALSE NEIGHBOUR: 'it returns false'. Refute it at one input. -/
def recordCopiesWrong : ChangeSpec := { name := "recordCopies", fn := fun _ => fun
  | [d1, d2, d3] => { results := [.lit (.bool false)], args := [d1, d2, d3] }
  | _ => none }
def RecordCopiesWrongFalsely : Prop := recordCopiesRow.holds Tryz.pinned (OpenSpec.ofChange recordCopiesWrong)

/- THE SECOND FORM. 'bulk': how many values and letters a reading holds, each counted each time it is reached (what is shared counts as often as it is met; a slice's spare places count too). A statement '..UptoSaid' is the law's where the arguments, and the package variables that the reading takes, are together of bulk at most 1048576: NARROWER than '..Said'. Prove '..Said' where nothing that the law and all that it calls make is longer than what came in: it says more and counts as full. Else prove '..UptoSaid'. A law counts once. -/
mutual
def uptoBulk {H : Type} : DataW H → Nat
  | .lit (.string bytes) => bytes.length + 1
  | .lit _ => 1
  | .nil => 1
  | .ptr d => uptoBulk d + 1
  | .slice elems spare => uptoBulkAll elems + uptoBulkAll spare + 1
  | .agg parts => uptoBulkAll parts + 1
  | .iface _ d => uptoBulk d + 1
  | .map entries => uptoBulkEntries entries + 1
  | .held _ => 1
def uptoBulkAll {H : Type} : List (DataW H) → Nat
  | [] => 0
  | d :: r => uptoBulk d + uptoBulkAll r
def uptoBulkEntries {H : Type} : List (Lit × DataW H) → Nat
  | [] => 0
  | x :: r => uptoBulkEntry x + uptoBulkEntries r
def uptoBulkEntry {H : Type} : Lit × DataW H → Nat
  | (.string bytes, d) => bytes.length + uptoBulk d + 1
  | (_, d) => uptoBulk d + 1
 end
def uptoSmall : (H : Type) → List (DataW H) → Bool := fun _ ds => decide (uptoBulkAll ds ≤ 1048576)
def OpenSpec.upto (s : _root_.Go.ChangeSpec) : _root_.Go.OpenSpec := { _root_.Go.OpenSpec.ofChange s with cond := some uptoSmall }

/-- 'almonerlaw11.RecordApplies', WHERE WHAT IT READS IS OF BULK AT MOST 1048576: true; the input reads as it did. -/
def recordAppliesUptoRow : OpenClaim := { program := "ytiknjghcjaaenaagreatdoor", sum := "64d385bf8303618eb7931b5a65f500531d834ec674bd558a3c542de24f059ba5", func := "almoner/almonerlaw11.RecordApplies", spec := "recordApplies", inPlace := ["math.Float32bits", "slices.overlaps[uint32]"], unfollowed := true, recurses := true, named := ["almoner/quant.units"], apart := false, laid := [("almoner/quant.units", laid_almoner_quant_units)], narrowed := true }
def RecordAppliesUptoSaid : Prop := recordAppliesUptoRow.holds Tryz.pinned (OpenSpec.upto recordAppliesSpec)

/-- 'almonerlaw11.RecordAnswers', WHERE WHAT IT READS IS OF BULK AT MOST 1048576: true; the input reads as it did. -/
def recordAnswersUptoRow : OpenClaim := { program := "ytiknjghcjaaenaagreatdoor", sum := "64d385bf8303618eb7931b5a65f500531d834ec674bd558a3c542de24f059ba5", func := "almoner/almonerlaw11.RecordAnswers", spec := "recordAnswers", inPlace := ["math.Float32bits", "slices.overlaps[uint32]"], unfollowed := true, recurses := true, named := ["almoner/quant.units"], apart := false, laid := [("almoner/quant.units", laid_almoner_quant_units)], narrowed := true }
def RecordAnswersUptoSaid : Prop := recordAnswersUptoRow.holds Tryz.pinned (OpenSpec.upto recordAnswersSpec)

/-- 'almonerlaw11.RecordCopies', WHERE WHAT IT READS IS OF BULK AT MOST 1048576: true; the input reads as it did. -/
def recordCopiesUptoRow : OpenClaim := { program := "ytiknjghcjaaenaagreatdoor", sum := "64d385bf8303618eb7931b5a65f500531d834ec674bd558a3c542de24f059ba5", func := "almoner/almonerlaw11.RecordCopies", spec := "recordCopies", inPlace := ["math.Float32bits", "slices.overlaps[uint32]"], unfollowed := true, recurses := true, named := ["almoner/quant.units"], apart := false, laid := [("almoner/quant.units", laid_almoner_quant_units)], narrowed := true }
def RecordCopiesUptoSaid : Prop := recordCopiesUptoRow.holds Tryz.pinned (OpenSpec.upto recordCopiesSpec)

end Rows
end Go.Proofs.YtiknjghcjaaenaaGreatDoor
