/-
  NARROWER THAN 'FOR EVERY INPUT', by the rows' own cells (each row's printed sentence says how): RecordForms: laid · RecordApplies: laid · RecordEvents: laid · RecordAnswers: laid · RecordCopies: laid.
  DERIVED. THE GIVEN ROWS OF THIS SEAT. 5 by the template 'for every input the law returns true; each argument reads behind the call as it read before'; 0 by the template 'total and deterministic' (their statements: YtciblhmmpamjoaaGreatDoorTotals.lean).
  GIVEN WITH THE SEED: the statements are not yours to turn. If you find one false, say at which input.
  Laid BY PROGRAM, IN A SANDBOX (cutbox-rows.mjs): the forced cells as the released guide's own fill.sh prints them over the translation 604c033dae4dd1c7… (all of the seat's roots in one cut). By AI agents, Wed Nov 11 2026. No macro, syntax, notation, axiom, sorry.
-/
import Derived.Test.YtciblhmmpamjoaaGreatDoorChecked
import GoSem.Claim
import GoSem.ClaimJoined
import GoSem.ClaimMapViews
import Derived.JoinedTies
import Derived.KernelRfl
namespace Go.Proofs.YtciblhmmpamjoaaGreatDoor
/- THE CELL 'sum', in the pinned program and in every row, IS THE sha256 OF THE DUMP (.gsa) THAT YtciblhmmpamjoaaGreatDoorProg.lean LOADS. Nothing in Lean hashes anything: it is a label: what it is worth is what the hold of that sum in a sandbox is worth. -/
noncomputable def Tryz.pinned : Pinned := { name := "ytciblhmmpamjoaagreatdoor", sum := "604c033dae4dd1c7e663b6613a2d6c2c80d9807fcd6e14d88b08e7539a3eeb5d", checked := Tryz.checked }
namespace Rows
def none {H : Type} : Left H := { results := [], args := [] }

/- WHAT THE LISTED PACKAGE-LEVEL VARIABLES READ AS WHEN THE CALL BEGINS. Each datum BY PROGRAM (the guide's laid-datum.mjs) off the statement by which the dump's own 'gosem.cut.vars' lays the variable. In a bare row this is a premise. The card (YtciblhmmpamjoaaGreatDoorCards.lean) ties it to the program's text. -/
def laid_almoner_quant_units {H : Type} : DataW H := .agg [.agg [.lit (.string []), .lit (.int .u8 0), .lit (.int .i64 0), .lit (.int .i64 0), .lit (.int .i64 0)], .agg [.lit (.string [103]), .lit (.int .u8 1), .lit (.int .i64 1), .lit (.int .i64 1), .lit (.int .i64 0)], .agg [.lit (.string [109, 103]), .lit (.int .u8 1), .lit (.int .i64 1), .lit (.int .i64 1000), .lit (.int .i64 0)], .agg [.lit (.string [117, 103]), .lit (.int .u8 1), .lit (.int .i64 1), .lit (.int .i64 1000000), .lit (.int .i64 0)], .agg [.lit (.string [107, 103]), .lit (.int .u8 1), .lit (.int .i64 1000), .lit (.int .i64 1), .lit (.int .i64 0)], .agg [.lit (.string [108, 98]), .lit (.int .u8 1), .lit (.int .i64 45359237), .lit (.int .i64 100000), .lit (.int .i64 0)], .agg [.lit (.string [76]), .lit (.int .u8 2), .lit (.int .i64 1), .lit (.int .i64 1), .lit (.int .i64 0)], .agg [.lit (.string [109, 76]), .lit (.int .u8 2), .lit (.int .i64 1), .lit (.int .i64 1000), .lit (.int .i64 0)], .agg [.lit (.string [109]), .lit (.int .u8 3), .lit (.int .i64 1), .lit (.int .i64 1), .lit (.int .i64 0)], .agg [.lit (.string [99, 109]), .lit (.int .u8 3), .lit (.int .i64 1), .lit (.int .i64 100), .lit (.int .i64 0)], .agg [.lit (.string [105, 110]), .lit (.int .u8 3), .lit (.int .i64 254), .lit (.int .i64 10000), .lit (.int .i64 0)], .agg [.lit (.string [67]), .lit (.int .u8 4), .lit (.int .i64 1), .lit (.int .i64 1), .lit (.int .i64 27315)], .agg [.lit (.string [70]), .lit (.int .u8 4), .lit (.int .i64 5), .lit (.int .i64 9), .lit (.int .i64 45967)], .agg [.lit (.string [75]), .lit (.int .u8 4), .lit (.int .i64 1), .lit (.int .i64 1), .lit (.int .i64 0)], .agg [.lit (.string [107, 80, 97]), .lit (.int .u8 5), .lit (.int .i64 1), .lit (.int .i64 1), .lit (.int .i64 0)], .agg [.lit (.string [109, 109, 72, 103]), .lit (.int .u8 5), .lit (.int .i64 101325), .lit (.int .i64 760000), .lit (.int .i64 0)], .agg [.lit (.string [109, 109, 111, 108, 47, 76]), .lit (.int .u8 6), .lit (.int .i64 1), .lit (.int .i64 1), .lit (.int .i64 0)], .agg [.lit (.string [109, 103, 47, 100, 76]), .lit (.int .u8 6), .lit (.int .i64 10000), .lit (.int .i64 180156), .lit (.int .i64 0)], .agg [.lit (.string [47, 109, 105, 110]), .lit (.int .u8 7), .lit (.int .i64 1), .lit (.int .i64 1), .lit (.int .i64 0)], .agg [.lit (.string [47, 115]), .lit (.int .u8 7), .lit (.int .i64 60), .lit (.int .i64 1), .lit (.int .i64 0)], .agg [.lit (.string [37]), .lit (.int .u8 8), .lit (.int .i64 1), .lit (.int .i64 1), .lit (.int .i64 0)], .agg [.lit (.string [49]), .lit (.int .u8 8), .lit (.int .i64 100), .lit (.int .i64 1), .lit (.int .i64 0)]]
def laid_almoner_almonerref2_K {H : Type} : DataW H := .agg [.lit (.int .u64 1116352408), .lit (.int .u64 1899447441), .lit (.int .u64 3049323471), .lit (.int .u64 3921009573), .lit (.int .u64 961987163), .lit (.int .u64 1508970993), .lit (.int .u64 2453635748), .lit (.int .u64 2870763221), .lit (.int .u64 3624381080), .lit (.int .u64 310598401), .lit (.int .u64 607225278), .lit (.int .u64 1426881987), .lit (.int .u64 1925078388), .lit (.int .u64 2162078206), .lit (.int .u64 2614888103), .lit (.int .u64 3248222580), .lit (.int .u64 3835390401), .lit (.int .u64 4022224774), .lit (.int .u64 264347078), .lit (.int .u64 604807628), .lit (.int .u64 770255983), .lit (.int .u64 1249150122), .lit (.int .u64 1555081692), .lit (.int .u64 1996064986), .lit (.int .u64 2554220882), .lit (.int .u64 2821834349), .lit (.int .u64 2952996808), .lit (.int .u64 3210313671), .lit (.int .u64 3336571891), .lit (.int .u64 3584528711), .lit (.int .u64 113926993), .lit (.int .u64 338241895), .lit (.int .u64 666307205), .lit (.int .u64 773529912), .lit (.int .u64 1294757372), .lit (.int .u64 1396182291), .lit (.int .u64 1695183700), .lit (.int .u64 1986661051), .lit (.int .u64 2177026350), .lit (.int .u64 2456956037), .lit (.int .u64 2730485921), .lit (.int .u64 2820302411), .lit (.int .u64 3259730800), .lit (.int .u64 3345764771), .lit (.int .u64 3516065817), .lit (.int .u64 3600352804), .lit (.int .u64 4094571909), .lit (.int .u64 275423344), .lit (.int .u64 430227734), .lit (.int .u64 506948616), .lit (.int .u64 659060556), .lit (.int .u64 883997877), .lit (.int .u64 958139571), .lit (.int .u64 1322822218), .lit (.int .u64 1537002063), .lit (.int .u64 1747873779), .lit (.int .u64 1955562222), .lit (.int .u64 2024104815), .lit (.int .u64 2227730452), .lit (.int .u64 2361852424), .lit (.int .u64 2428436474), .lit (.int .u64 2756734187), .lit (.int .u64 3204031479), .lit (.int .u64 3329325298)]
def laid_almoner_almonerref2_Begin {H : Type} : DataW H := .agg [.lit (.int .u64 1779033703), .lit (.int .u64 3144134277), .lit (.int .u64 1013904242), .lit (.int .u64 2773480762), .lit (.int .u64 1359893119), .lit (.int .u64 2600822924), .lit (.int .u64 528734635), .lit (.int .u64 1541459225)]
def laid_almoner_api_ErrShort {H : Type} : DataW H := .iface "*errors.errorString" (.ptr (.agg [.lit (.string [116, 111, 111, 32, 102, 101, 119, 32, 98, 121, 116, 101, 115])]))
def laid_almoner_api_ErrLong {H : Type} : DataW H := .iface "*errors.errorString" (.ptr (.agg [.lit (.string [116, 111, 111, 32, 108, 111, 110, 103])]))
def laid_almoner_api_ErrRange {H : Type} : DataW H := .iface "*errors.errorString" (.ptr (.agg [.lit (.string [97, 32, 110, 117, 109, 98, 101, 114, 32, 116, 104, 97, 116, 32, 109, 97, 121, 32, 110, 111, 116, 32, 98, 101])]))
def laid_almoner_api_ErrKind {H : Type} : DataW H := .iface "*errors.errorString" (.ptr (.agg [.lit (.string [110, 111, 32, 115, 117, 99, 104, 32, 107, 105, 110, 100])]))
def laid_almoner_api_ErrOrder {H : Type} : DataW H := .iface "*errors.errorString" (.ptr (.agg [.lit (.string [110, 111, 116, 32, 105, 110, 32, 111, 114, 100, 101, 114])]))
def laid_almoner_sha_start {H : Type} : DataW H := .agg [.lit (.int .u32 1779033703), .lit (.int .u32 3144134277), .lit (.int .u32 1013904242), .lit (.int .u32 2773480762), .lit (.int .u32 1359893119), .lit (.int .u32 2600822924), .lit (.int .u32 528734635), .lit (.int .u32 1541459225)]
def laid_almoner_sha_k {H : Type} : DataW H := .agg [.lit (.int .u32 1116352408), .lit (.int .u32 1899447441), .lit (.int .u32 3049323471), .lit (.int .u32 3921009573), .lit (.int .u32 961987163), .lit (.int .u32 1508970993), .lit (.int .u32 2453635748), .lit (.int .u32 2870763221), .lit (.int .u32 3624381080), .lit (.int .u32 310598401), .lit (.int .u32 607225278), .lit (.int .u32 1426881987), .lit (.int .u32 1925078388), .lit (.int .u32 2162078206), .lit (.int .u32 2614888103), .lit (.int .u32 3248222580), .lit (.int .u32 3835390401), .lit (.int .u32 4022224774), .lit (.int .u32 264347078), .lit (.int .u32 604807628), .lit (.int .u32 770255983), .lit (.int .u32 1249150122), .lit (.int .u32 1555081692), .lit (.int .u32 1996064986), .lit (.int .u32 2554220882), .lit (.int .u32 2821834349), .lit (.int .u32 2952996808), .lit (.int .u32 3210313671), .lit (.int .u32 3336571891), .lit (.int .u32 3584528711), .lit (.int .u32 113926993), .lit (.int .u32 338241895), .lit (.int .u32 666307205), .lit (.int .u32 773529912), .lit (.int .u32 1294757372), .lit (.int .u32 1396182291), .lit (.int .u32 1695183700), .lit (.int .u32 1986661051), .lit (.int .u32 2177026350), .lit (.int .u32 2456956037), .lit (.int .u32 2730485921), .lit (.int .u32 2820302411), .lit (.int .u32 3259730800), .lit (.int .u32 3345764771), .lit (.int .u32 3516065817), .lit (.int .u32 3600352804), .lit (.int .u32 4094571909), .lit (.int .u32 275423344), .lit (.int .u32 430227734), .lit (.int .u32 506948616), .lit (.int .u32 659060556), .lit (.int .u32 883997877), .lit (.int .u32 958139571), .lit (.int .u32 1322822218), .lit (.int .u32 1537002063), .lit (.int .u32 1747873779), .lit (.int .u32 1955562222), .lit (.int .u32 2024104815), .lit (.int .u32 2227730452), .lit (.int .u32 2361852424), .lit (.int .u32 2428436474), .lit (.int .u32 2756734187), .lit (.int .u32 3204031479), .lit (.int .u32 3329325298)]

/-- 'almonerlaw11.RecordForms': WHATEVER THE INPUT: true; the input reads as it did. -/
def recordFormsSpec : ChangeSpec := { name := "recordForms", fn := fun _ => fun
  | [d] => { results := [.lit (.bool true)], args := [d] }
  | _ => none }
def recordFormsRow : OpenClaim := { program := "ytciblhmmpamjoaagreatdoor", sum := "604c033dae4dd1c7e663b6613a2d6c2c80d9807fcd6e14d88b08e7539a3eeb5d", func := "almoner/almonerlaw11.RecordForms", spec := "recordForms", inPlace := ["math.Float32bits", "slices.overlaps[uint32]"], unfollowed := true, recurses := true, named := ["almoner/quant.units"], apart := false, laid := [("almoner/quant.units", laid_almoner_quant_units)] }
def RecordFormsSaid : Prop := recordFormsRow.holds Tryz.pinned (OpenSpec.ofChange recordFormsSpec)

/-- ITS FALSE NEIGHBOUR: 'it returns false'. Refute it at one input. -/
def recordFormsWrong : ChangeSpec := { name := "recordForms", fn := fun _ => fun
  | [d] => { results := [.lit (.bool false)], args := [d] }
  | _ => none }
def RecordFormsWrongFalsely : Prop := recordFormsRow.holds Tryz.pinned (OpenSpec.ofChange recordFormsWrong)

/-- 'almonerlaw11.RecordApplies': WHATEVER THE INPUT: true; the input reads as it did. -/
def recordAppliesSpec : ChangeSpec := { name := "recordApplies", fn := fun _ => fun
  | [d] => { results := [.lit (.bool true)], args := [d] }
  | _ => none }
def recordAppliesRow : OpenClaim := { program := "ytciblhmmpamjoaagreatdoor", sum := "604c033dae4dd1c7e663b6613a2d6c2c80d9807fcd6e14d88b08e7539a3eeb5d", func := "almoner/almonerlaw11.RecordApplies", spec := "recordApplies", inPlace := ["math.Float32bits", "slices.overlaps[uint32]"], unfollowed := true, recurses := true, named := ["almoner/quant.units"], apart := false, laid := [("almoner/quant.units", laid_almoner_quant_units)] }
def RecordAppliesSaid : Prop := recordAppliesRow.holds Tryz.pinned (OpenSpec.ofChange recordAppliesSpec)

/-- ITS FALSE NEIGHBOUR: 'it returns false'. Refute it at one input. -/
def recordAppliesWrong : ChangeSpec := { name := "recordApplies", fn := fun _ => fun
  | [d] => { results := [.lit (.bool false)], args := [d] }
  | _ => none }
def RecordAppliesWrongFalsely : Prop := recordAppliesRow.holds Tryz.pinned (OpenSpec.ofChange recordAppliesWrong)

/-- 'almonerlaw11.RecordEvents': WHATEVER THE INPUT: true; the input reads as it did. -/
def recordEventsSpec : ChangeSpec := { name := "recordEvents", fn := fun _ => fun
  | [d1, d2, d3, d4] => { results := [.lit (.bool true)], args := [d1, d2, d3, d4] }
  | _ => none }
def recordEventsRow : OpenClaim := { program := "ytciblhmmpamjoaagreatdoor", sum := "604c033dae4dd1c7e663b6613a2d6c2c80d9807fcd6e14d88b08e7539a3eeb5d", func := "almoner/almonerlaw11.RecordEvents", spec := "recordEvents", inPlace := ["math.Float32bits", "slices.overlaps[uint32]", "math.Float32frombits"], unfollowed := true, recurses := true, named := ["almoner/quant.units", "almoner/api.ErrKind", "almoner/api.ErrRange", "almoner/api.ErrLong", "almoner/api.ErrShort", "almoner/api.ErrOrder", "almoner/sha.start", "almoner/sha.k", "almoner/almonerref2.Begin", "almoner/almonerref2.K"], apart := false, laid := [("almoner/almonerref2.K", laid_almoner_almonerref2_K), ("almoner/almonerref2.Begin", laid_almoner_almonerref2_Begin), ("almoner/api.ErrShort", laid_almoner_api_ErrShort), ("almoner/api.ErrLong", laid_almoner_api_ErrLong), ("almoner/api.ErrRange", laid_almoner_api_ErrRange), ("almoner/api.ErrKind", laid_almoner_api_ErrKind), ("almoner/api.ErrOrder", laid_almoner_api_ErrOrder), ("almoner/sha.start", laid_almoner_sha_start), ("almoner/sha.k", laid_almoner_sha_k), ("almoner/quant.units", laid_almoner_quant_units)] }
def RecordEventsSaid : Prop := recordEventsRow.holds Tryz.pinned (OpenSpec.ofChange recordEventsSpec)

/-- ITS FALSE NEIGHBOUR: 'it returns false'. Refute it at one input. -/
def recordEventsWrong : ChangeSpec := { name := "recordEvents", fn := fun _ => fun
  | [d1, d2, d3, d4] => { results := [.lit (.bool false)], args := [d1, d2, d3, d4] }
  | _ => none }
def RecordEventsWrongFalsely : Prop := recordEventsRow.holds Tryz.pinned (OpenSpec.ofChange recordEventsWrong)

/-- 'almonerlaw11.RecordAnswers': WHATEVER THE INPUT: true; the input reads as it did. -/
def recordAnswersSpec : ChangeSpec := { name := "recordAnswers", fn := fun _ => fun
  | [d] => { results := [.lit (.bool true)], args := [d] }
  | _ => none }
def recordAnswersRow : OpenClaim := { program := "ytciblhmmpamjoaagreatdoor", sum := "604c033dae4dd1c7e663b6613a2d6c2c80d9807fcd6e14d88b08e7539a3eeb5d", func := "almoner/almonerlaw11.RecordAnswers", spec := "recordAnswers", inPlace := ["math.Float32bits", "slices.overlaps[uint32]"], unfollowed := true, recurses := true, named := ["almoner/quant.units"], apart := false, laid := [("almoner/quant.units", laid_almoner_quant_units)] }
def RecordAnswersSaid : Prop := recordAnswersRow.holds Tryz.pinned (OpenSpec.ofChange recordAnswersSpec)

/-- ITS FALSE NEIGHBOUR: 'it returns false'. Refute it at one input. -/
def recordAnswersWrong : ChangeSpec := { name := "recordAnswers", fn := fun _ => fun
  | [d] => { results := [.lit (.bool false)], args := [d] }
  | _ => none }
def RecordAnswersWrongFalsely : Prop := recordAnswersRow.holds Tryz.pinned (OpenSpec.ofChange recordAnswersWrong)

/-- 'almonerlaw11.RecordCopies': WHATEVER THE INPUT: true; the input reads as it did. -/
def recordCopiesSpec : ChangeSpec := { name := "recordCopies", fn := fun _ => fun
  | [d1, d2, d3] => { results := [.lit (.bool true)], args := [d1, d2, d3] }
  | _ => none }
def recordCopiesRow : OpenClaim := { program := "ytciblhmmpamjoaagreatdoor", sum := "604c033dae4dd1c7e663b6613a2d6c2c80d9807fcd6e14d88b08e7539a3eeb5d", func := "almoner/almonerlaw11.RecordCopies", spec := "recordCopies", inPlace := ["math.Float32bits", "slices.overlaps[uint32]"], unfollowed := true, recurses := true, named := ["almoner/quant.units"], apart := false, laid := [("almoner/quant.units", laid_almoner_quant_units)] }
def RecordCopiesSaid : Prop := recordCopiesRow.holds Tryz.pinned (OpenSpec.ofChange recordCopiesSpec)

/-- ITS FALSE NEIGHBOUR: 'it returns false'. Refute it at one input. -/
def recordCopiesWrong : ChangeSpec := { name := "recordCopies", fn := fun _ => fun
  | [d1, d2, d3] => { results := [.lit (.bool false)], args := [d1, d2, d3] }
  | _ => none }
def RecordCopiesWrongFalsely : Prop := recordCopiesRow.holds Tryz.pinned (OpenSpec.ofChange recordCopiesWrong)

/- THE SECOND FORM. 'bulk': how many values and letters a reading holds, each counted each time it is reached (what is shared counts as often as it is met; a slice's spare places count too). A statement '..UptoSaid' is the law's where the arguments, and the package variables that the reading takes, are together of bulk at most 1048576: NARROWER than '..Said'. Prove '..Said' where nothing that the law and all that it calls make is longer than what came in: it says more and counts as full. Else prove '..UptoSaid'. A law counts once. -/
mutual
def uptoBulk {H : Type} : DataW H → Nat
  | .lit (.string bytes) => bytes.length + 1
  | .lit _ => 1
  | .nil => 1
  | .ptr d => uptoBulk d + 1
  | .slice elems spare => uptoBulkAll elems + uptoBulkAll spare + 1
  | .agg parts => uptoBulkAll parts + 1
  | .iface _ d => uptoBulk d + 1
  | .map entries => uptoBulkEntries entries + 1
  | .held _ => 1
def uptoBulkAll {H : Type} : List (DataW H) → Nat
  | [] => 0
  | d :: r => uptoBulk d + uptoBulkAll r
def uptoBulkEntries {H : Type} : List (Lit × DataW H) → Nat
  | [] => 0
  | x :: r => uptoBulkEntry x + uptoBulkEntries r
def uptoBulkEntry {H : Type} : Lit × DataW H → Nat
  | (.string bytes, d) => bytes.length + uptoBulk d + 1
  | (_, d) => uptoBulk d + 1
 end
def uptoSmall : (H : Type) → List (DataW H) → Bool := fun _ ds => decide (uptoBulkAll ds ≤ 1048576)
def OpenSpec.upto (s : _root_.Go.ChangeSpec) : _root_.Go.OpenSpec := { _root_.Go.OpenSpec.ofChange s with cond := some uptoSmall }

/-- 'almonerlaw11.RecordForms', WHERE WHAT IT READS IS OF BULK AT MOST 1048576: true; the input reads as it did. -/
def recordFormsUptoRow : OpenClaim := { program := "ytciblhmmpamjoaagreatdoor", sum := "604c033dae4dd1c7e663b6613a2d6c2c80d9807fcd6e14d88b08e7539a3eeb5d", func := "almoner/almonerlaw11.RecordForms", spec := "recordForms", inPlace := ["math.Float32bits", "slices.overlaps[uint32]"], unfollowed := true, recurses := true, named := ["almoner/quant.units"], apart := false, laid := [("almoner/quant.units", laid_almoner_quant_units)], narrowed := true }
def RecordFormsUptoSaid : Prop := recordFormsUptoRow.holds Tryz.pinned (OpenSpec.upto recordFormsSpec)

/-- 'almonerlaw11.RecordApplies', WHERE WHAT IT READS IS OF BULK AT MOST 1048576: true; the input reads as it did. -/
def recordAppliesUptoRow : OpenClaim := { program := "ytciblhmmpamjoaagreatdoor", sum := "604c033dae4dd1c7e663b6613a2d6c2c80d9807fcd6e14d88b08e7539a3eeb5d", func := "almoner/almonerlaw11.RecordApplies", spec := "recordApplies", inPlace := ["math.Float32bits", "slices.overlaps[uint32]"], unfollowed := true, recurses := true, named := ["almoner/quant.units"], apart := false, laid := [("almoner/quant.units", laid_almoner_quant_units)], narrowed := true }
def RecordAppliesUptoSaid : Prop := recordAppliesUptoRow.holds Tryz.pinned (OpenSpec.upto recordAppliesSpec)

/-- 'almonerlaw11.RecordEvents', WHERE WHAT IT READS IS OF BULK AT MOST 1048576: true; the input reads as it did. -/
def recordEventsUptoRow : OpenClaim := { program := "ytciblhmmpamjoaagreatdoor", sum := "604c033dae4dd1c7e663b6613a2d6c2c80d9807fcd6e14d88b08e7539a3eeb5d", func := "almoner/almonerlaw11.RecordEvents", spec := "recordEvents", inPlace := ["math.Float32bits", "slices.overlaps[uint32]", "math.Float32frombits"], unfollowed := true, recurses := true, named := ["almoner/quant.units", "almoner/api.ErrKind", "almoner/api.ErrRange", "almoner/api.ErrLong", "almoner/api.ErrShort", "almoner/api.ErrOrder", "almoner/sha.start", "almoner/sha.k", "almoner/almonerref2.Begin", "almoner/almonerref2.K"], apart := false, laid := [("almoner/almonerref2.K", laid_almoner_almonerref2_K), ("almoner/almonerref2.Begin", laid_almoner_almonerref2_Begin), ("almoner/api.ErrShort", laid_almoner_api_ErrShort), ("almoner/api.ErrLong", laid_almoner_api_ErrLong), ("almoner/api.ErrRange", laid_almoner_api_ErrRange), ("almoner/api.ErrKind", laid_almoner_api_ErrKind), ("almoner/api.ErrOrder", laid_almoner_api_ErrOrder), ("almoner/sha.start", laid_almoner_sha_start), ("almoner/sha.k", laid_almoner_sha_k), ("almoner/quant.units", laid_almoner_quant_units)], narrowed := true }
def RecordEventsUptoSaid : Prop := recordEventsUptoRow.holds Tryz.pinned (OpenSpec.upto recordEventsSpec)

/-- 'almonerlaw11.RecordAnswers', WHERE WHAT IT READS IS OF BULK AT MOST 1048576: true; the input reads as it did. -/
def recordAnswersUptoRow : OpenClaim := { program := "ytciblhmmpamjoaagreatdoor", sum := "604c033dae4dd1c7e663b6613a2d6c2c80d9807fcd6e14d88b08e7539a3eeb5d", func := "almoner/almonerlaw11.RecordAnswers", spec := "recordAnswers", inPlace := ["math.Float32bits", "slices.overlaps[uint32]"], unfollowed := true, recurses := true, named := ["almoner/quant.units"], apart := false, laid := [("almoner/quant.units", laid_almoner_quant_units)], narrowed := true }
def RecordAnswersUptoSaid : Prop := recordAnswersUptoRow.holds Tryz.pinned (OpenSpec.upto recordAnswersSpec)

/-- 'almonerlaw11.RecordCopies', WHERE WHAT IT READS IS OF BULK AT MOST 1048576: true; the input reads as it did. -/
def recordCopiesUptoRow : OpenClaim := { program := "ytciblhmmpamjoaagreatdoor", sum := "604c033dae4dd1c7e663b6613a2d6c2c80d9807fcd6e14d88b08e7539a3eeb5d", func := "almoner/almonerlaw11.RecordCopies", spec := "recordCopies", inPlace := ["math.Float32bits", "slices.overlaps[uint32]"], unfollowed := true, recurses := true, named := ["almoner/quant.units"], apart := false, laid := [("almoner/quant.units", laid_almoner_quant_units)], narrowed := true }
def RecordCopiesUptoSaid : Prop := recordCopiesUptoRow.holds Tryz.pinned (OpenSpec.upto recordCopiesSpec)

end Rows
end Go.Proofs.YtciblhmmpamjoaaGreatDoor
