/-
  No cell of these rows narrows 'for every input' (looked for: loops, veiled, ifaces, maps, wideKeys, modest, calm, conditions, laid).
  DERIVED. THE GIVEN ROWS OF THIS SEAT. 5 by the template 'for every input the law returns true; each argument reads behind the call as it read before'; 0 by the template 'total and deterministic' (their statements: YtkiepcdncegniaaTotals.lean).
  GIVEN WITH THE SEED: the statements are not yours to turn. If you find one false, say at which input.
  Laid BY PROGRAM, IN A SANDBOX (cutbox-rows.mjs): the forced cells as the released guide's own fill.sh prints them over the translation 34e1130577a3f487… (all of the seat's roots in one cut). By AI agents, Wed Nov 11 2026. No macro, syntax, notation, axiom, sorry.
-/
import Derived.Test.YtkiepcdncegniaaChecked
import GoSem.Claim
import GoSem.ClaimJoined
import GoSem.ClaimMapViews
import Derived.JoinedTies
import Derived.KernelRfl
namespace Go.Proofs.Ytkiepcdncegniaa
/- THE CELL 'sum', in the pinned program and in every row, IS THE sha256 OF THE DUMP (.gsa) THAT YtkiepcdncegniaaProg.lean LOADS. Nothing in Lean hashes anything: it is a label: what it is worth is what the hold of that sum in a sandbox is worth. -/
noncomputable def Try.pinned : Pinned := { name := "ytkiepcdncegniaa", sum := "34e1130577a3f4879eebcbd1c6ec7b11c2ff7dcccf06e8af0c2230492ed2afa1", checked := Try.checked }
namespace Rows
def none {H : Type} : Left H := { results := [], args := [] }

/-- 'almonerlaw17.SessionKnown': WHATEVER THE INPUT: true; the input reads as it did. -/
def sessionKnownSpec : ChangeSpec := { name := "sessionKnown", fn := fun _ => fun
  | [] => { results := [.lit (.bool true)], args := [] }
  | _ => none }
def sessionKnownRow : OpenClaim := { program := "ytkiepcdncegniaa", sum := "34e1130577a3f4879eebcbd1c6ec7b11c2ff7dcccf06e8af0c2230492ed2afa1", func := "almoner/almonerlaw17.SessionKnown", spec := "sessionKnown", inPlace := ["math.Float32bits"], unfollowed := true, recurses := true, plainKeys := false, apart := false }
def SessionKnownSaid : Prop := sessionKnownRow.holds Try.pinned (OpenSpec.ofChange sessionKnownSpec)

/-- ITS FALSE NEIGHBOUR: 'it returns false'. Refute it at one input. -/
def sessionKnownWrong : ChangeSpec := { name := "sessionKnown", fn := fun _ => fun
  | [] => { results := [.lit (.bool false)], args := [] }
  | _ => none }
def SessionKnownWrongFalsely : Prop := sessionKnownRow.holds Try.pinned (OpenSpec.ofChange sessionKnownWrong)

/-- 'almonerlaw17.SessionPlays': WHATEVER THE INPUT: true; the input reads as it did. -/
def sessionPlaysSpec : ChangeSpec := { name := "sessionPlays", fn := fun _ => fun
  | [d1, d2] => { results := [.lit (.bool true)], args := [d1, d2] }
  | _ => none }
def sessionPlaysRow : OpenClaim := { program := "ytkiepcdncegniaa", sum := "34e1130577a3f4879eebcbd1c6ec7b11c2ff7dcccf06e8af0c2230492ed2afa1", func := "almoner/almonerlaw17.SessionPlays", spec := "sessionPlays", inPlace := ["math.Float32bits"], unfollowed := true, recurses := true, plainKeys := false, apart := false }
def SessionPlaysSaid : Prop := sessionPlaysRow.holds Try.pinned (OpenSpec.ofChange sessionPlaysSpec)

/-- ITS FALSE NEIGHBOUR: 'it returns false'. Refute it at one input. -/
def sessionPlaysWrong : ChangeSpec := { name := "sessionPlays", fn := fun _ => fun
  | [d1, d2] => { results := [.lit (.bool false)], args := [d1, d2] }
  | _ => none }
def SessionPlaysWrongFalsely : Prop := sessionPlaysRow.holds Try.pinned (OpenSpec.ofChange sessionPlaysWrong)

/-- 'almonerlaw17.SessionOnce': WHATEVER THE INPUT: true; the input reads as it did. -/
def sessionOnceSpec : ChangeSpec := { name := "sessionOnce", fn := fun _ => fun
  | [d1, d2] => { results := [.lit (.bool true)], args := [d1, d2] }
  | _ => none }
def sessionOnceRow : OpenClaim := { program := "ytkiepcdncegniaa", sum := "34e1130577a3f4879eebcbd1c6ec7b11c2ff7dcccf06e8af0c2230492ed2afa1", func := "almoner/almonerlaw17.SessionOnce", spec := "sessionOnce", inPlace := ["math.Float32bits"], unfollowed := true, recurses := true, plainKeys := false, apart := false }
def SessionOnceSaid : Prop := sessionOnceRow.holds Try.pinned (OpenSpec.ofChange sessionOnceSpec)

/-- ITS FALSE NEIGHBOUR: 'it returns false'. Refute it at one input. -/
def sessionOnceWrong : ChangeSpec := { name := "sessionOnce", fn := fun _ => fun
  | [d1, d2] => { results := [.lit (.bool false)], args := [d1, d2] }
  | _ => none }
def SessionOnceWrongFalsely : Prop := sessionOnceRow.holds Try.pinned (OpenSpec.ofChange sessionOnceWrong)

/-- 'almonerlaw17.SessionMany': WHATEVER THE INPUT: true; the input reads as it did. -/
def sessionManySpec : ChangeSpec := { name := "sessionMany", fn := fun _ => fun
  | [] => { results := [.lit (.bool true)], args := [] }
  | _ => none }
def sessionManyRow : OpenClaim := { program := "ytkiepcdncegniaa", sum := "34e1130577a3f4879eebcbd1c6ec7b11c2ff7dcccf06e8af0c2230492ed2afa1", func := "almoner/almonerlaw17.SessionMany", spec := "sessionMany", inPlace := ["math.Float32bits"], unfollowed := true, recurses := true, plainKeys := false, apart := false }
def SessionManySaid : Prop := sessionManyRow.holds Try.pinned (OpenSpec.ofChange sessionManySpec)

/-- ITS FALSE NEIGHBOUR: 'it returns false'. Refute it at one input. -/
def sessionManyWrong : ChangeSpec := { name := "sessionMany", fn := fun _ => fun
  | [] => { results := [.lit (.bool false)], args := [] }
  | _ => none }
def SessionManyWrongFalsely : Prop := sessionManyRow.holds Try.pinned (OpenSpec.ofChange sessionManyWrong)

/-- 'almonerlaw17.SessionKept': WHATEVER THE INPUT: true; the input reads as it did. -/
def sessionKeptSpec : ChangeSpec := { name := "sessionKept", fn := fun _ => fun
  | [d] => { results := [.lit (.bool true)], args := [d] }
  | _ => none }
def sessionKeptRow : OpenClaim := { program := "ytkiepcdncegniaa", sum := "34e1130577a3f4879eebcbd1c6ec7b11c2ff7dcccf06e8af0c2230492ed2afa1", func := "almoner/almonerlaw17.SessionKept", spec := "sessionKept", inPlace := ["math.Float32bits"], unfollowed := true, recurses := true, plainKeys := false, apart := false }
def SessionKeptSaid : Prop := sessionKeptRow.holds Try.pinned (OpenSpec.ofChange sessionKeptSpec)

/-- ITS FALSE NEIGHBOUR: 'it returns false'. Refute it at one input. -/
def sessionKeptWrong : ChangeSpec := { name := "sessionKept", fn := fun _ => fun
  | [d] => { results := [.lit (.bool false)], args := [d] }
  | _ => none }
def SessionKeptWrongFalsely : Prop := sessionKeptRow.holds Try.pinned (OpenSpec.ofChange sessionKeptWrong)

/- THE SECOND FORM. 'bulk': how many values and letters a reading holds, each counted each time it is reached (what is shared counts as often as it is met; a slice's spare places count too). A statement '..UptoSaid' is the law's where the arguments, and the package variables that the reading takes, are together of bulk at most 1048576: NARROWER than '..Said'. Prove '..Said' where nothing that the law and all that it calls make is longer than what came in: it says more and counts as full. Else prove '..UptoSaid'. A law counts once. -/
mutual
def uptoBulk {H : Type} : DataW H → Nat
  | .lit (.string bytes) => bytes.length + 1
  | .lit _ => 1
  | .nil => 1
  | .ptr d => uptoBulk d + 1
  | .slice elems spare => uptoBulkAll elems + uptoBulkAll spare + 1
  | .agg parts => uptoBulkAll parts + 1
  | .iface _ d => uptoBulk d + 1
  | .map entries => uptoBulkEntries entries + 1
  | .held _ => 1
def uptoBulkAll {H : Type} : List (DataW H) → Nat
  | [] => 0
  | d :: r => uptoBulk d + uptoBulkAll r
def uptoBulkEntries {H : Type} : List (Lit × DataW H) → Nat
  | [] => 0
  | x :: r => uptoBulkEntry x + uptoBulkEntries r
def uptoBulkEntry {H : Type} : Lit × DataW H → Nat
  | (.string bytes, d) => bytes.length + uptoBulk d + 1
  | (_, d) => uptoBulk d + 1
 end
def uptoSmall : (H : Type) → List (DataW H) → Bool := fun _ ds => decide (uptoBulkAll ds ≤ 1048576)
def OpenSpec.upto (s : _root_.Go.ChangeSpec) : _root_.Go.OpenSpec := { _root_.Go.OpenSpec.ofChange s with cond := some uptoSmall }

/-- 'almonerlaw17.SessionKnown', WHERE WHAT IT READS IS OF BULK AT MOST 1048576: true; the input reads as it did. -/
def sessionKnownUptoRow : OpenClaim := { program := "ytkiepcdncegniaa", sum := "34e1130577a3f4879eebcbd1c6ec7b11c2ff7dcccf06e8af0c2230492ed2afa1", func := "almoner/almonerlaw17.SessionKnown", spec := "sessionKnown", inPlace := ["math.Float32bits"], unfollowed := true, recurses := true, plainKeys := false, apart := false, narrowed := true }
def SessionKnownUptoSaid : Prop := sessionKnownUptoRow.holds Try.pinned (OpenSpec.upto sessionKnownSpec)

/-- 'almonerlaw17.SessionPlays', WHERE WHAT IT READS IS OF BULK AT MOST 1048576: true; the input reads as it did. -/
def sessionPlaysUptoRow : OpenClaim := { program := "ytkiepcdncegniaa", sum := "34e1130577a3f4879eebcbd1c6ec7b11c2ff7dcccf06e8af0c2230492ed2afa1", func := "almoner/almonerlaw17.SessionPlays", spec := "sessionPlays", inPlace := ["math.Float32bits"], unfollowed := true, recurses := true, plainKeys := false, apart := false, narrowed := true }
def SessionPlaysUptoSaid : Prop := sessionPlaysUptoRow.holds Try.pinned (OpenSpec.upto sessionPlaysSpec)

/-- 'almonerlaw17.SessionOnce', WHERE WHAT IT READS IS OF BULK AT MOST 1048576: true; the input reads as it did. -/
def sessionOnceUptoRow : OpenClaim := { program := "ytkiepcdncegniaa", sum := "34e1130577a3f4879eebcbd1c6ec7b11c2ff7dcccf06e8af0c2230492ed2afa1", func := "almoner/almonerlaw17.SessionOnce", spec := "sessionOnce", inPlace := ["math.Float32bits"], unfollowed := true, recurses := true, plainKeys := false, apart := false, narrowed := true }
def SessionOnceUptoSaid : Prop := sessionOnceUptoRow.holds Try.pinned (OpenSpec.upto sessionOnceSpec)

/-- 'almonerlaw17.SessionMany', WHERE WHAT IT READS IS OF BULK AT MOST 1048576: true; the input reads as it did. -/
def sessionManyUptoRow : OpenClaim := { program := "ytkiepcdncegniaa", sum := "34e1130577a3f4879eebcbd1c6ec7b11c2ff7dcccf06e8af0c2230492ed2afa1", func := "almoner/almonerlaw17.SessionMany", spec := "sessionMany", inPlace := ["math.Float32bits"], unfollowed := true, recurses := true, plainKeys := false, apart := false, narrowed := true }
def SessionManyUptoSaid : Prop := sessionManyUptoRow.holds Try.pinned (OpenSpec.upto sessionManySpec)

/-- 'almonerlaw17.SessionKept', WHERE WHAT IT READS IS OF BULK AT MOST 1048576: true; the input reads as it did. -/
def sessionKeptUptoRow : OpenClaim := { program := "ytkiepcdncegniaa", sum := "34e1130577a3f4879eebcbd1c6ec7b11c2ff7dcccf06e8af0c2230492ed2afa1", func := "almoner/almonerlaw17.SessionKept", spec := "sessionKept", inPlace := ["math.Float32bits"], unfollowed := true, recurses := true, plainKeys := false, apart := false, narrowed := true }
def SessionKeptUptoSaid : Prop := sessionKeptUptoRow.holds Try.pinned (OpenSpec.upto sessionKeptSpec)

end Rows
end Go.Proofs.Ytkiepcdncegniaa
