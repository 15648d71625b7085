/-
  No cell of these rows narrows 'for every input' (looked for: loops, veiled, ifaces, maps, wideKeys, modest, calm, conditions, laid).
  DERIVED. THE GIVEN ROWS OF THIS SEAT. 4 by the template 'for every input the law returns true; each argument reads behind the call as it read before'; 0 by the template 'total and deterministic' (their statements: YtficeloegepdkaaTotals.lean).
  GIVEN WITH THE SEED: the statements are not yours to turn. If you find one false, say at which input.
  Laid BY PROGRAM, IN A SANDBOX (cutbox-rows.mjs): the forced cells as the released guide's own fill.sh prints them over the translation fa0d9514dc517e74… (all of the seat's roots in one cut). By AI agents, Wed Nov 11 2026. No macro, syntax, notation, axiom, sorry.
-/
import Derived.Test.YtficeloegepdkaaChecked
import GoSem.Claim
import GoSem.ClaimJoined
import GoSem.ClaimMapViews
import Derived.JoinedTies
import Derived.KernelRfl
namespace Go.Proofs.Ytficeloegepdkaa
/- THE CELL 'sum', in the pinned program and in every row, IS THE sha256 OF THE DUMP (.gsa) THAT YtficeloegepdkaaProg.lean LOADS. Nothing in Lean hashes anything: it is a label: what it is worth is what the hold of that sum in a sandbox is worth. -/
noncomputable def Try.pinned : Pinned := { name := "ytficeloegepdkaa", sum := "fa0d9514dc517e74ae3df7c1870c5ef8744afd628255a8c7e5c41db437a18b21", checked := Try.checked }
namespace Rows
def none {H : Type} : Left H := { results := [], args := [] }

/-- 'almonerlaw10.PolicyKnown': WHATEVER THE INPUT: true; the input reads as it did. -/
def policyKnownSpec : ChangeSpec := { name := "policyKnown", fn := fun _ => fun
  | [] => { results := [.lit (.bool true)], args := [] }
  | _ => none }
def policyKnownRow : OpenClaim := { program := "ytficeloegepdkaa", sum := "fa0d9514dc517e74ae3df7c1870c5ef8744afd628255a8c7e5c41db437a18b21", func := "almoner/almonerlaw10.PolicyKnown", spec := "policyKnown", unfollowed := true, recurses := true, apart := false }
def PolicyKnownSaid : Prop := policyKnownRow.holds Try.pinned (OpenSpec.ofChange policyKnownSpec)

/-- ITS FALSE NEIGHBOUR: 'it returns false'. Refute it at one input. -/
def policyKnownWrong : ChangeSpec := { name := "policyKnown", fn := fun _ => fun
  | [] => { results := [.lit (.bool false)], args := [] }
  | _ => none }
def PolicyKnownWrongFalsely : Prop := policyKnownRow.holds Try.pinned (OpenSpec.ofChange policyKnownWrong)

/-- 'almonerlaw10.PolicyFinds': WHATEVER THE INPUT: true; the input reads as it did. -/
def policyFindsSpec : ChangeSpec := { name := "policyFinds", fn := fun _ => fun
  | [d1, d2] => { results := [.lit (.bool true)], args := [d1, d2] }
  | _ => none }
def policyFindsRow : OpenClaim := { program := "ytficeloegepdkaa", sum := "fa0d9514dc517e74ae3df7c1870c5ef8744afd628255a8c7e5c41db437a18b21", func := "almoner/almonerlaw10.PolicyFinds", spec := "policyFinds", unfollowed := true, recurses := true, apart := false }
def PolicyFindsSaid : Prop := policyFindsRow.holds Try.pinned (OpenSpec.ofChange policyFindsSpec)

/-- ITS FALSE NEIGHBOUR: 'it returns false'. Refute it at one input. -/
def policyFindsWrong : ChangeSpec := { name := "policyFinds", fn := fun _ => fun
  | [d1, d2] => { results := [.lit (.bool false)], args := [d1, d2] }
  | _ => none }
def PolicyFindsWrongFalsely : Prop := policyFindsRow.holds Try.pinned (OpenSpec.ofChange policyFindsWrong)

/-- 'almonerlaw10.PolicyJudges': WHATEVER THE INPUT: true; the input reads as it did. -/
def policyJudgesSpec : ChangeSpec := { name := "policyJudges", fn := fun _ => fun
  | [d] => { results := [.lit (.bool true)], args := [d] }
  | _ => none }
def policyJudgesRow : OpenClaim := { program := "ytficeloegepdkaa", sum := "fa0d9514dc517e74ae3df7c1870c5ef8744afd628255a8c7e5c41db437a18b21", func := "almoner/almonerlaw10.PolicyJudges", spec := "policyJudges", unfollowed := true, recurses := true, apart := false }
def PolicyJudgesSaid : Prop := policyJudgesRow.holds Try.pinned (OpenSpec.ofChange policyJudgesSpec)

/-- ITS FALSE NEIGHBOUR: 'it returns false'. Refute it at one input. -/
def policyJudgesWrong : ChangeSpec := { name := "policyJudges", fn := fun _ => fun
  | [d] => { results := [.lit (.bool false)], args := [d] }
  | _ => none }
def PolicyJudgesWrongFalsely : Prop := policyJudgesRow.holds Try.pinned (OpenSpec.ofChange policyJudgesWrong)

/-- 'almonerlaw10.PolicyKeeps': WHATEVER THE INPUT: true; the input reads as it did. -/
def policyKeepsSpec : ChangeSpec := { name := "policyKeeps", fn := fun _ => fun
  | [d1, d2] => { results := [.lit (.bool true)], args := [d1, d2] }
  | _ => none }
def policyKeepsRow : OpenClaim := { program := "ytficeloegepdkaa", sum := "fa0d9514dc517e74ae3df7c1870c5ef8744afd628255a8c7e5c41db437a18b21", func := "almoner/almonerlaw10.PolicyKeeps", spec := "policyKeeps", unfollowed := true, recurses := true, apart := false }
def PolicyKeepsSaid : Prop := policyKeepsRow.holds Try.pinned (OpenSpec.ofChange policyKeepsSpec)

/-- ITS FALSE NEIGHBOUR: 'it returns false'. Refute it at one input. -/
def policyKeepsWrong : ChangeSpec := { name := "policyKeeps", fn := fun _ => fun
  | [d1, d2] => { results := [.lit (.bool false)], args := [d1, d2] }
  | _ => none }
def PolicyKeepsWrongFalsely : Prop := policyKeepsRow.holds Try.pinned (OpenSpec.ofChange policyKeepsWrong)

/- THE SECOND FORM. 'bulk': how many values and letters a reading holds, each counted each time it is reached (what is shared counts as often as it is met; a slice's spare places count too). A statement '..UptoSaid' is the law's where the arguments, and the package variables that the reading takes, are together of bulk at most 1048576: NARROWER than '..Said'. Prove '..Said' where nothing that the law and all that it calls make is longer than what came in: it says more and counts as full. Else prove '..UptoSaid'. A law counts once. -/
mutual
def uptoBulk {H : Type} : DataW H → Nat
  | .lit (.string bytes) => bytes.length + 1
  | .lit _ => 1
  | .nil => 1
  | .ptr d => uptoBulk d + 1
  | .slice elems spare => uptoBulkAll elems + uptoBulkAll spare + 1
  | .agg parts => uptoBulkAll parts + 1
  | .iface _ d => uptoBulk d + 1
  | .map entries => uptoBulkEntries entries + 1
  | .held _ => 1
def uptoBulkAll {H : Type} : List (DataW H) → Nat
  | [] => 0
  | d :: r => uptoBulk d + uptoBulkAll r
def uptoBulkEntries {H : Type} : List (Lit × DataW H) → Nat
  | [] => 0
  | x :: r => uptoBulkEntry x + uptoBulkEntries r
def uptoBulkEntry {H : Type} : Lit × DataW H → Nat
  | (.string bytes, d) => bytes.length + uptoBulk d + 1
  | (_, d) => uptoBulk d + 1
 end
def uptoSmall : (H : Type) → List (DataW H) → Bool := fun _ ds => decide (uptoBulkAll ds ≤ 1048576)
def OpenSpec.upto (s : _root_.Go.ChangeSpec) : _root_.Go.OpenSpec := { _root_.Go.OpenSpec.ofChange s with cond := some uptoSmall }

/-- 'almonerlaw10.PolicyKnown', WHERE WHAT IT READS IS OF BULK AT MOST 1048576: true; the input reads as it did. -/
def policyKnownUptoRow : OpenClaim := { program := "ytficeloegepdkaa", sum := "fa0d9514dc517e74ae3df7c1870c5ef8744afd628255a8c7e5c41db437a18b21", func := "almoner/almonerlaw10.PolicyKnown", spec := "policyKnown", unfollowed := true, recurses := true, apart := false, narrowed := true }
def PolicyKnownUptoSaid : Prop := policyKnownUptoRow.holds Try.pinned (OpenSpec.upto policyKnownSpec)

/-- 'almonerlaw10.PolicyFinds', WHERE WHAT IT READS IS OF BULK AT MOST 1048576: true; the input reads as it did. -/
def policyFindsUptoRow : OpenClaim := { program := "ytficeloegepdkaa", sum := "fa0d9514dc517e74ae3df7c1870c5ef8744afd628255a8c7e5c41db437a18b21", func := "almoner/almonerlaw10.PolicyFinds", spec := "policyFinds", unfollowed := true, recurses := true, apart := false, narrowed := true }
def PolicyFindsUptoSaid : Prop := policyFindsUptoRow.holds Try.pinned (OpenSpec.upto policyFindsSpec)

/-- 'almonerlaw10.PolicyJudges', WHERE WHAT IT READS IS OF BULK AT MOST 1048576: true; the input reads as it did. -/
def policyJudgesUptoRow : OpenClaim := { program := "ytficeloegepdkaa", sum := "fa0d9514dc517e74ae3df7c1870c5ef8744afd628255a8c7e5c41db437a18b21", func := "almoner/almonerlaw10.PolicyJudges", spec := "policyJudges", unfollowed := true, recurses := true, apart := false, narrowed := true }
def PolicyJudgesUptoSaid : Prop := policyJudgesUptoRow.holds Try.pinned (OpenSpec.upto policyJudgesSpec)

/-- 'almonerlaw10.PolicyKeeps', WHERE WHAT IT READS IS OF BULK AT MOST 1048576: true; the input reads as it did. -/
def policyKeepsUptoRow : OpenClaim := { program := "ytficeloegepdkaa", sum := "fa0d9514dc517e74ae3df7c1870c5ef8744afd628255a8c7e5c41db437a18b21", func := "almoner/almonerlaw10.PolicyKeeps", spec := "policyKeeps", unfollowed := true, recurses := true, apart := false, narrowed := true }
def PolicyKeepsUptoSaid : Prop := policyKeepsUptoRow.holds Try.pinned (OpenSpec.upto policyKeepsSpec)

end Rows
end Go.Proofs.Ytficeloegepdkaa
