import Derived.Test.YtkiepcdncegniaaPob
namespace Go.Proofs.Ytkiepcdncegniaa
open Go.RowKit

/-- A question: the staff, who asks, the sheet, the fields, the reason. -/
structure QM where
  sv : Value
  p : P3
  wd : Nat
  ow : Nat
  sl : Bool
  gv : Value
  fv : Value
  rs : ByteArray
theorem beq_cast (a b : Nat) : ((a : Int) == (b : Int)) = decide (a = b) := by
  rw [Bool.eq_iff_iff]; simp only [beq_iff_eq, decide_eq_true_eq]; omega
def QM.v (q : QM) : Value := .agg #[q.sv, .int .u32 (q.p.a : Nat), .int .u32 (q.p.r : Nat), .int .u32 (q.p.w : Nat), .int .u32 (q.wd : Nat), .int .u32 (q.ow : Nat), .bool q.sl, q.gv, q.fv, .string q.rs]
/-- Is the owner a patient? -/
def ownP (S : List P3) (ow : Nat) : Bool := match perso S ow with
  | some p => decide (p.r = 5)
  | none => false
end Go.Proofs.Ytkiepcdncegniaa
