import Derived.Test.YtkiepcdncegniaaPod
namespace Go.Proofs.Ytkiepcdncegniaa
open Go.RowKit

def QM.near (q : QM) : Bool := decide (q.p.w = q.wd)
def QM.own (q : QM) : Bool := decide (q.p.a = q.ow)
def QM.role (q : QM) (l : List Nat) : Bool := decide (q.p.r ∈ l)
/-- What a question stands upon: the staff, who is granted, the fields. -/
structure QE (w : World) (q : QM) (S : List P3) (G : List Nat) (F : List F5) : Prop where
  s : Stf w q.sv S
  g : Us w q.gv G
  f : Fds w q.fv F
  sl : S.length ≤ 140737488355328
  gl : G.length ≤ 140737488355328
  fl : F.length ≤ 140737488355328
theorem QE.fr {w w' : World} {q : QM} {S : List P3} {G : List Nat} {F : List F5} (h : QE w q S G F) (hf : Fr (fun _ => False) w w') : QE w' q S G F := ⟨h.s.fr hf, h.g.fr hf, h.f.fr hf, h.sl, h.gl, h.fl⟩
def QM.cs (q : QM) : Array Value := #[q.sv, .int .u32 (q.p.a : Nat), .int .u32 (q.p.r : Nat), .int .u32 (q.p.w : Nat), .int .u32 (q.wd : Nat), .int .u32 (q.ow : Nat), .bool q.sl, q.gv, q.fv, .string q.rs]
theorem Us.lit (W : World) (l : List Nat) (ht : TypeId) : Us (W.alloc (.cells (l.map fun c => Value.int .u32 (c : Nat)).toArray ht)) (.slice (some ⟨W.heap.size, 0, none⟩) l.length l.length) l := by
  refine .inr ⟨W.heap.size, 0, l.length, rfl, fun j hj => ?_⟩
  rw [World.cell?_alloc_at _ _ _ _ rfl]
  simp [hj]
/-- The rules. -/
def rdF (q : QM) (G : List Nat) : Bool := q.own || (q.near && q.role [3]) || (q.near && q.role [2, 1] && !q.sl) || (decide (q.p.a ∈ G) && q.role [3, 2])
def whyRd (q : QM) : Nat := if q.near && q.role [2, 1] then 6 else 5
def crF (q : QM) (S : List P3) : Bool := ownP S q.ow && q.near && q.role [1, 2, 3]
def whyCr (q : QM) (S : List P3) : Nat := if ownP S q.ow then 5 else 1
def hiF (q : QM) (G : List Nat) : Bool := q.role [4] || rdF q G
def amF (q : QM) (G : List Nat) (F : List F5) : Bool := rdF q G && (q.role [2, 3] || q.role [1] && txts F)
def whyAm (q : QM) (G : List Nat) : Nat := if rdF q G then 5 else whyRd q
def reF (q : QM) : Bool := q.own || (q.near && q.role [3])
def seF (q : QM) : Bool := q.own
def brF (q : QM) : Bool := q.role [3, 2] && !q.rs.toList.isEmpty
end Go.Proofs.Ytkiepcdncegniaa
