import Derived.Test.YtfoifojlgojgaabDoorDkq
namespace Go.Proofs.YtfoifojlgojgaabDoor
open Go.RowKit Go.ChangeShapes Go.WideShapes Go.Maps Go.Sort

/-- A piece with its file: the write's number, how many bytes, the file's name. -/
structure Own3 where
  wr : Nat
  sz : Nat
  fb : Nat
def Own3.cells (o : Own3) : List Value := [.int .i64 (o.wr : Nat), .int .i64 (o.sz : Nat), .pointer (some ⟨o.fb, 0, none⟩)]
def ocells (l : List Own3) : List Value := l.flatMap Own3.cells
theorem ocells_app (a : List Own3) (o : Own3) : ocells (a ++ [o]) = ocells a ++ o.cells := by simp [ocells]
def catL (g : Lit → List Own3) (left : Lit → Bool) : List (Lit × DataW Unit) → List Own3
  | [] => []
  | p :: r => (if left p.1 then g p.1 else []) ++ catL g left r
def catA (g : Lit → List Own3) : List (Lit × DataW Unit) → List Own3
  | [] => []
  | p :: r => g p.1 ++ catA g r
theorem catL_all (g : Lit → List Own3) (left : Lit → Bool) : ∀ l : List (Lit × DataW Unit), (∀ p ∈ l, left p.1 = true) → catL g left l = catA g l
  | [], _ => rfl
  | p :: r, h => by
    simp only [catL, catA, h p (List.mem_cons_self ..), if_true]
    rw [catL_all g left r (fun x hx => h x (List.mem_cons_of_mem _ hx))]
theorem catL_none (g : Lit → List Own3) (left : Lit → Bool) (hl : ∀ k, left k = false) : ∀ l : List (Lit × DataW Unit), catL g left l = []
  | [] => rfl
  | p :: r => by
    simp only [catL, hl p.1]
    rw [catL_none g left hl r]
    rfl
theorem catL_same (g : Lit → List Own3) (left : Lit → Bool) (k : Lit) : ∀ l : List (Lit × DataW Unit), (∀ p ∈ l, p.1 ≠ k) → catL g (fun z => left z && !z.sameKey k) l = catL g left l
  | [], _ => rfl
  | p :: r, h => by
    have e : p.1.sameKey k = false := Maps.sameKey_ne (h p (List.mem_cons_self ..))
    simp only [catL, e, Bool.not_false, Bool.and_true]
    rw [catL_same g left k r (fun x hx => h x (List.mem_cons_of_mem _ hx))]
theorem catL_step (g : Lit → List Own3) (left : Lit → Bool) (k : Lit) (hk : WideAt.IsKeyLit k) (hl : left k = true) : ∀ l : List (Lit × DataW Unit), l.Pairwise (fun p q => p.1 ≠ q.1) → l.any (fun p => p.1.sameKey k) = true → (catL g left l).Perm (g k ++ catL g (fun z => left z && !z.sameKey k) l)
  | [], _, h => by simp at h
  | p :: r, hp, h => by
    rw [List.pairwise_cons] at hp
    by_cases e : p.1 = k
    · have e2 := catL_same g left k r (fun x hx e3 => hp.1 x hx (e.trans e3.symm))
      simp only [catL, e, WideAt.sameKey_self hk, hl, Bool.not_true, Bool.and_false, if_true]
      rw [e2]
      simp
    · have e1 : p.1.sameKey k = false := Maps.sameKey_ne e
      have h' : r.any (fun p => p.1.sameKey k) = true := by simpa [e1] using h
      have ih := catL_step g left k hk hl r hp.2 h'
      simp only [catL, e1, Bool.not_false, Bool.and_true]
      refine (List.Perm.append_left _ ih).trans ?_
      rw [← List.append_assoc, ← List.append_assoc]
      exact List.Perm.append_right _ List.perm_append_comm
/-- The pieces of a file, by its key. -/
def DM.pcs (s : DM) (q : DW) : Lit → List Own3
  | .string x => (s.F x).ps.map fun p => ⟨p.1, p.2, q.fb x⟩
  | _ => []
/-- All pieces of a disk. -/
def DM.allp (s : DM) (q : DW) : List Own3 := catA (s.pcs q) (ents s.D)
end Go.Proofs.YtfoifojlgojgaabDoor
