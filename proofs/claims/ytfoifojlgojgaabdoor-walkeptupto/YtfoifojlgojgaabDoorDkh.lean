import Derived.Test.YtfoifojlgojgaabDoorDkg
import Derived.Sort.KeysCollected
namespace Go.Proofs.YtfoifojlgojgaabDoor
open Go.RowKit Go.ChangeShapes Go.WideShapes Go.Maps Go.Sort

/-- The entries of a map. -/
def ents : DataW Unit → List (Lit × DataW Unit)
  | .map es => es
  | _ => []
/-- How many bytes of a file are pending, by its key. -/
def DM.pd (s : DM) : Lit → Int
  | .string x => ((s.F x).b.length : Int) - ((s.F x).safe : Int)
  | _ => 0
def sumL (g : Lit → Int) (left : Lit → Bool) : List (Lit × DataW Unit) → Int
  | [] => 0
  | p :: r => (if left p.1 then g p.1 else 0) + sumL g left r
def sumA (g : Lit → Int) : List (Lit × DataW Unit) → Int
  | [] => 0
  | p :: r => g p.1 + sumA g r
theorem sumL_all (g : Lit → Int) (left : Lit → Bool) : ∀ l : List (Lit × DataW Unit), (∀ p ∈ l, left p.1 = true) → sumL g left l = sumA g l
  | [], _ => rfl
  | p :: r, h => by
    simp only [sumL, sumA, h p (List.mem_cons_self ..), if_true]
    rw [sumL_all g left r (fun x hx => h x (List.mem_cons_of_mem _ hx))]
theorem sumL_none (g : Lit → Int) (left : Lit → Bool) (hl : ∀ k, left k = false) : ∀ l : List (Lit × DataW Unit), sumL g left l = 0
  | [] => rfl
  | p :: r => by
    simp only [sumL, hl p.1]
    rw [sumL_none g left hl r]
    rfl
theorem sumL_same (g : Lit → Int) (left : Lit → Bool) (k : Lit) : ∀ l : List (Lit × DataW Unit), (∀ p ∈ l, p.1 ≠ k) → sumL g (fun z => left z && !z.sameKey k) l = sumL g left l
  | [], _ => rfl
  | p :: r, h => by
    have e : p.1.sameKey k = false := Maps.sameKey_ne (h p (List.mem_cons_self ..))
    simp only [sumL, e, Bool.not_false, Bool.and_true]
    rw [sumL_same g left k r (fun x hx => h x (List.mem_cons_of_mem _ hx))]
theorem sumL_step (g : Lit → Int) (left : Lit → Bool) (k : Lit) (hk : WideAt.IsKeyLit k) (hl : left k = true) : ∀ l : List (Lit × DataW Unit), l.Pairwise (fun p q => p.1 ≠ q.1) → l.any (fun p => p.1.sameKey k) = true → sumL g left l = sumL g (fun z => left z && !z.sameKey k) l + g k
  | [], _, h => by simp at h
  | p :: r, hp, h => by
    rw [List.pairwise_cons] at hp
    by_cases e : p.1 = k
    · have e2 := sumL_same g left k r (fun x hx e3 => hp.1 x hx (e.trans e3.symm))
      simp only [sumL, e, WideAt.sameKey_self hk, hl, Bool.not_true, Bool.and_false, if_true]
      rw [e2]
      simp
      omega
    · have e1 : p.1.sameKey k = false := Maps.sameKey_ne e
      have h' : r.any (fun p => p.1.sameKey k) = true := by simpa [e1] using h
      have ih := sumL_step g left k hk hl r hp.2 h'
      simp only [sumL, e1, Bool.not_false, Bool.and_true]
      rw [ih]
      omega
theorem sumL_pos (g : Lit → Int) (left : Lit → Bool) : ∀ l : List (Lit × DataW Unit), (∀ p ∈ l, 0 ≤ g p.1) → 0 ≤ sumL g left l
  | [], _ => Int.le_refl _
  | p :: r, h => by
    have h1 := h p (List.mem_cons_self ..)
    have h2 := sumL_pos g left r (fun x hx => h x (List.mem_cons_of_mem _ hx))
    simp only [sumL]
    split <;> omega
theorem sumA_le (g : Lit → Int) (M : Nat) : ∀ l : List (Lit × DataW Unit), (∀ p ∈ l, g p.1 ≤ M) → sumA g l ≤ l.length * M
  | [], _ => by simp [sumA]
  | p :: r, h => by
    have h1 := h p (List.mem_cons_self ..)
    have h2 := sumA_le g M r (fun x hx => h x (List.mem_cons_of_mem _ hx))
    simp only [sumA, List.length_cons]
    have e : ((r.length + 1 : Nat) : Int) * (M : Int) = (r.length : Int) * (M : Int) + (M : Int) := by rw [Int.natCast_add, Int.add_mul]; simp
    rw [e]
    omega
theorem ranges_drewN {w : World} {m r n cnt : Nat} {D : DataW Unit} {left : Lit → Bool} (h : w.ranges Tryd.prog 9 Rp m r n D left cnt) (k : Nat) : (w.drewN k).ranges Tryd.prog 9 Rp m r n D left cnt := h
/-- How many bytes are pending. -/
def DM.pend (s : DM) : Int := sumA s.pd (ents s.D)
end Go.Proofs.YtfoifojlgojgaabDoor
