import Derived.Test.YtoflkfnmbighaaaDkq
namespace Go.Proofs.Ytoflkfnmbighaaa
open Go.RowKit Go.ChangeShapes Go.WideShapes Go.Maps Go.Sort

/-- A piece with its file: the write's number, how many bytes, the file's name. -/
structure Own3 where
  wr : Nat
  sz : Nat
  fb : Nat
def Own3.cells (o : Own3) : List Value := [.int .i64 (o.wr : Nat), .int .i64 (o.sz : Nat), .pointer (some ⟨o.fb, 0, none⟩)]
def ocells (l : List Own3) : List Value := l.flatMap Own3.cells
theorem ocells_app (a : List Own3) (o : Own3) : ocells (a ++ [o]) = ocells a ++ o.cells := by simp [ocells]
theorem Try.infoOw : (Try.prog.info? 102).map (fun i => (i.zero, i.size, i.bytes)) = some (some (.agg #[.int .i64 0, .int .i64 0, .pointer none]), 3, 24) := by kernel_rfl
/-- append(all, owned{p, f}). -/
theorem app_owned (w : World) (base : Nat) (v : Value) (l : List Own3) (o : Own3) (h : w.ownsRow base 102 3 v l.length (ocells l)) (hb : base ≤ w.heap.size) (hl : l.length ≤ 1000000) :
    ∃ ao cap w', (Builtin.append_ #[99, 99] 99 #[v, .slice (some ⟨w.heap.size, 0, none⟩) 1 1]).run Try.prog (w.alloc (.cells #[.int .i64 (o.wr : Nat), .int .i64 (o.sz : Nat), .pointer (some ⟨o.fb, 0, none⟩)] 102)) = .ok (.slice ao (l.length + 1) cap) w' ∧ w'.ownsRow base 102 3 (.slice ao (l.length + 1) cap) (l.length + 1) (ocells (l ++ [o])) ∧ Fr (fun g => v.ownBlock = some g) w w' ∧
      ∀ g, (Value.slice ao (l.length + 1) cap).ownBlock = some g → v.ownBlock = some g ∨ w.heap.size ≤ g := by
  obtain ⟨i0, hi, hz0, hz1, hz2⟩ := info_parts Try.infoOw
  have hb' := ownsRow_of_block (w' := w.alloc (.cells #[.int .i64 (o.wr : Nat), .int .i64 (o.sz : Nat), .pointer (some ⟨o.fb, 0, none⟩)] 102)) h (fun g hg => Below.heap_alloc _ _ _ (h.lt g hg).2)
  obtain ⟨v', w', hr, h2, h3, _, h5⟩ := run_append_own_at (P := Try.prog) (w := w.alloc (.cells #[.int .i64 (o.wr : Nat), .int .i64 (o.sz : Nat), .pointer (some ⟨o.fb, 0, none⟩)] 102)) base 99 99 102 i0 (.agg #[.int .i64 0, .int .i64 0, .pointer none]) 3 24 Try.underlying99 hi hz0 hz1 hz2 rfl (by decide) v l.length (ocells l) hb' ⟨w.heap.size, 0, none⟩ 1 1 o.cells rfl (fun j u hu => by
    rw [addr_add, World.cell?_alloc_at _ _ _ _ rfl]; simpa [Own3.cells] using hu) (fun u hu => by simp [Own3.cells] at hu; rcases hu with rfl | rfl | rfl <;> rfl) (by simp only [maxLen]; omega) (by omega) (by simp; omega)
  obtain ⟨ao, cap, rfl⟩ := own_formX h2
  refine ⟨ao, cap, w', hr, by rw [ocells_app]; exact h2, ((box1 w _).mono (fun _ _ h => h.elim)).grown h3 (fun g hg => .inl hg), fun g hg => ?_⟩
  rcases h5 with e | e
  · rw [e] at hg; exact .inl hg
  · rw [e] at hg; cases hg; exact .inr (by simp)
def catL (g : Lit → List Own3) (left : Lit → Bool) : List (Lit × DataW Unit) → List Own3
  | [] => []
  | p :: r => (if left p.1 then g p.1 else []) ++ catL g left r
def catA (g : Lit → List Own3) : List (Lit × DataW Unit) → List Own3
  | [] => []
  | p :: r => g p.1 ++ catA g r
theorem catL_all (g : Lit → List Own3) (left : Lit → Bool) : ∀ l : List (Lit × DataW Unit), (∀ p ∈ l, left p.1 = true) → catL g left l = catA g l
  | [], _ => rfl
  | p :: r, h => by
    simp only [catL, catA, h p (List.mem_cons_self ..), if_true]
    rw [catL_all g left r (fun x hx => h x (List.mem_cons_of_mem _ hx))]
theorem catL_none (g : Lit → List Own3) (left : Lit → Bool) (hl : ∀ k, left k = false) : ∀ l : List (Lit × DataW Unit), catL g left l = []
  | [] => rfl
  | p :: r => by
    simp only [catL, hl p.1]
    rw [catL_none g left hl r]
    rfl
theorem catL_same (g : Lit → List Own3) (left : Lit → Bool) (k : Lit) : ∀ l : List (Lit × DataW Unit), (∀ p ∈ l, p.1 ≠ k) → catL g (fun z => left z && !z.sameKey k) l = catL g left l
  | [], _ => rfl
  | p :: r, h => by
    have e : p.1.sameKey k = false := Maps.sameKey_ne (h p (List.mem_cons_self ..))
    simp only [catL, e, Bool.not_false, Bool.and_true]
    rw [catL_same g left k r (fun x hx => h x (List.mem_cons_of_mem _ hx))]
theorem catL_step (g : Lit → List Own3) (left : Lit → Bool) (k : Lit) (hk : WideAt.IsKeyLit k) (hl : left k = true) : ∀ l : List (Lit × DataW Unit), l.Pairwise (fun p q => p.1 ≠ q.1) → l.any (fun p => p.1.sameKey k) = true → (catL g left l).Perm (g k ++ catL g (fun z => left z && !z.sameKey k) l)
  | [], _, h => by simp at h
  | p :: r, hp, h => by
    rw [List.pairwise_cons] at hp
    by_cases e : p.1 = k
    · have e2 := catL_same g left k r (fun x hx e3 => hp.1 x hx (e.trans e3.symm))
      simp only [catL, e, WideAt.sameKey_self hk, hl, Bool.not_true, Bool.and_false, if_true]
      rw [e2]
      simp
    · have e1 : p.1.sameKey k = false := Maps.sameKey_ne e
      have h' : r.any (fun p => p.1.sameKey k) = true := by simpa [e1] using h
      have ih := catL_step g left k hk hl r hp.2 h'
      simp only [catL, e1, Bool.not_false, Bool.and_true]
      refine (List.Perm.append_left _ ih).trans ?_
      rw [← List.append_assoc, ← List.append_assoc]
      exact List.Perm.append_right _ List.perm_append_comm
/-- The pieces of a file, by its key. -/
def DM.pcs (s : DM) (q : DW) : Lit → List Own3
  | .string x => (s.F x).ps.map fun p => ⟨p.1, p.2, q.fb x⟩
  | _ => []
/-- All pieces of a disk. -/
def DM.allp (s : DM) (q : DW) : List Own3 := catA (s.pcs q) (ents s.D)
end Go.Proofs.Ytoflkfnmbighaaa
