import Derived.Test.YtfoifojlgojgaabDoorDks
namespace Go.Proofs.YtfoifojlgojgaabDoor
open Go.RowKit Go.ChangeShapes Go.WideShapes Go.Maps Go.Sort

theorem ranges_keep {w w' : World} {m r n cnt : Nat} {D : DataW Unit} {left : Lit → Bool} (h : w.ranges Tryd.prog 9 Rp m r n D left cnt) (hb : w'.heap[m]? = w.heap[m]?) (hr : w'.heap[r]? = w.heap[r]?) : w'.ranges Tryd.prog 9 Rp m r n D left cnt := by
  obtain ⟨es, clock, since, seen, c0, h1, F, hs, hD, h2, h3, h4, h5, h6, h7, h8⟩ := h
  exact ⟨es, clock, since, seen, c0, hb.trans h1, F, hs, hD, hr.trans h2, h3, h4, h5, h6, h7, h8⟩
theorem ranges_objs {w : World} {m r n cnt : Nat} {D : DataW Unit} {left : Lit → Bool} (h : w.ranges Tryd.prog 9 Rp m r n D left cnt) : (∃ es c, w.heap[m]? = some (.map es c)) ∧ ∃ a b c d, w.heap[r]? = some (.mapIter a b c d) := by
  obtain ⟨es, clock, since, seen, c0, h1, F, hs, hD, h2, _⟩ := h
  exact ⟨⟨_, _, h1⟩, _, _, _, _, h2⟩
theorem pcs_at (ps : List (Nat × Nat)) (k : Nat) (p : Nat × Nat) (h : ps[k]? = some p) : (pcells ps)[k * 2]? = some (.int .i64 (p.1 : Nat)) ∧ (pcells ps)[k * 2 + 1]? = some (.int .i64 (p.2 : Nat)) := by
  induction ps generalizing k with
  | nil => simp at h
  | cons x r ih =>
    have e : pcells (x :: r) = .int .i64 (x.1 : Nat) :: .int .i64 (x.2 : Nat) :: pcells r := rfl
    cases k with
    | zero => simp at h; subst h; rw [e]; simp
    | succ k =>
      simp at h
      obtain ⟨h1, h2⟩ := ih k h
      rw [e]
      exact ⟨by rw [show (k + 1) * 2 = k * 2 + 1 + 1 by omega]; simpa using h1, by rw [show (k + 1) * 2 + 1 = k * 2 + 1 + 1 + 1 by omega]; simpa using h2⟩
theorem size_alloc1 (w : World) (o : Obj) : (w.alloc o).heap.size = w.heap.size + 1 := by simp
/-- A row of one's own stays, where the walk over a map goes on. -/
theorem own_over {w w' : World} {base e size n : Nat} {v : Value} {xs : List Value} {m r nn cnt : Nat} {D : DataW Unit} {left : Lit → Bool} (h : w.ownsRow base e size v n xs) (hr : w.ranges Tryd.prog 9 Rp m r nn D left cnt) (hg : w.grownBy w' (some r)) : w'.ownsRow base e size v n xs := by
  refine ownsRow_of_block h (fun g hgb => ?_)
  refine ((Fr.refl (fun k => k = r) w).grown hg (fun k hk => .inl (by cases hk; rfl))).block g (h.lt g hgb).2 (fun e => ?_)
  subst e
  obtain ⟨_, a, b, c, d, h2⟩ := ranges_objs hr
  rcases h.2 with ⟨e1, _⟩ | ⟨g', cap', cur, e1, h1, h3, _⟩
  · rw [e1] at hgb; cases hgb
  · rw [e1] at hgb; cases hgb
    rw [h2] at h3; cases h3
end Go.Proofs.YtfoifojlgojgaabDoor
