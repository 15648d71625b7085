import Derived.Test.YtiknjghcjaaenaaGreatDoorKOau
namespace Go.Proofs.YtiknjghcjaaenaaGreatDoor
open Go.RowKit Go.Shelf
theorem pcells_len (l : List P3) : (pcells l).length = l.length * 3 := by
 induction l with
 | nil => rfl
 | cons f r ih =>
  have e : pcells (f :: r) = [.int .u32 (f.a : Nat), .int .u32 (f.r : Nat), .int .u32 (f.w : Nat)] ++ pcells r := by simp [pcells, P3.cells]
  rw [e, List.length_append, ih]
  simp only [List.length_cons, List.length_nil]
  omega
theorem pcells_at : ∀ (l : List P3) (k : Nat) (h : k < l.length), (pcells l)[k * 3]? = some (.int .u32 (l[k].a : Nat)) ∧ (pcells l)[k * 3 + 1]? = some (.int .u32 (l[k].r : Nat)) ∧ (pcells l)[k * 3 + 2]? = some (.int .u32 (l[k].w : Nat))
 | [], k, h => by simp at h
 | f :: r, 0, _ => by simp [pcells, P3.cells]
 | f :: r, k + 1, h => by
  have ih := pcells_at r k (by simpa using h)
  have e : pcells (f :: r) = [.int .u32 (f.a : Nat), .int .u32 (f.r : Nat), .int .u32 (f.w : Nat)] ++ pcells r := by simp [pcells, P3.cells]
  have hl : ([Value.int .u32 (f.a : Nat), .int .u32 (f.r : Nat), .int .u32 (f.w : Nat)]).length = 3 := rfl
  rw [e]
  refine ⟨?_, ?_, ?_⟩
  ·rw [List.getElem?_append_right (by rw [hl]; omega), hl, show (k + 1) * 3 - 3 = k * 3 by omega]; exact ih.1
  ·rw [List.getElem?_append_right (by rw [hl]; omega), hl, show (k + 1) * 3 + 1 - 3 = k * 3 + 1 by omega]; exact ih.2.1
  ·rw [List.getElem?_append_right (by rw [hl]; omega), hl, show (k + 1) * 3 + 2 - 3 = k * 3 + 2 by omega]; exact ih.2.2
theorem pcells_one (l : List P3) : ∀ u ∈ pcells l, u.oneCell' = true := by
 intro u hu
 simp only [pcells, P3.cells, List.mem_flatMap] at hu
 obtain ⟨f, _, hu⟩ := hu
 simp at hu
 rcases hu with rfl | rfl | rfl <;> rfl
theorem own_stf {w : World} {base : Nat} {v : Value} {l : List P3} (h : w.ownsRow base 33 3 v l.length (pcells l)) : Stf w v l := by
 rcases Nat.eq_zero_or_pos l.length with h0 | h0
 ·obtain rfl := List.length_eq_zero_iff.1 h0
  obtain ⟨ao, cap, rfl⟩ := own_formX h
  exact .inl ⟨ao, cap, rfl, rfl⟩
 ·obtain ⟨g, cap, rfl, _, _⟩ := h.form h0
  refine .inr ⟨g, 0, cap, rfl, fun j hj => ?_⟩
  obtain ⟨e0, e1, e2⟩ := pcells_at l j hj
  have hc : ∀ i u, (pcells l)[i]? = some u → w.cell? ⟨g, 0 + i, none⟩ = some u := fun i u hu => by
   rw [Nat.zero_add]
   have hi : i < (pcells l).length := (List.getElem?_eq_some_iff.1 hu).1
   rw [pcells_len] at hi
   rw [h.cellAt i (by omega)]
   exact hu
  exact ⟨hc _ _ e0, by rw [Nat.add_assoc]; exact hc _ _ e1, by rw [Nat.add_assoc]; exact hc _ _ e2⟩
theorem Stf.cellsX {w : World} {g o n c : Nat} {l : List P3} (h : Stf w (.slice (some ⟨g, o, none⟩) n c) l) : ∀ i u, (pcells l)[i]? = some u → w.cell? ⟨g, o + i, none⟩ = some u := by
 intro i u hu
 have hi : i < (pcells l).length := (List.getElem?_eq_some_iff.1 hu).1
 rw [pcells_len] at hi
 have hj : i / 3 < l.length := by omega
 obtain ⟨g', o', e, d0, d1, d2⟩ := h.at_ (i / 3) hj
 simp only [Option.some.injEq, Addr.mk.injEq, and_true] at e
 obtain ⟨rfl, rfl⟩ := e
 obtain ⟨e0, e1, e2⟩ := pcells_at l (i / 3) hj
 have hm : i % 3 = 0 ∨ i % 3 = 1 ∨ i % 3 = 2 := by omega
 rcases hm with hm | hm | hm
 ·have ei : i = i / 3 * 3 := by omega
  rw [ei, e0] at hu; cases hu
  rw [show o + i = o + i / 3 * 3 by omega]; exact d0
 ·have ei : i = i / 3 * 3 + 1 := by omega
  rw [ei, e1] at hu; cases hu
  rw [show o + i = o + i / 3 * 3 + 1 by omega]; exact d1
 ·have ei : i = i / 3 * 3 + 2 := by omega
  rw [ei, e2] at hu; cases hu
  rw [show o + i = o + i / 3 * 3 + 2 by omega]; exact d2
theorem Tryz.infoStf : (Tryz.prog.info? 33).map (fun i => (i.zero, i.size, i.bytes)) = some (some (.agg #[.int .u32 0, .int .u32 0, .int .u32 0]), 3, 12) := by kernel_rfl
theorem app_stf (w : World) (x : Value) (l : List P3) (hx : Stf w x l) (hz : ∀ n c, x = .slice none n c → c = 0) (hl : l.length ≤ 1000000) :
  ∃ v w', (Builtin.append_ #[22, 22] 22 #[.slice none 0 0, x]).run Tryz.prog w = .ok v w' ∧ w'.ownsRow w.heap.size 33 3 v l.length (pcells l) ∧ Fr (fun _ => False) w w' := by
 obtain ⟨i0, hi, hz0, hz1, hz2⟩ := info_parts Tryz.infoStf
 have hn : w.ownsRow w.heap.size 33 3 (.slice none 0 0) 0 [] := World.ownsRow_nil _ _ _ _
 obtain ⟨xo, xc, rfl⟩ := hx.form
 cases xo with
 | none =>
  have h0 : l = [] := by
   rcases hx with ⟨_, _, _, h⟩ | ⟨g, o, c, h, _⟩
   ·exact h
   ·cases h
  subst h0
  obtain rfl := hz _ _ rfl
  have hr := run_append_owned_none (P := Tryz.prog) w w.heap.size 22 22 33 i0 3 Tryz.underlying22 hi (.slice none 0 0) 0 [] hn
  exact ⟨.slice none 0 0, w, by simpa using hr, hn, Fr.refl _ _⟩
 | some a =>
  have hcs : ∀ j u, (pcells l)[j]? = some u → w.cell? (a.add j) = some u := by
   rcases Nat.eq_zero_or_pos l.length with h0 | h0
   ·obtain rfl := List.length_eq_zero_iff.1 h0
    intro j u hu
    simp [pcells] at hu
   ·obtain ⟨g, o, e, _⟩ := hx.at_ 0 h0
    cases e
    intro j u hu
    rw [addr_add]
    exact hx.cellsX j u hu
  obtain ⟨v', w', hr, h2, h3, _, h5⟩ := run_append_own_at (P := Tryz.prog) w w.heap.size 22 22 33 i0 (.agg #[.int .u32 0, .int .u32 0, .int .u32 0]) 3 12 Tryz.underlying22 hi hz0 hz1 hz2 rfl (by decide) (.slice none 0 0) 0 [] hn a l.length xc (pcells l) (by rw [pcells_len]) hcs (pcells_one l) (by simp only [maxLen]; omega) (by omega) (Nat.le_refl _)
  exact ⟨v', w', hr, by simpa using h2, (Fr.refl _ _).grown h3 (fun g hg => by cases hg)⟩
end Go.Proofs.YtiknjghcjaaenaaGreatDoor
