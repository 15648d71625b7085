import Derived.Test.YtedmhpplhbaglaaNtl
import Derived.Test.YtedmhpplhbaglaaNry
namespace Go.Proofs.Ytedmhpplhbaglaa
open Go.RowKit Go.ChangeShapes Go.WideShapes Go.Maps

/-- How many packets with that byte were delivered, and how many ever were. -/
def gv (ps : List PK) (y : Nat) : Nat := ps.countP fun p => p.gone == 1 && p.b == [y]
def tv (ps : List PK) (y : Nat) : Nat := ps.countP fun p => p.b == [y]
theorem gv_le (ps : List PK) (y : Nat) : gv ps y ≤ tv ps y := List.countP_mono_left (fun p _ h => by simp at h ⊢; exact h.2)
theorem gv_put (ps : List PK) (p : PK) (h : p.gone = 0) (y : Nat) : gv (ps ++ [p]) y = gv ps y := by simp [gv, List.countP_append, h]
theorem tv_put (ps : List PK) (p : PK) (z : Nat) (h : p.b = [z]) (y : Nat) : tv (ps ++ [p]) y = if y = z then tv ps y + 1 else tv ps y := by
  simp only [tv, List.countP_append, List.countP_cons, List.countP_nil, h]
  by_cases e : y = z
  · subst e; simp
  · have : ¬ z = y := fun h => e h.symm
    simp [e, this]
theorem gv_set (ps : List PK) (k : Nat) (p : PK) (z : Nat) (hk : ps[k]? = some p) (h0 : p.gone = 0) (hb : p.b = [z]) (y : Nat) : gv (ps.set k { p with gone := 1 }) y = if y = z then gv ps y + 1 else gv ps y := by
  have h := cnt_set (fun p => p.gone == 1 && p.b == [y]) ps k p { p with gone := 1 } hk
  have e1 : (p.gone == 1 && p.b == [y]) = false := by rw [h0]; rfl
  have e2 : ((({ p with gone := 1 } : PK).gone == 1) && ({ p with gone := 1 } : PK).b == [y]) = decide (y = z) := by
    show (true && p.b == [y]) = _
    rw [hb]
    by_cases e : y = z
    · subst e; simp
    · have e' : ¬ z = y := fun h => e h.symm
      simp [e, e']
  rw [e1, e2] at h
  unfold gv
  by_cases e : y = z
  · rw [if_pos e]
    rw [decide_eq_true e] at h
    simpa using h
  · rw [if_neg e]
    rw [decide_eq_false e] at h
    simpa using h
theorem gv_set2 (ps : List PK) (k : Nat) (p : PK) (hk : ps[k]? = some p) (h0 : p.gone = 0) (y : Nat) : gv (ps.set k { p with gone := 2 }) y = gv ps y := by
  have := cnt_set (fun p => p.gone == 1 && p.b == [y]) ps k p { p with gone := 2 } hk
  simp [h0] at this
  exact this
theorem tv_set (ps : List PK) (k : Nat) (p : PK) (g : Nat) (hk : ps[k]? = some p) (y : Nat) : tv (ps.set k { p with gone := g }) y = tv ps y := by
  have h := cnt_set (fun p => p.b == [y]) ps k p { p with gone := g } hk
  have e2 : (({ p with gone := g } : PK).b == [y]) = (p.b == [y]) := rfl
  rw [e2] at h
  unfold tv
  omega
theorem upK_cnt (ps : List PK) (i : Nat) (hi : i ≤ ps.length) : (upK ps i).length = (ps.take i).countP (fun p => p.gone == 0) := by
  induction i with
  | zero => rfl
  | succ i ih =>
    have hx := List.getElem?_eq_getElem (show i < ps.length by omega)
    rw [upK_succ, List.length_append, ih (by omega), List.take_add_one, hx, List.countP_append, und_nat, hx]
    by_cases e : ps[i].gone = 0 <;> simp [e]
/-- Sent and copied together are delivered, lost and under way together. -/
theorem all_cnt (ps : List PK) (h : ∀ p ∈ ps, p.gone ≤ 2) : cS ps + cC ps = cD ps + cL ps + (up ps).length := by
  rw [cSC]
  unfold up
  rw [upK_cnt ps _ (Nat.le_refl _), List.take_length]
  induction ps with
  | nil => rfl
  | cons p ps ih =>
    have h1 := ih (fun q hq => h q (List.mem_cons_of_mem _ hq))
    have h2 := h p (List.mem_cons_self ..)
    simp only [cD, cL, List.countP_cons, List.length_cons] at *
    have h3 : p.gone = 0 ∨ p.gone = 1 ∨ p.gone = 2 := by omega
    rcases h3 with e | e | e <;> simp [e] <;> omega
/-- An array of 256 numbers. -/
def arr (G : Nat → Nat) : List Value := (List.range 256).map fun y => .int .i64 (G y : Nat)
theorem arr_len (G : Nat → Nat) : (arr G).length = 256 := by simp [arr]
theorem arr_at (G : Nat → Nat) (y : Nat) (hy : y < 256) : (arr G).toArray[y]? = some (.int .i64 (G y : Nat)) := by
  simp [arr, hy]
theorem arr_set (G : Nat → Nat) (y n : Nat) (hy : y < 256) : (arr G).toArray.setIfInBounds y (.int .i64 (n : Nat)) = (arr fun z => if z = y then n else G z).toArray := by
  rw [List.setIfInBounds_toArray]
  congr 1
  refine List.ext_getElem? fun i => ?_
  rw [List.getElem?_set]
  simp only [arr_len]
  by_cases e : y = i
  · subst e
    rw [if_pos rfl, if_pos hy]
    simp [arr, hy]
  · rw [if_neg e]
    by_cases hi : i < 256
    · have e' : ¬ i = y := fun h => e h.symm
      simp [arr, hi, e']
    · rw [List.getElem?_eq_none (by rw [arr_len]; omega), List.getElem?_eq_none (by rw [arr_len]; omega)]
theorem arr_ext {G G' : Nat → Nat} (h : ∀ y, G y = G' y) : arr G = arr G' := by simp [arr, h]
theorem arr_no8 (G : Nat → Nat) : ∀ (j : Nat) z, (arr G).toArray[j]? ≠ some (.int .u8 z) := by
  intro j z
  by_cases h : j < 256
  · rw [arr_at G j h]; simp
  · rw [Array.getElem?_eq_none (by simp [arr_len]; omega)]; simp
theorem Try.zero256 (w : World) : (zeroValue 53).run Try.prog w = .ok (.agg (arr fun _ => 0).toArray) w := by kernel_rfl
/-- What was sent or copied: from where, to where, its byte, where that lies. -/
structure OV where
  a : Int
  b : Int
  y : Nat
  g : Nat
def oc4 (x : OV) : List Value := [.int .i64 1, .int .i64 x.a, .int .i64 x.b, .slice (some ⟨x.g, 0, none⟩) 1 1]
def ocells (L : List OV) : List Value := L.flatMap oc4
theorem ocells_app (A B : List OV) : ocells (A ++ B) = ocells A ++ ocells B := by simp [ocells]
theorem ocells_at {A : List OV} {i : Nat} {x : OV} (h : A[i]? = some x) : (ocells A)[i * 4]? = some (.int .i64 1) ∧ (ocells A)[i * 4 + 1]? = some (.int .i64 x.a) ∧ (ocells A)[i * 4 + 2]? = some (.int .i64 x.b) ∧ (ocells A)[i * 4 + 3]? = some (.slice (some ⟨x.g, 0, none⟩) 1 1) := by
  induction A generalizing i with
  | nil => simp at h
  | cons y A ih =>
    have e : ocells (y :: A) = oc4 y ++ ocells A := by simp [ocells]
    rcases i with _ | i
    · simp at h
      subst h
      simp [e, oc4]
    · obtain ⟨i0, i1, i2, i3⟩ := ih (i := i) (by simpa using h)
      rw [e, show (i + 1) * 4 = i * 4 + 4 by omega]
      have hl : (oc4 y).length = 4 := rfl
      refine ⟨?_, ?_, ?_, ?_⟩
      · rw [List.getElem?_append_right (by omega), hl, show i * 4 + 4 - 4 = i * 4 by omega]; exact i0
      · rw [List.getElem?_append_right (by omega), hl, show i * 4 + 4 + 1 - 4 = i * 4 + 1 by omega]; exact i1
      · rw [List.getElem?_append_right (by omega), hl, show i * 4 + 4 + 2 - 4 = i * 4 + 2 by omega]; exact i2
      · rw [List.getElem?_append_right (by omega), hl, show i * 4 + 4 + 3 - 4 = i * 4 + 3 by omega]; exact i3
theorem Try.infoOp : (Try.prog.info? 49).map (fun i => (i.zero, i.size, i.bytes)) = some (some (.agg #[.int .i64 0, .int .i64 0, .int .i64 0, .slice none 0 0]), 4, 48) := by kernel_rfl
theorem Try.infoInt : (Try.prog.info? 3).map (fun i => (i.zero, i.size, i.bytes)) = some (some (.int .i64 0), 1, 8) := by kernel_rfl
/-- put = append(put, op). -/
theorem app_op (w : World) (base : Nat) (v : Value) (L : List OV) (x : OV) (h : w.ownsRow base 49 4 v L.length (ocells L)) (hl : L.length ≤ 1048576) (hb0 : base ≤ w.heap.size) :
    ∃ ao cap w', (Builtin.append_ #[42, 42] 42 #[v, .slice (some ⟨w.heap.size, 0, none⟩) 1 1]).run Try.prog (w.alloc (.cells #[.int .i64 1, .int .i64 x.a, .int .i64 x.b, .slice (some ⟨x.g, 0, none⟩) 1 1] 49)) = .ok (.slice ao (L.length + 1) cap) w' ∧ w'.ownsRow base 49 4 (.slice ao (L.length + 1) cap) (L ++ [x]).length (ocells (L ++ [x])) ∧ Fr (fun g => v.ownBlock = some g) w w' ∧ (∀ g, (Value.slice ao (L.length + 1) cap).ownBlock = some g → v.ownBlock = some g ∨ w.heap.size ≤ g) := by
  obtain ⟨i0, hi, hz0, hz1, hz2⟩ := info_parts Try.infoOp
  have hf1 := box1 w (.cells #[.int .i64 1, .int .i64 x.a, .int .i64 x.b, .slice (some ⟨x.g, 0, none⟩) 1 1] 49)
  have hb := ownsRow_of_block (w' := w.alloc (.cells #[.int .i64 1, .int .i64 x.a, .int .i64 x.b, .slice (some ⟨x.g, 0, none⟩) 1 1] 49)) h (fun g hg => Below.heap_alloc _ _ _ (h.lt g hg).2)
  obtain ⟨v', w', hr, h2, h3, _, h5⟩ := run_append_own_at (P := Try.prog) (w := w.alloc (.cells #[.int .i64 1, .int .i64 x.a, .int .i64 x.b, .slice (some ⟨x.g, 0, none⟩) 1 1] 49)) base 42 42 49 i0 (.agg #[.int .i64 0, .int .i64 0, .int .i64 0, .slice none 0 0]) 4 48 Try.underlying42 hi hz0 hz1 hz2 rfl (by decide) v L.length (ocells L) hb ⟨w.heap.size, 0, none⟩ 1 1 [.int .i64 1, .int .i64 x.a, .int .i64 x.b, .slice (some ⟨x.g, 0, none⟩) 1 1] rfl (fun j u hu => by
    rw [addr_add, World.cell?_alloc_at _ _ _ _ rfl]; simpa using hu) (fun u hu => by simp at hu; rcases hu with rfl | rfl | rfl | rfl <;> rfl) (by simp only [maxLen]; omega) (by omega) (by simp; omega)
  obtain ⟨ao, cap, rfl⟩ := own_formX h2
  refine ⟨ao, cap, w', hr, by rw [ocells_app, List.length_append]; simpa [ocells, oc4] using h2, (hf1.mono (fun _ _ h => h.elim)).grown h3 (fun g hg => .inl hg), fun g hg => ?_⟩
  rcases h5 with e | e
  · rw [e] at hg; exact .inl hg
  · rw [e] at hg; cases hg; exact .inr (by simp)
def ncells (n : Nat) : List Value := (List.range n).map fun (j : Nat) => .int .i64 ((j : Int) + 1)
/-- numbers = append(numbers, at). -/
theorem app_num (w : World) (base n : Nat) (v : Value) (h : w.ownsRow base 3 1 v n (ncells n)) (hl : n ≤ 1048576) (hb0 : base ≤ w.heap.size) :
    ∃ ao cap w', (Builtin.append_ #[52, 52] 52 #[v, .slice (some ⟨w.heap.size, 0, none⟩) 1 1]).run Try.prog (w.alloc (.cells #[.int .i64 ((n : Int) + 1)] 3)) = .ok (.slice ao (n + 1) cap) w' ∧ w'.ownsRow base 3 1 (.slice ao (n + 1) cap) (n + 1) (ncells (n + 1)) ∧ Fr (fun g => v.ownBlock = some g) w w' ∧ (∀ g, (Value.slice ao (n + 1) cap).ownBlock = some g → v.ownBlock = some g ∨ w.heap.size ≤ g) := by
  obtain ⟨i0, hi, hz0, hz1, hz2⟩ := info_parts Try.infoInt
  have hf1 := box1 w (.cells #[.int .i64 ((n : Int) + 1)] 3)
  have hb := ownsRow_of_block (w' := w.alloc (.cells #[.int .i64 ((n : Int) + 1)] 3)) h (fun g hg => Below.heap_alloc _ _ _ (h.lt g hg).2)
  obtain ⟨v', w', hr, h2, h3, _, h5⟩ := run_append_own_at (P := Try.prog) (w := w.alloc (.cells #[.int .i64 ((n : Int) + 1)] 3)) base 52 52 3 i0 (.int .i64 0) 1 8 Try.underlying52 hi hz0 hz1 hz2 rfl (by decide) v n (ncells n) hb ⟨w.heap.size, 0, none⟩ 1 1 [.int .i64 ((n : Int) + 1)] rfl (fun j u hu => by
    rw [addr_add, World.cell?_alloc_at _ _ _ _ rfl]; simpa using hu) (fun u hu => by simp at hu; subst hu; rfl) (by simp only [maxLen]; omega) (by omega) (by simp; omega)
  obtain ⟨ao, cap, rfl⟩ := own_formX h2
  refine ⟨ao, cap, w', hr, by rw [ncells, List.range_succ, List.map_append]; exact h2, (hf1.mono (fun _ _ h => h.elim)).grown h3 (fun g hg => .inl hg), fun g hg => ?_⟩
  rcases h5 with e | e
  · rw [e] at hg; exact .inl hg
  · rw [e] at hg; cases hg; exact .inr (by simp)
end Go.Proofs.Ytedmhpplhbaglaa
