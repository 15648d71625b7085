import Derived.Test.YtoflkfnmbighaaaDkv
import Derived.Sort.OwnSorted
namespace Go.Proofs.Ytoflkfnmbighaaa
open Go.RowKit Go.ChangeShapes Go.WideShapes Go.Maps Go.Sort Go.Shelf Go.Lib

theorem ocells_cons (o : Own3) (r : List Own3) : ocells (o :: r) = o.cells ++ ocells r := by simp [ocells]
theorem ocells_len (l : List Own3) : (ocells l).length = l.length * 3 := by
  induction l with
  | nil => rfl
  | cons o r ih => rw [ocells_cons, List.length_append, ih, List.length_cons]; simp [Own3.cells]; omega
/-- The first tells whether it is written earlier. -/
def cfO (x y : Own3) : Int := Lib.compareInt (x.wr : Int) (y.wr : Int)
theorem ltO (x y : Own3) : ltOf cfO x y = decide (x.wr < y.wr) := by
  unfold ltOf cfO Lib.compareInt
  by_cases h1 : x.wr < y.wr
  · simp [h1]
  · by_cases h2 : y.wr < x.wr <;> simp [h1, h2]
theorem swoO : SWO (ltOf cfO) where
  irrefl x := by rw [ltO]; simp
  trans x y z h1 h2 := by rw [ltO] at *; simp at *; omega
  ntrans x y z h1 h2 := by rw [ltO] at *; simp at *; omega
set_option maxHeartbeats 1000000 in
theorem closureO (x y : Own3) (W : World) : Calls Try.prog 63 #[.agg #[.int .i64 (x.wr : Nat), .int .i64 (x.sz : Nat), .pointer (some ⟨x.fb, 0, none⟩)], .agg #[.int .i64 (y.wr : Nat), .int .i64 (y.sz : Nat), .pointer (some ⟨y.fb, 0, none⟩)]] W fun e w' => e = .returned (.int .i64 (cfO x y)) ∧ ∃ q os', w' = grow (W.drewN q) os' := by
  have hcon := fun W' => AnyG.cmp_Compare_int cmpO (x.wr : Int) (y.wr : Int) W'
  change ∀ W', Calls Try.prog 64 _ _ _ at hcon
  have e : cfO x y = Lib.compareInt (x.wr : Int) (y.wr : Int) := rfl
  rw [e]
  clear e
  generalize Lib.compareInt (x.wr : Int) (y.wr : Int) = r at hcon ⊢
  go_enter Try.func63, Try.ntmps63
  go_wp2_with (go_at_call 64; refine (hcon _).mono ?_; rintro e w' ⟨rfl, rfl⟩)
  go_ret
  exact ⟨rfl, 0, _, by rw [alloc_eq_grow, alloc_eq_grow, grow_grow]; rfl⟩
theorem take_putI (cur F : Array Value) (h : F.size ≤ cur.size) : (putCells id 0 F cur).toList.take F.size = F.toList := by
  apply List.ext_getElem?
  intro j
  by_cases hj : j < F.size
  · rw [List.getElem?_take_of_lt hj, Array.getElem?_toList]
    simp [putCells, hj, show j < cur.size by omega]
  · rw [List.getElem?_take_eq_none (by omega), List.getElem?_eq_none (by simp; omega)]
theorem heap_sortI {w : World} {g n : Nat} {os : Array Obj} {cur : Array Value} {e : TypeId} {fr : Nat × Nat} (F : Array Value) (hb : w.heap[g]? = some (.cells cur e fr)) :
    (grow (putRow id (Sort.ahead w n) g 0 F) os).heap[g]? = some (.cells (putCells id 0 F cur) e fr) := by
  have hg : g < w.heap.size := (Array.getElem?_eq_some_iff.1 hb).1
  rw [heap_grow_old _ _ (by simpa using hg)]
  simp [putRow, mapBlock, Sort.ahead, Array.getElem?_modify, hb, onCells]
theorem fr_sortI {w : World} {g n : Nat} {os : Array Obj} (F : Array Value) : Fr (fun k => k = g) w (grow (putRow id (Sort.ahead w n) g 0 F) os) := by
  refine ⟨rfl, rfl, rfl, by simp, fun k hk hne => ?_⟩
  rw [heap_grow_old _ _ (by simpa using hk)]
  have : g ≠ k := fun e => hne e.symm
  simp [putRow, mapBlock, Sort.ahead, Array.getElem?_modify, this]
section
variable [Inhabited Own3]
theorem ocells_get (l : List Own3) (j : Nat) (h : j < l.length * 3) : (ocells l)[j]? = some ((Own3.cells l[j / 3]!)[j % 3]!) := by
  induction l generalizing j with
  | nil => simp at h
  | cons o r ih =>
    rw [ocells_cons]
    by_cases h3 : j < 3
    · rw [List.getElem?_append_left (by simpa [Own3.cells] using h3)]
      match j, h3 with
      | 0, _ => rfl
      | 1, _ => rfl
      | 2, _ => rfl
    · obtain ⟨i, rfl⟩ : ∃ i, j = i + 3 := ⟨j - 3, by omega⟩
      rw [List.getElem?_append_right (by simp [Own3.cells])]
      have e1 : i + 3 - o.cells.length = i := by simp [Own3.cells]
      rw [e1, ih i (by simp at h; omega)]
      have e2 : (i + 3) / 3 = i / 3 + 1 := by omega
      have e3 : (i + 3) % 3 = i % 3 := by omega
      rw [e2, e3]
      simp
theorem flat_ocells (l : List Own3) : (flatK Own3.cells 3 l.toArray).toList = ocells l := by
  apply List.ext_getElem?
  intro j
  by_cases hj : j < l.length * 3
  · rw [ocells_get l j hj, Array.getElem?_toList]
    have h1 : j < (flatK Own3.cells 3 l.toArray).size := by simpa using hj
    have h2 := get_flatK Own3.cells 3 l.toArray j (by simpa using hj)
    rw [Array.getElem?_eq_getElem h1]
    rw [getElem!_pos _ j h1] at h2
    rw [h2]
    simp
  · rw [List.getElem?_eq_none (by simp; omega), List.getElem?_eq_none (by rw [ocells_len]; omega)]
theorem sort_in : SortC := by
  intro w base L ao cap h hl
  rcases h.2 with ⟨e1, e2⟩ | ⟨g, cap', cur, e1, h1, h2, h3, h4, h5, h6⟩
  · have hL : L = [] := List.eq_nil_of_length_eq_zero e2
    subst hL
    have hS := AnyF.slices_SortFunc_none (P := Try.prog) (ρ := sortO_ren) sortO ao cap (.func (.func 63) #[] #[]) w
    change Calls Try.prog 62 _ _ _ at hS
    refine hS.mono ?_
    rintro e w' ⟨rfl, rfl⟩
    exact ⟨rfl, [], List.Perm.refl _, List.Pairwise.nil, h, Fr.refl _ _⟩
  · simp only [Value.slice.injEq, true_and] at e1
    obtain ⟨rfl, rfl⟩ := e1
    have eg : ∀ args w, (callFunc 63 args).run Try.prog w = .ok (.enter 63 args) w := enters_of Try.func63 (by kernel_rfl) rfl
    have hH : HoldsK Own3.cells 3 w g 0 L.toArray := by
      intro j hj
      have hj' : j < L.length * 3 := by simpa using hj
      refine ⟨?_, by simp [World.frozen?, h2]⟩
      rw [Nat.zero_add]
      refine (h.cellAt j hj').trans ?_
      rw [← flat_ocells, Array.getElem?_toList, Array.getElem?_eq_getElem (by simpa using hj), getElem!_pos _ j (by simpa using hj)]
      rfl
    have hS := AnyQ.slices_SortFunc sortO 3 Try.isAgg102 Try.sizeOf102 Own3.cells (fun _ => rfl) (fun x v hv => by simp [Own3.cells] at hv; rcases hv with rfl | rfl | rfl <;> rfl) cfO swoO 63 #[] g 0 cap L.toArray w eg (fun _ _ _ _ x y => closureO x y _) hH (lt_of_block h2) (by simp; omega)
    change Calls Try.prog 62 _ _ _ at hS
    refine hS.mono ?_
    rintro e w' ⟨rfl, d', n, os, hp, hs, rfl⟩
    have hsz : d'.size = L.length := by simpa using hp.1
    have hfl := flat_ocells d'.toList
    rw [Array.toArray_toList] at hfl
    have hFs : (flatK Own3.cells 3 d').size = L.length * 3 := by rw [size_flatK, hsz]
    refine ⟨rfl, d'.toList, ?_, ?_, ?_, ?_⟩
    · have := hp.2.2
      rw [show L.toArray.size = L.length from rfl] at this
      rw [← hsz, Array.extract_size] at this
      rw [hsz, show L.length = L.toArray.size from rfl, Array.extract_size] at this
      exact this
    · rw [List.pairwise_iff_getElem]
      intro i j hi hj hij
      have hi' : i < d'.size := by simpa using hi
      have hj' : j < d'.size := by simpa using hj
      have := hs i j (Nat.zero_le _) hij (by simpa [hsz] using hj')
      rw [ltO, getElem!_pos d' j hj', getElem!_pos d' i hi'] at this
      simp at this
      simpa using this
    · refine ⟨by rw [ocells_len, Array.length_toList, hsz], .inr ⟨g, cap, _, rfl, h1, heap_sortI _ h2, h3, h4, by simp [putCells, h5], ?_⟩⟩
      rw [← hfl, ← hFs]
      exact take_putI cur _ (by rw [hFs, h5]; exact Nat.mul_le_mul_right _ h3)
    · exact (fr_sortI _).mono (fun k _ e => by rw [e]; rfl)
end
/-- slices.SortFunc of the pieces. -/
theorem sort_any : SortC := @sort_in ⟨⟨0, 0, 0⟩⟩
/-- inOrder. -/
theorem inOrder_any (d m : Nat) (s : DM) (q : DW) (O : Nat → Prop) (w : World) (h : DkAt w d m s q O) (htot : (s.allp q).length ≤ 1000000) (hpl0 : ∀ k, Maps.has s.D (.string k) = true → (s.F k).ps.length ≤ 1000000) :
    Calls Try.prog 57 #[.pointer (some ⟨d, 0, none⟩)] w fun e w' => ∃ (ao : Option Addr) (cap : Nat) (L : List Own3), e = .returned (.slice ao L.length cap) ∧ L.Perm (s.allp q) ∧ L.Pairwise (fun a b => a.wr ≤ b.wr) ∧ w'.ownsRow w.heap.size 102 3 (.slice ao L.length cap) L.length (ocells L) ∧ Fr (fun _ => False) w w' :=
  gather_any d m s q O w h htot hpl0 sort_any
end Go.Proofs.Ytoflkfnmbighaaa
