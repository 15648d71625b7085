import Derived.Test.YtfoifojlgojgaabDoorDkv
import Derived.Sort.OwnSorted
namespace Go.Proofs.YtfoifojlgojgaabDoor
open Go.RowKit Go.ChangeShapes Go.WideShapes Go.Maps Go.Sort Go.Shelf Go.Lib

theorem ocells_cons (o : Own3) (r : List Own3) : ocells (o :: r) = o.cells ++ ocells r := by simp [ocells]
theorem ocells_len (l : List Own3) : (ocells l).length = l.length * 3 := by
  induction l with
  | nil => rfl
  | cons o r ih => rw [ocells_cons, List.length_append, ih, List.length_cons]; simp [Own3.cells]; omega
/-- The first tells whether it is written earlier. -/
def cfO (x y : Own3) : Int := Lib.compareInt (x.wr : Int) (y.wr : Int)
theorem ltO (x y : Own3) : ltOf cfO x y = decide (x.wr < y.wr) := by
  unfold ltOf cfO Lib.compareInt
  by_cases h1 : x.wr < y.wr
  · simp [h1]
  · by_cases h2 : y.wr < x.wr <;> simp [h1, h2]
theorem swoO : SWO (ltOf cfO) where
  irrefl x := by rw [ltO]; simp
  trans x y z h1 h2 := by rw [ltO] at *; simp at *; omega
  ntrans x y z h1 h2 := by rw [ltO] at *; simp at *; omega
theorem take_putI (cur F : Array Value) (h : F.size ≤ cur.size) : (putCells id 0 F cur).toList.take F.size = F.toList := by
  apply List.ext_getElem?
  intro j
  by_cases hj : j < F.size
  · rw [List.getElem?_take_of_lt hj, Array.getElem?_toList]
    simp [putCells, hj, show j < cur.size by omega]
  · rw [List.getElem?_take_eq_none (by omega), List.getElem?_eq_none (by simp; omega)]
theorem heap_sortI {w : World} {g n : Nat} {os : Array Obj} {cur : Array Value} {e : TypeId} {fr : Nat × Nat} (F : Array Value) (hb : w.heap[g]? = some (.cells cur e fr)) :
    (grow (putRow id (Sort.ahead w n) g 0 F) os).heap[g]? = some (.cells (putCells id 0 F cur) e fr) := by
  have hg : g < w.heap.size := (Array.getElem?_eq_some_iff.1 hb).1
  rw [heap_grow_old _ _ (by simpa using hg)]
  simp [putRow, mapBlock, Sort.ahead, Array.getElem?_modify, hb, onCells]
theorem fr_sortI {w : World} {g n : Nat} {os : Array Obj} (F : Array Value) : Fr (fun k => k = g) w (grow (putRow id (Sort.ahead w n) g 0 F) os) := by
  refine ⟨rfl, rfl, rfl, by simp, fun k hk hne => ?_⟩
  rw [heap_grow_old _ _ (by simpa using hk)]
  have : g ≠ k := fun e => hne e.symm
  simp [putRow, mapBlock, Sort.ahead, Array.getElem?_modify, this]
section
variable [Inhabited Own3]
theorem ocells_get (l : List Own3) (j : Nat) (h : j < l.length * 3) : (ocells l)[j]? = some ((Own3.cells l[j / 3]!)[j % 3]!) := by
  induction l generalizing j with
  | nil => simp at h
  | cons o r ih =>
    rw [ocells_cons]
    by_cases h3 : j < 3
    · rw [List.getElem?_append_left (by simpa [Own3.cells] using h3)]
      match j, h3 with
      | 0, _ => rfl
      | 1, _ => rfl
      | 2, _ => rfl
    · obtain ⟨i, rfl⟩ : ∃ i, j = i + 3 := ⟨j - 3, by omega⟩
      rw [List.getElem?_append_right (by simp [Own3.cells])]
      have e1 : i + 3 - o.cells.length = i := by simp [Own3.cells]
      rw [e1, ih i (by simp at h; omega)]
      have e2 : (i + 3) / 3 = i / 3 + 1 := by omega
      have e3 : (i + 3) % 3 = i % 3 := by omega
      rw [e2, e3]
      simp
theorem flat_ocells (l : List Own3) : (flatK Own3.cells 3 l.toArray).toList = ocells l := by
  apply List.ext_getElem?
  intro j
  by_cases hj : j < l.length * 3
  · rw [ocells_get l j hj, Array.getElem?_toList]
    have h1 : j < (flatK Own3.cells 3 l.toArray).size := by simpa using hj
    have h2 := get_flatK Own3.cells 3 l.toArray j (by simpa using hj)
    rw [Array.getElem?_eq_getElem h1]
    rw [getElem!_pos _ j h1] at h2
    rw [h2]
    simp
  · rw [List.getElem?_eq_none (by simp; omega), List.getElem?_eq_none (by rw [ocells_len]; omega)]
end
end Go.Proofs.YtfoifojlgojgaabDoor
