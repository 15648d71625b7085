import Derived.Test.YtkiepcdncegniaaZag
import Derived.Test.YtkiepcdncegniaaZaf
import Derived.Sort.OwnSorted
namespace Go.Proofs.Ytkiepcdncegniaa
open Go.RowKit Go.ChangeShapes Go.WideShapes Go.Maps Go.Sort Go.Shelf Go.Lib

def icell (p : Nat × Nat) : List Value := [.int .u32 (p.1 : Nat), .int .u32 (p.2 : Nat)]
theorem icells_cons (o : Nat × Nat) (r : List (Nat × Nat)) : icells (o :: r) = icell o ++ icells r := by simp [icells, icell]
theorem icells_len (l : List (Nat × Nat)) : (icells l).length = l.length * 2 := by
  induction l with
  | nil => rfl
  | cons o r ih => rw [icells_cons, List.length_append, ih, List.length_cons]; simp [icell]; omega
def cfI (x y : Nat × Nat) : Int := cmpN x.2 y.2
theorem ltI (x y : Nat × Nat) : ltOf cfI x y = decide (x.2 < y.2) := by
  unfold ltOf cfI cmpN
  by_cases h1 : x.2 < y.2
  · simp [h1]
  · by_cases h2 : y.2 < x.2 <;> simp [h1, h2]
theorem swoI : SWO (ltOf cfI) where
  irrefl x := by rw [ltI]; simp
  trans x y z h1 h2 := by rw [ltI] at *; simp at *; omega
  ntrans x y z h1 h2 := by rw [ltI] at *; simp at *; omega
theorem closureI (x y : Nat × Nat) (W : World) : Calls Try.prog 31 #[.agg #[.int .u32 (x.1 : Nat), .int .u32 (x.2 : Nat)], .agg #[.int .u32 (y.1 : Nat), .int .u32 (y.2 : Nat)]] W fun e w' => e = .returned (.int .i64 (cfI x y)) ∧ ∃ q os', w' = grow (W.drewN q) os' := by
  refine (byCall_any x y W).mono ?_
  rintro e w' ⟨rfl, rfl⟩
  exact ⟨rfl, 0, _, by rw [alloc_eq_grow, alloc_eq_grow, grow_grow]; rfl⟩
theorem take_putI (cur F : Array Value) (h : F.size ≤ cur.size) : (putCells id 0 F cur).toList.take F.size = F.toList := by
  apply List.ext_getElem?
  intro j
  by_cases hj : j < F.size
  · rw [List.getElem?_take_of_lt hj, Array.getElem?_toList]
    simp [putCells, hj, show j < cur.size by omega]
  · rw [List.getElem?_take_eq_none (by omega), List.getElem?_eq_none (by simp; omega)]
theorem heap_sortI {w : World} {g n : Nat} {os : Array Obj} {cur : Array Value} {e : TypeId} {fr : Nat × Nat} (F : Array Value) (hb : w.heap[g]? = some (.cells cur e fr)) :
    (grow (putRow id (Sort.ahead w n) g 0 F) os).heap[g]? = some (.cells (putCells id 0 F cur) e fr) := by
  have hg : g < w.heap.size := (Array.getElem?_eq_some_iff.1 hb).1
  rw [heap_grow_old _ _ (by simpa using hg)]
  simp [putRow, mapBlock, Sort.ahead, Array.getElem?_modify, hb, onCells]
theorem fr_sortI {w : World} {g n : Nat} {os : Array Obj} (F : Array Value) : Fr (fun k => k = g) w (grow (putRow id (Sort.ahead w n) g 0 F) os) := by
  refine ⟨rfl, rfl, rfl, by simp, fun k hk hne => ?_⟩
  rw [heap_grow_old _ _ (by simpa using hk)]
  have : g ≠ k := fun e => hne e.symm
  simp [putRow, mapBlock, Sort.ahead, Array.getElem?_modify, this]
theorem icells_get (l : List (Nat × Nat)) (j : Nat) (h : j < l.length * 2) : (icells l)[j]? = some ((icell l[j / 2]!)[j % 2]!) := by
  induction l generalizing j with
  | nil => simp at h
  | cons o r ih =>
    rw [icells_cons]
    by_cases h3 : j < 2
    · rw [List.getElem?_append_left (by simpa [icell] using h3)]
      match j, h3 with
      | 0, _ => rfl
      | 1, _ => rfl
    · obtain ⟨i, rfl⟩ : ∃ i, j = i + 2 := ⟨j - 2, by omega⟩
      rw [List.getElem?_append_right (by simp [icell])]
      have e1 : i + 2 - (icell o).length = i := by simp [icell]
      rw [e1, ih i (by simp at h; omega)]
      have e2 : (i + 2) / 2 = i / 2 + 1 := by omega
      have e3 : (i + 2) % 2 = i % 2 := by omega
      rw [e2, e3]
      simp
theorem flat_icells (l : List (Nat × Nat)) : (flatK icell 2 l.toArray).toList = icells l := by
  apply List.ext_getElem?
  intro j
  by_cases hj : j < l.length * 2
  · rw [icells_get l j hj, Array.getElem?_toList]
    have h1 : j < (flatK icell 2 l.toArray).size := by simpa using hj
    have h2 := get_flatK icell 2 l.toArray j (by simpa using hj)
    rw [Array.getElem?_eq_getElem h1]
    rw [getElem!_pos _ j h1] at h2
    rw [h2]
    simp
  · rw [List.getElem?_eq_none (by simp; omega), List.getElem?_eq_none (by rw [icells_len]; omega)]
/-- slices.SortFunc of ids by their numbers. -/
theorem sortI_any (w : World) (base : Nat) (L : List (Nat × Nat)) (ao : Option Addr) (cap : Nat) (h : OwI w base (.slice ao L.length cap) L) (hl : L.length ≤ 1048576) :
    Calls Try.prog 45 #[.slice ao L.length cap, .func (.func 31) #[] #[]] w fun e w' => e = .returned (.tuple #[]) ∧ ∃ L' : List (Nat × Nat), L'.Perm L ∧ L'.Pairwise (fun a b => a.2 ≤ b.2) ∧ OwI w' base (.slice ao L.length cap) L' ∧ Fr (fun g => (Value.slice ao L.length cap).ownBlock = some g) w w' := by
  rcases h.2 with ⟨e1, e2⟩ | ⟨g, cap', cur, e1, h1, h2, h3, h4, h5, h6⟩
  · have hL : L = [] := List.eq_nil_of_length_eq_zero e2
    subst hL
    have hS := AnyF.slices_SortFunc_none (P := Try.prog) (ρ := sortI_ren) sortI ao cap (.func (.func 31) #[] #[]) w
    change Calls Try.prog 45 _ _ _ at hS
    refine hS.mono ?_
    rintro e w' ⟨rfl, rfl⟩
    exact ⟨rfl, [], List.Perm.refl _, List.Pairwise.nil, h, Fr.refl _ _⟩
  · simp only [Value.slice.injEq, true_and] at e1
    obtain ⟨rfl, rfl⟩ := e1
    have eg : ∀ args w, (callFunc 31 args).run Try.prog w = .ok (.enter 31 args) w := enters_of Try.func31 (by kernel_rfl) rfl
    have hH : HoldsK icell 2 w g 0 L.toArray := by
      intro j hj
      have hj' : j < L.length * 2 := by simpa using hj
      refine ⟨?_, by simp [World.frozen?, h2]⟩
      rw [Nat.zero_add]
      refine (h.cellAt j hj').trans ?_
      rw [← flat_icells, Array.getElem?_toList, Array.getElem?_eq_getElem (by simpa using hj), getElem!_pos _ j (by simpa using hj)]
      rfl
    have hS := AnyQ.slices_SortFunc sortI 2 Try.isAgg29 Try.sizeOf29 icell (fun _ => rfl) (fun x v hv => by simp [icell] at hv; rcases hv with rfl | rfl <;> rfl) cfI swoI 31 #[] g 0 cap L.toArray w eg (fun _ _ _ _ x y => closureI x y _) hH (lt_of_block h2) (by simp; omega)
    change Calls Try.prog 45 _ _ _ at hS
    refine hS.mono ?_
    rintro e w' ⟨rfl, d', n, os, hp, hs, rfl⟩
    have hsz : d'.size = L.length := by simpa using hp.1
    have hfl := flat_icells d'.toList
    rw [Array.toArray_toList] at hfl
    have hFs : (flatK icell 2 d').size = L.length * 2 := by rw [size_flatK, hsz]
    refine ⟨rfl, d'.toList, ?_, ?_, ?_, ?_⟩
    · have := hp.2.2
      rw [show L.toArray.size = L.length from rfl] at this
      rw [← hsz, Array.extract_size] at this
      rw [hsz, show L.length = L.toArray.size from rfl, Array.extract_size] at this
      exact this
    · rw [List.pairwise_iff_getElem]
      intro i j hi hj hij
      have hi' : i < d'.size := by simpa using hi
      have hj' : j < d'.size := by simpa using hj
      have := hs i j (Nat.zero_le _) hij (by simpa [hsz] using hj')
      rw [ltI, getElem!_pos d' j hj', getElem!_pos d' i hi'] at this
      simp at this
      simpa using this
    · have hl' : d'.toList.length = L.length := by simpa using hsz
      unfold OwI
      rw [hl']
      refine ⟨by rw [icells_len, Array.length_toList, hsz], .inr ⟨g, cap, _, rfl, h1, heap_sortI _ h2, h3, h4, by simp [putCells, h5], ?_⟩⟩
      rw [← hfl, ← hFs]
      exact take_putI cur _ (by rw [hFs, h5]; exact Nat.mul_le_mul_right _ h3)
    · exact (fr_sortI _).mono (fun k _ e => by rw [e]; rfl)
end Go.Proofs.Ytkiepcdncegniaa
