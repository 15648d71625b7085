import Derived.Test.YthccbfgjekdiiaaDoorSbb
namespace Go.Proofs.YthccbfgjekdiiaaDoor
open Go.RowKit

theorem u8s_at (l : List Nat) (j : Nat) (h : j < l.length) : (u8s l)[j]? = some (.int .u8 ((l.getD j 0 : Nat) : Int)) := by
  unfold u8s
  rw [List.getElem?_toArray, List.getElem?_map, List.getElem?_eq_getElem h, Option.map_some, List.getD, List.getElem?_eq_getElem h, Option.getD_some]
theorem u32s_at (l : List Nat) (j : Nat) (h : j < l.length) : (u32s l)[j]? = some (.int .u32 ((l.getD j 0 : Nat) : Int)) := by
  unfold u32s
  rw [List.getElem?_toArray, List.getElem?_map, List.getElem?_eq_getElem h, Option.map_some, List.getD, List.getElem?_eq_getElem h, Option.getD_some]
theorem rep64 (j : Nat) (h : j < 64) : (Array.replicate 64 (Value.int .u32 0))[j]? = some (.int .u32 0) := by rw [Array.getElem?_replicate, if_pos h]
theorem start_S (l : List Nat) (w : World) (t0 t1 t2 : TypeId) (hl : l.length = 64) :
    InvS w (((w.alloc (.cells (u8s l) t0)).alloc (.cells (Array.replicate 64 (.int .u32 0)) t1)).alloc (.cells (Array.replicate 64 (.int .u32 0)) t2)) w.heap.size (w.heap.size + 1 + 1) l (fun _ => 0) := by
  have hs1 : (w.alloc (.cells (u8s l) t0)).heap.size = w.heap.size + 1 := by simp
  have hs : ((w.alloc (.cells (u8s l) t0)).alloc (.cells (Array.replicate 64 (.int .u32 0)) t1)).heap.size = w.heap.size + 1 + 1 := by simp
  have hf : Fr (fun _ => False) (w.alloc (.cells (u8s l) t0)) (((w.alloc (.cells (u8s l) t0)).alloc (.cells (Array.replicate 64 (.int .u32 0)) t1)).alloc (.cells (Array.replicate 64 (.int .u32 0)) t2)) := ((Fr.refl _ _).alloc _).alloc _
  have hf2 : Fr (fun _ => False) ((w.alloc (.cells (u8s l) t0)).alloc (.cells (Array.replicate 64 (.int .u32 0)) t1)) (((w.alloc (.cells (u8s l) t0)).alloc (.cells (Array.replicate 64 (.int .u32 0)) t1)).alloc (.cells (Array.replicate 64 (.int .u32 0)) t2)) := (Fr.refl _ _).alloc _
  refine ⟨fun j hj => ?_, fun j hj => ?_, fun j => ?_, (((Fr.refl _ _).alloc _).alloc _).alloc _, fun j hj => ⟨?_, ?_⟩⟩
  · rw [hf.cell (p := ⟨w.heap.size, j, none⟩) (by simp) (fun h => h), World.cell?_alloc_at _ _ _ _ rfl]
    exact u8s_at l j (by omega)
  · rw [← hs, World.cell?_alloc_at _ _ _ _ rfl]
    exact rep64 j hj
  · rw [← hs, World.frozen?_alloc_at _ _ _ _ rfl]
  · rw [hf2.cell (p := ⟨w.heap.size + 1, j, none⟩) (by simp) (fun h => h), ← hs1, World.cell?_alloc_at _ _ _ _ rfl]
    exact rep64 j hj
  · rw [hf2.frozen (p := ⟨w.heap.size + 1, j, none⟩) (by simp) (fun h => h), ← hs1, World.frozen?_alloc_at _ _ _ _ rfl]
end Go.Proofs.YthccbfgjekdiiaaDoor
