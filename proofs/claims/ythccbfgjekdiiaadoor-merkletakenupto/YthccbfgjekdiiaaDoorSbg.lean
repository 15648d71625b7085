import Derived.Test.YthccbfgjekdiiaaDoorSbf
namespace Go.Proofs.YthccbfgjekdiiaaDoor
open Go.RowKit

theorem zero_w32 (w : World) : (zeroValue 134).run Tryd.prog w = .ok (.agg (Array.replicate 64 (.int .u32 0))) w := by kernel_rfl
theorem info_w32 : (Tryd.prog.info? 134).map (·.size) = some 64 := by kernel_rfl
/-- The way out: what is loaded, what is stored, what lies there then. -/
theorem sched_end (l : List Nat) (w wq : World) (hI : InvS w wq w.heap.size (w.heap.size + 1 + 1) l (fun j => (wl l 48).getD j 0)) :
    ∃ cs : List Value, u32s (wl l 48) = cs.toArray ∧ cs.length = 64 ∧
      wq.rangeAt (w.heap.size + 1 + 1) 0 cs ∧ wq.there (w.heap.size + 1) 0 cs.toArray.size ∧ cs.toArray.all (·.oneCell') = true ∧
      (wq.setCells (w.heap.size + 1) 0 cs).rangeAt (w.heap.size + 1) 0 cs ∧ Fr (fun _ => False) w (wq.setCells (w.heap.size + 1) 0 cs) := by
  obtain ⟨cs, hcs⟩ : ∃ cs, V32 (wl l 48) = cs := ⟨_, rfl⟩
  have hlen : cs.length = 64 := by rw [← hcs, V32_len, wl_len]
  have hone : ∀ v ∈ cs, v.oneCell' = true := by rw [← hcs]; exact V32_one _
  have hrg : wq.rangeAt (w.heap.size + 1 + 1) 0 cs := fun j v hv => by
    rw [← hcs] at hv
    obtain ⟨hj, rfl⟩ := V32_at _ j v hv
    rw [wl_len] at hj
    rw [Nat.zero_add]
    exact hI.to j hj
  have hth : wq.there (w.heap.size + 1) 0 cs.length := fun j hj => by
    have hj' : j < 64 := by omega
    rw [Nat.zero_add]
    exact ⟨by rw [(hI.res j hj').1]; rfl, (hI.res j hj').2⟩
  have e : u32s (wl l 48) = cs.toArray := by rw [u32s_V, hcs]
  clear hcs
  refine ⟨cs, e, hlen, hrg, by rw [List.size_toArray]; exact hth, all_oneCell_toArray hone, World.rangeAt_setCells_same wq (w.heap.size + 1) 0 cs hth, ?_⟩
  exact Fr.setCells (hI.fr.mono (T := fun k => w.heap.size ≤ k) (fun i _ h => by omega)).weak (.inr (by omega)) _
end Go.Proofs.YthccbfgjekdiiaaDoor
