import Derived.Test.YtebipmknlgcnaaaCrl
namespace Go.Proofs.Ytebipmknlgcnaaa
open Go.RowKit

/-- A table that was told: 256 words in a block of its own. -/
theorem table_any (w : World) : Calls Try.prog 9 #[] w fun e w' => e = .returned (.slice (some ⟨w.heap.size, 0, none⟩) 256 256) ∧ TabAt w' w.heap.size Tb ∧ Fr (fun _ => False) w w' ∧ w'.heap.size = w.heap.size + 1 := by
  have hz1 := zero_tab
  have hT : TabAt (w.alloc (.cells (Array.replicate 256 (.int .u32 0)) 39)) w.heap.size (fun _ => 0) := fun j hj => ⟨by rw [World.cell?_alloc_at _ _ _ _ rfl, rep_at j hj]; rfl, by rw [World.frozen?_alloc_at _ _ _ _ rfl]⟩
  have hF0 : Fr (fun _ => False) w (w.alloc (.cells (Array.replicate 256 (.int .u32 0)) 39)) := (Fr.refl _ _).alloc _
  have hs0 : (w.alloc (.cells (Array.replicate 256 (.int .u32 0)) 39)).heap.size = w.heap.size + 1 := by simp
  have HT := hide (And.intro hT (And.intro hF0 hs0))
  clear hT hF0 hs0
  go_enter Try.func9, Try.ntmps9
  go_wp2_with fail
  refine (fill_any w.heap.size _ (unhide HT).1).mono ?_
  rintro e w2 ⟨rfl, h1, h2, h3⟩
  have HE := hide (And.intro h1 (And.intro h2 h3))
  clear h1 h2 h3
  go_wp2_with fail
  go_ret
  refine ⟨rfl, (unhide HE).1, ?_, (unhide HE).2.2.trans (unhide HT).2.2⟩
  exact (unhide HT).2.1.trans ((unhide HE).2.1.mono (T := fun k => w.heap.size ≤ k) (fun i _ h => by omega)) (fun i hi h => by omega)
end Go.Proofs.Ytebipmknlgcnaaa
