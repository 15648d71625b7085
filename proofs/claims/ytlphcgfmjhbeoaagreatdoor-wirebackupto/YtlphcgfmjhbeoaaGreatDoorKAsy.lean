import Derived.Test.YtlphcgfmjhbeoaaGreatDoorKAsx
namespace Go.Proofs.YtlphcgfmjhbeoaaGreatDoor
open Go.RowKit Go.Extern.Stop Go.Stop Go.Extern
def Et (w : World) : Prop := w.cell? ⟨2, 0, none⟩ = some (.iface 163 (.agg #[.pointer (some ⟨9, 49, none⟩)]))
theorem Et.fr {w w' : World} {S : Nat → Prop} (h : Et w) (hf : Fr S w w') (hS : ∀ k, S k → 9 ≤ k) : Et w' :=
 (hf.cell (ltC h) (fun hs => by have := hS _ hs; simp at this)).trans h
theorem Et.fr0 {w w' : World} (h : Et w) (hf : Fr (fun _ => False) w w') : Et w' := h.fr hf (fun _ h => h.elim)
theorem rl_mComp (fuel : Nat) (h : Value) (w : World) : (Go.method (fuel + 1) 163 (.agg #[h]) "Comparable").run Tryz.prog w = .ok (258, .agg #[h]) w := by kernel_rfl
end Go.Proofs.YtlphcgfmjhbeoaaGreatDoor
