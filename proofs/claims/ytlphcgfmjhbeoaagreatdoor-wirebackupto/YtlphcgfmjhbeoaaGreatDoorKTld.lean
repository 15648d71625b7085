import Derived.Test.YtlphcgfmjhbeoaaGreatDoorKIsx
namespace Go.Proofs.YtlphcgfmjhbeoaaGreatDoor
open Go.RowKit
structure G7 (w : World) (E : Nat → Addr) : Prop where
 gl : Gl w E
 e4 : Rg w (E 4)
 e5 : w.cell? ⟨5, 0, none⟩ = some (.iface 339 (.pointer (some (E 5))))
 e6 : w.cell? ⟨6, 0, none⟩ = some (.iface 339 (.pointer (some (E 6))))
 e7 : w.cell? ⟨7, 0, none⟩ = some (.iface 339 (.pointer (some (E 7))))
 et : Et w
theorem G7.fr {w w' : World} {E : Nat → Addr} {S : Nat → Prop} (h : G7 w E) (hf : Fr S w w') (hS : ∀ k, S k → 9 ≤ k) : G7 w' E := by
 have key : ∀ (n : Nat) (v : Value), n < 9 → w.cell? ⟨n, 0, none⟩ = some v → w'.cell? ⟨n, 0, none⟩ = some v := fun n v hn hv =>
  (hf.cell (ltC hv) (fun hs => by have := hS _ hs; simp only at this; omega)).trans hv
 exact ⟨h.gl.fr hf hS, h.e4.fr hf hS, key _ _ (by decide) h.e5, key _ _ (by decide) h.e6, key _ _ (by decide) h.e7, h.et.fr hf hS⟩
end Go.Proofs.YtlphcgfmjhbeoaaGreatDoor
