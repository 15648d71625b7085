import Derived.Test.YtkiepcdncegniaaPoh
namespace Go.Proofs.Ytkiepcdncegniaa
open Go.RowKit

/-- Ten cells of a box. -/
theorem box10 {W : World} {b : Nat} {x0 x1 x2 x3 x4 x5 x6 x7 x8 x9 : Value} {t : TypeId} (hb : W.heap[b]? = some (.cells #[x0, x1, x2, x3, x4, x5, x6, x7, x8, x9] t)) :
    W.cell? ⟨b, 0, none⟩ = some x0 ∧ W.cell? ⟨b, 1, none⟩ = some x1 ∧ W.cell? ⟨b, 2, none⟩ = some x2 ∧ W.cell? ⟨b, 3, none⟩ = some x3 ∧ W.cell? ⟨b, 4, none⟩ = some x4 ∧ W.cell? ⟨b, 5, none⟩ = some x5 ∧ W.cell? ⟨b, 6, none⟩ = some x6 ∧ W.cell? ⟨b, 7, none⟩ = some x7 ∧ W.cell? ⟨b, 8, none⟩ = some x8 ∧ W.cell? ⟨b, 9, none⟩ = some x9 ∧ ∀ i, W.frozen? ⟨b, i, none⟩ = false := by
  refine ⟨?_, ?_, ?_, ?_, ?_, ?_, ?_, ?_, ?_, ?_, fun i => ?_⟩
  iterate 10 (simp only [World.cell?, hb]; rfl)
  simp [World.frozen?, hb]
/-- The box, once it is known who asks. -/
theorem box_set {w2 : World} {b : Nat} {x0 x1 x2 x3 x4 x5 x6 x7 x8 x9 : Value} (y1 y2 y3 : Value) (o : Obj) (hsz : b < w2.heap.size) (c0 : w2.cell? ⟨b, 0, none⟩ = some x0) (c1 : w2.cell? ⟨b, 1, none⟩ = some x1) (c2 : w2.cell? ⟨b, 2, none⟩ = some x2) (c3 : w2.cell? ⟨b, 3, none⟩ = some x3) (c4 : w2.cell? ⟨b, 4, none⟩ = some x4) (c5 : w2.cell? ⟨b, 5, none⟩ = some x5) (c6 : w2.cell? ⟨b, 6, none⟩ = some x6) (c7 : w2.cell? ⟨b, 7, none⟩ = some x7) (c8 : w2.cell? ⟨b, 8, none⟩ = some x8) (c9 : w2.cell? ⟨b, 9, none⟩ = some x9) :
    let W := (((w2.setCell ⟨b, 1, none⟩ y1).setCell ⟨b, 2, none⟩ y2).setCell ⟨b, 3, none⟩ y3).alloc o
    W.cell? ⟨b, 0, none⟩ = some x0 ∧ W.cell? ⟨b, 1, none⟩ = some y1 ∧ W.cell? ⟨b, 2, none⟩ = some y2 ∧ W.cell? ⟨b, 3, none⟩ = some y3 ∧ W.cell? ⟨b, 4, none⟩ = some x4 ∧ W.cell? ⟨b, 5, none⟩ = some x5 ∧ W.cell? ⟨b, 6, none⟩ = some x6 ∧ W.cell? ⟨b, 7, none⟩ = some x7 ∧ W.cell? ⟨b, 8, none⟩ = some x8 ∧ W.cell? ⟨b, 9, none⟩ = some x9 := by
  refine ⟨?_, ?_, ?_, ?_, ?_, ?_, ?_, ?_, ?_, ?_⟩
  all_goals go_simp
end Go.Proofs.Ytkiepcdncegniaa
