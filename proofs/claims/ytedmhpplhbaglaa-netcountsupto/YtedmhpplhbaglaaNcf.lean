import Derived.Test.YtedmhpplhbaglaaNcd
namespace Go.Proofs.Ytedmhpplhbaglaa
open Go.RowKit Go.ChangeShapes Go.WideShapes Go.Maps

theorem blk_src {w W : World} {d m : Nat} {ps : List PK} {sv : Nat → Option Addr × Nat} {T : Nat → Prop} {L : List OV} {pv : Value} {N : Nat} {nv : Value} {G1 : Nat → Nat} {g1 : Nat} {G2 : Nat → Nat} {g2 : Nat} (h : CM w W d m ps sv T L pv N nv G1 g1 G2 g2) {q : Nat} {x : OV} (hx : L[q]? = some x) : Src W (.slice (some ⟨x.g, 0, none⟩) 1 1) [x.y] := by
  obtain ⟨hy, hg⟩ := h.ly x (List.mem_of_getElem? hx)
  refine .inr (.inl ⟨x.g, 0, 1, rfl, fun j v hj => ?_⟩)
  rcases j with _ | j
  · have hv : some (Value.int .u8 (x.y : Nat)) = some v := by simpa [cellsOf, B, Nat.mod_eq_of_lt hy] using hj
    exact (cell_of_blk hg rfl).trans hv
  · simp [cellsOf] at hj
end Go.Proofs.Ytedmhpplhbaglaa
