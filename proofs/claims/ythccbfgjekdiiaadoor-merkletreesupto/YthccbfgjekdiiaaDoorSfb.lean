import Derived.Test.YthccbfgjekdiiaaDoorSfa
namespace Go.Proofs.YthccbfgjekdiiaaDoor
open Go.RowKit

/-- Bytes of one's own in a block from base on. -/
def Ow (wr : World) (base : Nat) (xo : Option Addr) (cp : Nat) (l : List Nat) : Prop := wr.ownsRow base 5 1 (.slice xo l.length cp) l.length (cellsOf l)
theorem OB.ow {w wr : World} {xo : Option Addr} {cp : Nat} {l : List Nat} (h : OB w wr xo cp l) : Ow wr w.heap.size xo cp l := h.own
theorem Ow.ob {w wr : World} {xo : Option Addr} {cp : Nat} {l : List Nat} (h : Ow wr w.heap.size xo cp l) (hf : Fr (fun _ => False) w wr) : OB w wr xo cp l := ⟨h, hf⟩
theorem Ow.src {wr : World} {base : Nat} {xo : Option Addr} {cp : Nat} {l : List Nat} (h : Ow wr base xo cp l) : Src wr (.slice xo l.length cp) l := own_src h
theorem Ow.fr {wr wq : World} {base : Nat} {xo : Option Addr} {cp : Nat} {l : List Nat} {S : Nat → Prop} (h : Ow wr base xo cp l) (hf : Fr S wr wq) (hS : ∀ k, base ≤ k → ¬ S k) : Ow wq base xo cp l :=
  ownsRow_of_block h (fun g hg => hf.block g (h.lt g hg).2 (hS g (h.lt g hg).1))
theorem Ow.fr0 {wr wq : World} {base : Nat} {xo : Option Addr} {cp : Nat} {l : List Nat} (h : Ow wr base xo cp l) (hf : Fr (fun _ => False) wr wq) : Ow wq base xo cp l := h.fr hf (fun _ _ h => h)
theorem cellsOf_set (l : List Nat) (j v : Nat) (hv : v < 256) : cellsOf (l.set j v) = (cellsOf l).set j (.int .u8 (v : Int)) := by
  simp [cellsOf, List.map_set, B, Nat.mod_eq_of_lt hv]
theorem Ow.set {wr : World} {base g cp : Nat} {l : List Nat} (h : Ow wr base (some ⟨g, 0, none⟩) cp l) (j v : Nat) (hv : v < 256) : Ow (wr.setCell ⟨g, j, none⟩ (.int .u8 (v : Int))) base (some ⟨g, 0, none⟩) cp (l.set j v) := by
  have := (World.ownsRow.stored h j (.int .u8 (v : Int))).1
  unfold Ow
  rw [cellsOf_set l j v hv, List.length_set]
  exact this
theorem Ow.lt {wr : World} {base g cp : Nat} {l : List Nat} (h : Ow wr base (some ⟨g, 0, none⟩) cp l) : base ≤ g ∧ g < wr.heap.size := World.ownsRow.lt h g rfl
theorem Ow.cell {wr : World} {base g cp : Nat} {l : List Nat} (h : Ow wr base (some ⟨g, 0, none⟩) cp l) (j : Nat) (hj : j < l.length) (hb : ∀ v ∈ l, v < 256) : wr.cell? ⟨g, j, none⟩ = some (.int .u8 ((l.getD j 0 : Nat) : Int)) := by
  rw [World.ownsRow.cellAt h j (by omega), cellsOf, List.getElem?_map, List.getElem?_eq_getElem hj, Option.map_some, List.getD, List.getElem?_eq_getElem hj, Option.getD_some, B, Nat.mod_eq_of_lt (hb _ (List.getElem_mem hj))]
theorem Ow.fz {wr : World} {base g cp : Nat} {l : List Nat} (h : Ow wr base (some ⟨g, 0, none⟩) cp l) (j : Nat) : wr.frozen? ⟨g, j, none⟩ = false := World.ownsRow.frozenAt h j
theorem Ow.frB {wr wq : World} {base : Nat} {xo : Option Addr} {cp : Nat} {l : List Nat} {S : Nat → Prop} (h : Ow wr base xo cp l) (hf : Fr S wr wq) (hS : ∀ g o, xo = some ⟨g, o, none⟩ → ¬ S g) : Ow wq base xo cp l :=
  ownsRow_of_block h (fun g hg => hf.block g (World.ownsRow.lt h g hg).2 (by
    rcases h.2 with ⟨e, _⟩ | ⟨g', cap, cur, e, _⟩
    · rw [e] at hg; cases hg
    · rw [e] at hg
      simp only [Value.ownBlock, Option.some.injEq] at hg
      subst hg
      simp only [Value.slice.injEq] at e
      exact hS g' 0 e.1))
theorem Ow.base {wr : World} {base base' : Nat} {xo : Option Addr} {cp : Nat} {l : List Nat} (h : Ow wr base xo cp l) (hb : base' ≤ base) : Ow wr base' xo cp l := by
  refine ⟨h.1, ?_⟩
  rcases h.2 with h0 | ⟨g, cap, cur, e1, e2, e3⟩
  · exact .inl h0
  · exact .inr ⟨g, cap, cur, e1, Nat.le_trans hb e2, e3⟩
theorem Ow.cap {wr : World} {base g cp : Nat} {l : List Nat} (h : Ow wr base (some ⟨g, 0, none⟩) cp l) : l.length ≤ cp := by
  rcases h.2 with ⟨e, _⟩ | ⟨g', cap, cur, e, _, _, h3, _⟩
  · simp at e
  · simp only [Value.slice.injEq, true_and] at e
    rw [e.2]; exact h3
theorem set_lt (m : List Nat) (j v : Nat) (hv : v < 256) (hm : ∀ v ∈ m, v < 256) : ∀ u ∈ m.set j v, u < 256 := fun u hu => by
  rcases List.mem_or_eq_of_mem_set hu with h | h
  · exact hm u h
  · omega
end Go.Proofs.YthccbfgjekdiiaaDoor
