import Derived.Test.YtjkkonhhnmjcaaaGreatDoorReg
namespace Go.Proofs.YtjkkonhhnmjcaaaGreatDoor
open Go.RowKit

/-- Same of two slices of bytes. -/
def norm (a : List Nat) : List Nat := a.map (· % 256)
def sameB (a b : List Nat) : Bool := decide (norm a = norm b)
theorem norm_take_succ {a b : List Nat} {k : Nat} (ha : k < a.length) (hb : k < b.length) (h : norm (a.take k) = norm (b.take k)) (e : a[k] % 256 = b[k] % 256) : norm (a.take (k + 1)) = norm (b.take (k + 1)) := by
  simp only [norm, List.take_add_one, List.getElem?_eq_getElem ha, List.getElem?_eq_getElem hb, Option.toList_some, List.map_append, List.map_cons, List.map_nil] at *
  rw [h, e]

theorem dd (w : World) (a b : Nat) : ∃ n, (w.drewN a).drewN b = w.drewN n := ⟨a + b, by simp [World.drewN, Nat.add_assoc]⟩
theorem same_no {a b : List Nat} {k : Nat} (ha : k < a.length) (hb : k < b.length) (e : ¬ a[k] % 256 = b[k] % 256) : sameB a b = false := by
  simp only [sameB, decide_eq_false_iff_not]
  intro h
  have := congrArg (fun l => l[k]?) h
  simp [norm, ha, hb] at this
  exact e this
theorem same_yes {a b : List Nat} {k : Nat} (hl : a.length = b.length) (hk : a.length ≤ k) (h : norm (a.take k) = norm (b.take k)) : sameB a b = true := by
  rw [List.take_of_length_le hk, List.take_of_length_le (by omega)] at h
  simp [sameB, h]

theorem Fr.of_drewN {S : Nat → Prop} {w w' : World} (h : ∃ n, w' = w.drewN n) : Fr S w w' := by
  obtain ⟨n, rfl⟩ := h
  exact (Fr.refl _ _).drewN n

theorem lit_src (w : World) (l : List Nat) (cs : Array Value) (n c : Nat) (hn : l.length = n) (h : cs.toList = cellsOf l) : Src (w.alloc (.cells cs 5)) (.slice (some ⟨w.heap.size, 0, none⟩) n c) l := by
  subst hn
  refine .inr (.inl ⟨w.heap.size, 0, c, rfl, fun j v hv => ?_⟩)
  rw [← h] at hv
  rw [Nat.zero_add, World.cell?_alloc_at _ _ _ _ rfl]
  simpa using hv
end Go.Proofs.YtjkkonhhnmjcaaaGreatDoor
