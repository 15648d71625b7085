import Derived.Test.YtfoifojlgojgaabDoorCrc
import Derived.Test.YtfoifojlgojgaabDoorDka
namespace Go.Proofs.YtfoifojlgojgaabDoor
open Go.RowKit
set_option maxRecDepth 100000

theorem Src.fr0 {w w' : World} {x : Value} {l : List Nat} (h : Src w x l) (hf : Fr (fun _ => False) w w') : Src w' x l := h.fr hf (fun _ _ _ _ _ h => h)
/-- The bytes, each as it is read. -/
def nb (l : List Nat) : List Nat := l.map (· % 256)
theorem nb_lt (l : List Nat) : ∀ x ∈ nb l, x < 256 := by
  intro x hx
  simp only [nb, List.mem_map] at hx
  obtain ⟨c, _, rfl⟩ := hx
  exact Nat.mod_lt _ (by decide)
theorem nb_take (l : List Nat) (k : Nat) (h : k < l.length) : nb (l.take (k + 1)) = nb (l.take k) ++ [l[k] % 256] := by
  rw [List.take_succ_eq_append_getElem h, nb, List.map_append]; rfl
theorem Up_snoc (c : Nat) (l : List Nat) (b : Nat) : Up c (l ++ [b]) = By (Up c l) b := by
  rw [Up, List.foldl_append]; rfl
theorem nb_append (a b : List Nat) : nb (a ++ b) = nb a ++ nb b := by simp [nb]
theorem nb_length (a : List Nat) : (nb a).length = a.length := by simp [nb]
theorem nb_take_lt (l : List Nat) (k : Nat) : ∀ x ∈ nb (l.take k), x < 256 := nb_lt _

/-- The sum, all bits turned at both ends. -/
def Sm (s : Nat) (l : List Nat) : Nat := Up (s ^^^ 4294967295) (nb l) ^^^ 4294967295
theorem all_lt : (4294967295 : Nat) < 4294967296 := by decide
theorem not_lt (s : Nat) (h : s < 4294967296) : s ^^^ 4294967295 < 4294967296 := Nat.xor_lt_two_pow (n := 32) h (by decide)
theorem Sm_lt (s : Nat) (l : List Nat) (h : s < 4294967296) : Sm s l < 4294967296 := not_lt _ (Up_lt _ _ (not_lt s h) (nb_lt l))
end Go.Proofs.YtfoifojlgojgaabDoor
