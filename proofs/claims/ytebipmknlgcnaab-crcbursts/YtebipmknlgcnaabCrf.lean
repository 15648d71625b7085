import Derived.Test.YtebipmknlgcnaabCrc
namespace Go.Proofs.Ytebipmknlgcnaab
open Go.RowKit

/-- Where a slice of bytes lies, and what it holds. -/
def Src (w : World) (x : Value) (l : List Nat) : Prop :=
  (x = .slice none 0 0 ∧ l = []) ∨ (∃ g o c, x = .slice (some ⟨g, o, none⟩) l.length c ∧ ∀ j v, (cellsOf l)[j]? = some v → w.cell? ⟨g, o + j, none⟩ = some v) ∨ ∃ a c, x = .slice (some a) 0 c ∧ l = []
theorem Src.fr {w w' : World} {x : Value} {l : List Nat} {S : Nat → Prop} (h : Src w x l) (hf : Fr S w w') (hS : ∀ g o m c, x = .slice (some ⟨g, o, none⟩) m c → ¬ S g) : Src w' x l := by
  rcases h with h | ⟨g, o, c, hx, hc⟩ | h
  · exact .inl h
  · exact .inr (.inl ⟨g, o, c, hx, fun j v hv => (hf.cell (p := ⟨g, o + j, none⟩) (lt_of_cell (hc j v hv)) (hS g o _ c hx)).trans (hc j v hv)⟩)
  · exact .inr (.inr h)
theorem Src.fr0 {w w' : World} {x : Value} {l : List Nat} (h : Src w x l) (hf : Fr (fun _ => False) w w') : Src w' x l := h.fr hf (fun _ _ _ _ _ h => h)
theorem Src.form {w : World} {x : Value} {l : List Nat} (h : Src w x l) : ∃ xo xc, x = .slice xo l.length xc := by
  rcases h with ⟨rfl, rfl⟩ | ⟨g, o, c, rfl, _⟩ | ⟨a, c, rfl, rfl⟩
  · exact ⟨none, 0, rfl⟩
  · exact ⟨_, c, rfl⟩
  · exact ⟨_, c, rfl⟩
theorem src_at {w : World} {xo : Option Addr} {n xc : Nat} {a : List Nat} (h : Src w (.slice xo n xc) a) (k : Nat) (hk : k < a.length) : ∃ g o, xo = some ⟨g, o, none⟩ ∧ w.cell? ⟨g, o + k, none⟩ = some (.int .u8 ((a[k] % 256 : Nat) : Int)) := by
  rcases h with ⟨_, e⟩ | ⟨g, o, c, hx, hc⟩ | ⟨_, _, _, e⟩
  · subst e; simp at hk
  · simp only [Value.slice.injEq] at hx
    exact ⟨g, o, hx.1, hc k _ (by simp [cellsOf, hk, B])⟩
  · subst e; simp at hk
/-- The bytes, each as it is read. -/
def nb (l : List Nat) : List Nat := l.map (· % 256)
theorem nb_lt (l : List Nat) : ∀ x ∈ nb l, x < 256 := by
  intro x hx
  simp only [nb, List.mem_map] at hx
  obtain ⟨c, _, rfl⟩ := hx
  exact Nat.mod_lt _ (by decide)
theorem nb_take (l : List Nat) (k : Nat) (h : k < l.length) : nb (l.take (k + 1)) = nb (l.take k) ++ [l[k] % 256] := by
  rw [List.take_succ_eq_append_getElem h, nb, List.map_append]; rfl
theorem Up_snoc (c : Nat) (l : List Nat) (b : Nat) : Up c (l ++ [b]) = By (Up c l) b := by
  rw [Up, List.foldl_append]; rfl
theorem nb_append (a b : List Nat) : nb (a ++ b) = nb a ++ nb b := by simp [nb]
theorem nb_length (a : List Nat) : (nb a).length = a.length := by simp [nb]
theorem nb_take_lt (l : List Nat) (k : Nat) : ∀ x ∈ nb (l.take k), x < 256 := nb_lt _

/-- The sum, all bits turned at both ends. -/
def Sm (s : Nat) (l : List Nat) : Nat := Up (s ^^^ 4294967295) (nb l) ^^^ 4294967295
theorem all_lt : (4294967295 : Nat) < 4294967296 := by decide
theorem not_lt (s : Nat) (h : s < 4294967296) : s ^^^ 4294967295 < 4294967296 := Nat.xor_lt_two_pow (n := 32) h (by decide)
theorem Sm_lt (s : Nat) (l : List Nat) (h : s < 4294967296) : Sm s l < 4294967296 := not_lt _ (Up_lt _ _ (not_lt s h) (nb_lt l))
end Go.Proofs.Ytebipmknlgcnaab
