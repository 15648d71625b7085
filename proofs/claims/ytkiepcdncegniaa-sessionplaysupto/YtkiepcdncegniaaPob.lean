import Derived.Test.YtkiepcdncegniaaPoa
namespace Go.Proofs.Ytkiepcdncegniaa
open Go.RowKit

/-- A slice of numbers of 32 bits. -/
def Us (w : World) (x : Value) (l : List Nat) : Prop :=
  (∃ a c, x = .slice a 0 c ∧ l = []) ∨ ∃ g o c, x = .slice (some ⟨g, o, none⟩) l.length c ∧ ∀ j (h : j < l.length), w.cell? ⟨g, o + j, none⟩ = some (.int .u32 (l[j] : Nat))
theorem Us.form {w : World} {x : Value} {l : List Nat} (h : Us w x l) : ∃ xo xc, x = .slice xo l.length xc := by
  rcases h with ⟨a, c, rfl, rfl⟩ | ⟨g, o, c, rfl, _⟩ <;> exact ⟨_, _, rfl⟩
theorem Us.fr {w w' : World} {x : Value} {l : List Nat} (h : Us w x l) (hf : Fr (fun _ => False) w w') : Us w' x l := by
  rcases h with h | ⟨g, o, c, h1, h2⟩
  · exact .inl h
  · exact .inr ⟨g, o, c, h1, fun j hj => (hf.cell (p := ⟨g, _, none⟩) (lt_of_cell (h2 j hj)) (fun h => h)).trans (h2 j hj)⟩
theorem Us.at_ {w : World} {xo : Option Addr} {n c : Nat} {l : List Nat} (h : Us w (.slice xo n c) l) (j : Nat) (hj : j < l.length) : ∃ g o, xo = some ⟨g, o, none⟩ ∧ w.cell? ⟨g, o + j, none⟩ = some (.int .u32 (l[j] : Nat)) := by
  rcases h with ⟨_, _, _, rfl⟩ | ⟨g, o, c', e, h2⟩
  · simp at hj
  · simp only [Value.slice.injEq] at e
    obtain ⟨rfl, _, _⟩ := e
    exact ⟨g, o, rfl, h2 j hj⟩
end Go.Proofs.Ytkiepcdncegniaa
