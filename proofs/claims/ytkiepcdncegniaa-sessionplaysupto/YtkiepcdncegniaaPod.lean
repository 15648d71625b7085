import Derived.Test.YtkiepcdncegniaaPoc
namespace Go.Proofs.Ytkiepcdncegniaa
open Go.RowKit

@[go_sem] theorem run_store_float (P : Program) (w : World) (a : Addr) (m : Mode) (k : FloatKind) (x : Nat) : (store a (.float k x) m).run P w = stored P w a (.float k x) m := run_store P w a _ m rfl
/-- A field: name, kind, text, value, unit. -/
structure F5 where
  n : ByteArray
  k : Nat
  t : ByteArray
  v : Nat
  u : Nat
def Fds (w : World) (x : Value) (l : List F5) : Prop :=
  (∃ a c, x = .slice a 0 c ∧ l = []) ∨ ∃ g o c, x = .slice (some ⟨g, o, none⟩) l.length c ∧ ∀ j (h : j < l.length), w.cell? ⟨g, o + j * 5, none⟩ = some (.string l[j].n) ∧ w.cell? ⟨g, o + j * 5 + 1, none⟩ = some (.int .u8 (l[j].k : Nat)) ∧ w.cell? ⟨g, o + j * 5 + 2, none⟩ = some (.string l[j].t) ∧ w.cell? ⟨g, o + j * 5 + 3, none⟩ = some (.float .f32 l[j].v) ∧ w.cell? ⟨g, o + j * 5 + 4, none⟩ = some (.int .u8 (l[j].u : Nat))
theorem Fds.form {w : World} {x : Value} {l : List F5} (h : Fds w x l) : ∃ xo xc, x = .slice xo l.length xc := by
  rcases h with ⟨a, c, rfl, rfl⟩ | ⟨g, o, c, rfl, _⟩ <;> exact ⟨_, _, rfl⟩
theorem Fds.fr {w w' : World} {x : Value} {l : List F5} (h : Fds w x l) (hf : Fr (fun _ => False) w w') : Fds w' x l := by
  rcases h with h | ⟨g, o, c, h1, h2⟩
  · exact .inl h
  · refine .inr ⟨g, o, c, h1, fun j hj => ?_⟩
    obtain ⟨c0, c1, c2, c3, c4⟩ := h2 j hj
    have hg : g < w.heap.size := lt_of_cell c0
    exact ⟨(hf.cell (p := ⟨g, _, none⟩) hg (fun h => h)).trans c0, (hf.cell (p := ⟨g, _, none⟩) hg (fun h => h)).trans c1, (hf.cell (p := ⟨g, _, none⟩) hg (fun h => h)).trans c2, (hf.cell (p := ⟨g, _, none⟩) hg (fun h => h)).trans c3, (hf.cell (p := ⟨g, _, none⟩) hg (fun h => h)).trans c4⟩
theorem Fds.at_ {w : World} {xo : Option Addr} {n c : Nat} {l : List F5} (h : Fds w (.slice xo n c) l) (j : Nat) (hj : j < l.length) : ∃ g o, xo = some ⟨g, o, none⟩ ∧ w.cell? ⟨g, o + j * 5, none⟩ = some (.string l[j].n) ∧ w.cell? ⟨g, o + j * 5 + 1, none⟩ = some (.int .u8 (l[j].k : Nat)) ∧ w.cell? ⟨g, o + j * 5 + 2, none⟩ = some (.string l[j].t) ∧ w.cell? ⟨g, o + j * 5 + 3, none⟩ = some (.float .f32 l[j].v) ∧ w.cell? ⟨g, o + j * 5 + 4, none⟩ = some (.int .u8 (l[j].u : Nat)) := by
  rcases h with ⟨_, _, _, rfl⟩ | ⟨g, o, c', e, h2⟩
  · simp at hj
  · simp only [Value.slice.injEq] at e
    obtain ⟨rfl, _, _⟩ := e
    exact ⟨g, o, rfl, h2 j hj⟩
/-- Texts alone? -/
def txts (l : List F5) : Bool := l.all fun f => decide (f.k = 1)
end Go.Proofs.Ytkiepcdncegniaa
