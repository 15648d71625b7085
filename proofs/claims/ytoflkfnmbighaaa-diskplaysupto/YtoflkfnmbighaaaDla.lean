import Derived.Test.YtoflkfnmbighaaaDkz
namespace Go.Proofs.Ytoflkfnmbighaaa
open Go.RowKit Go.ChangeShapes Go.WideShapes Go.Maps Go.Sort

/-- The places of those that are one's own. -/
def wantL (own : Nat) : List Nat → Nat → List Nat
  | [], _ => []
  | o :: r, i => (if o % 256 = own then [i] else []) ++ wantL own r (i + 1)
theorem wantL_app (own o : Nat) : ∀ (l : List Nat) (i : Nat), wantL own (l ++ [o]) i = wantL own l i ++ (if o % 256 = own then [i + l.length] else [])
  | [], i => by simp [wantL]
  | p :: r, i => by
    simp only [List.cons_append, wantL, List.length_cons]
    rw [wantL_app own o r (i + 1), List.append_assoc, show i + 1 + r.length = i + (r.length + 1) by omega]
theorem wantL_len (own : Nat) : ∀ (l : List Nat) (i : Nat), (wantL own l i).length ≤ l.length
  | [], _ => Nat.le_refl _
  | p :: r, i => by
    have := wantL_len own r (i + 1)
    simp only [wantL, List.length_append, List.length_cons]
    split <;> simp <;> omega
/-- append(want, byte(z)). -/
theorem app_z (w : World) (base z : Nat) (v : Value) (l : List Nat) (h : w.ownsRow base 5 1 v l.length (cellsOf l)) (hb : base ≤ w.heap.size) (hl : l.length ≤ 1048576) :
    ∃ ao cap w', (Builtin.append_ #[36, 36] 36 #[v, .slice (some ⟨w.heap.size, 0, none⟩) 1 1]).run Try.prog (w.alloc (.cells #[.int .u8 ((z % 256 : Nat) : Int)] 5)) = .ok (.slice ao (l.length + 1) cap) w' ∧ w'.ownsRow base 5 1 (.slice ao (l.length + 1) cap) (l.length + 1) (cellsOf (l ++ [z])) ∧ Fr (fun g => v.ownBlock = some g) w w' := by
  have h1 : (w.alloc (.cells #[.int .u8 ((z % 256 : Nat) : Int)] 5)).ownsRow base 5 1 v l.length (cellsOf l) := ownsRow_of_block h (fun k hk => Below.heap_alloc _ _ _ (h.lt k hk).2)
  have hs : Src (w.alloc (.cells #[.int .u8 ((z % 256 : Nat) : Int)] 5)) (.slice (some ⟨w.heap.size, 0, none⟩) 1 1) [z] := .inr (.inl ⟨w.heap.size, 0, 1, rfl, fun j u hu => by
    rw [World.cell?_alloc_at _ _ _ _ rfl]
    simpa [cellsOf, B] using hu⟩)
  obtain ⟨ao, cap, w', hr, hown, hg, _⟩ := run_app_sl _ 36 base l.length v _ (cellsOf l) [z] h1 hs (by simp; omega) (by simp; omega)
  exact ⟨ao, cap, w', hr, by rw [cellsOf_append]; exact hown, ((box1 w _).mono (fun _ _ h => h.elim)).grown hg (fun g hg => .inl hg)⟩
end Go.Proofs.Ytoflkfnmbighaaa
