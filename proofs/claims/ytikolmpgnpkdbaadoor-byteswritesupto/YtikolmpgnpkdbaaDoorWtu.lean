import Derived.Test.YtikolmpgnpkdbaaDoorWtt
namespace Go.Proofs.YtikolmpgnpkdbaaDoor
open Go.RowKit

theorem PSrc.fr {w w' : World} {x : Value} {A : List Pt} (h : PSrc w x A) (hf : Fr (fun _ => False) w w') : PSrc w' x A := by
  rcases h with h | ⟨g, o, c, rfl, hc⟩
  · exact .inl h
  · have key : ∀ {p : Addr} {v : Value}, w.cell? p = some v → w'.cell? p = some v := fun h => (hf.cell (lt_of_cell h) (fun h => h)).trans h
    exact .inr ⟨g, o, c, rfl, fun j hj => ⟨key (hc j hj).1, key (hc j hj).2.1, key (hc j hj).2.2.1, key (hc j hj).2.2.2.1, key (hc j hj).2.2.2.2⟩⟩

set_option maxRecDepth 100000 in
theorem bwrites_any (x0 : Value) (A : List Pt) (E : Nat → Addr) (w : World) (hg : G7 w E) (hw : 9 ≤ w.heap.size) (h0 : PSrc w x0 A) (hA : weight A ≤ 16777216) (oA : ∀ p ∈ A, p.ok) (hAl : A.length < 16777216) :
    Calls Tryd.prog 3 #[x0] w fun e w' => e = .returned (.bool true) ∧ Fr (fun _ => False) w w' := by
  have HG := hide (And.intro hg (And.intro h0 oA))
  clear hg h0 oA
  go_enter Tryd.func3, Tryd.ntmps3
  go_wp2_with fail
  refine (awake_any E w (unhide HG).1.gl hw).mono ?_
  rintro e w1 ⟨rfl, hf1⟩
  have A1 := hide hf1
  clear hf1
  go_wp2_with fail
  refine (writes_any x0 A E w1 ((unhide HG).1.fr (unhide A1) (fun _ h => h.elim)) (Nat.le_trans hw (unhide A1).size) ((unhide HG).2.1.fr (unhide A1)) hA (unhide HG).2.2 hAl).mono ?_
  rintro e w2 ⟨rfl, hf2⟩
  have A2 := hide ((unhide A1).trans hf2 (fun _ _ h => h))
  clear hf2
  go_wp2_with fail
  go_ret
  exact ⟨rfl, unhide A2⟩
end Go.Proofs.YtikolmpgnpkdbaaDoor
