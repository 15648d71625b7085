import Derived.Test.YtikolmpgnpkdbaaGreatDoorSen
import Derived.Test.YtikolmpgnpkdbaaGreatDoorCnt
namespace Go.Proofs.YtikolmpgnpkdbaaGreatDoor
open Go.ChangeShapes Go.WideShapes Go.ChangeAt Go.RowKit
set_option maxRecDepth 100000

theorem heap_ok {W : World} (h : W.ShapedOpen Tryz.prog) : 9 ≤ W.heap.size := by
  obtain ⟨cs, hc, _⟩ := h.1 8 #[.nilIface] 114 (by decide +kernel) (by kernel_rfl)
  rcases Nat.lt_or_ge 8 W.heap.size with hx | hx
  · exact hx
  · rw [Array.getElem?_eq_none hx] at hc; cases hc

theorem Fr.low {w w' : World} (h : Fr (fun _ => False) w w') : Below w.heap.size w w' := ⟨h.os, h.tape, h.output, h.size, fun k hk => h.block k hk (fun x => x)⟩

theorem gl_of_seven {W : World} {r : List (String × DataW Unit)} {n1 n2 n3 n4 : String} (hL : laidMet Tryz.prog ((n1, Rows.laid_almoner_api_ErrShort) :: (n2, Rows.laid_almoner_api_ErrLong) :: (n3, Rows.laid_almoner_api_ErrTrailing) :: (n4, Rows.laid_almoner_api_ErrRange) :: r) W)
    (g1 : Tryz.prog.globalNamed n1 = some 4) (g2 : Tryz.prog.globalNamed n2 = some 2) (g3 : Tryz.prog.globalNamed n3 = some 1) (g4 : Tryz.prog.globalNamed n4 = some 0) : ∃ E er, Gl W E ∧ Rg W er := by
  obtain ⟨a1, h1⟩ := sentinel_cell hL (.head _) g1 (by kernel_rfl)
  obtain ⟨a2, h2⟩ := sentinel_cell hL (.tail _ (.head _)) g2 (by kernel_rfl)
  obtain ⟨a3, h3⟩ := sentinel_cell hL (.tail _ (.tail _ (.head _))) g3 (by kernel_rfl)
  obtain ⟨a4, h4⟩ := sentinel_cell hL (.tail _ (.tail _ (.tail _ (.head _)))) g4 (by kernel_rfl)
  exact ⟨fun n => if n = 1 then a1 else if n = 2 then a2 else a3, a4, ⟨h1, h2, h3⟩, h4⟩

/-- A world for a witness: the settled one, each listed variable holding an error of its text. -/
noncomputable def errLow : Nat := (World.holding Tryz.prog default ⟨#[], #[], []⟩).heap.size
noncomputable def errWorld (os : Os) : World :=
  let w0 := World.holding Tryz.prog os ⟨#[.cells #[.string ⟨#[116, 111, 111, 32, 102, 101, 119, 32, 98, 121, 116, 101, 115]⟩] 165, .cells #[.string ⟨#[116, 111, 111, 32, 108, 111, 110, 103]⟩] 165, .cells #[.string ⟨#[98, 121, 116, 101, 115, 32, 98, 101, 104, 105, 110, 100, 32, 116, 104, 101, 32, 101, 110, 100]⟩] 165, .cells #[.string ⟨#[97, 32, 110, 117, 109, 98, 101, 114, 32, 116, 104, 97, 116, 32, 109, 97, 121, 32, 110, 111, 116, 32, 98, 101]⟩] 165, .cells #[.string ⟨#[110, 111, 32, 115, 117, 99, 104, 32, 107, 105, 110, 100]⟩] 165, .cells #[.string ⟨#[110, 111, 116, 32, 105, 110, 32, 111, 114, 100, 101, 114]⟩] 165, .cells #[.string ⟨#[111, 119, 110]⟩] 165], #[], []⟩
  { w0 with heap := (((((((w0.heap.modify 4 fun
      | .cells _ t frozen => .cells #[.iface 146 (.pointer (some ⟨errLow + 0, 0, none⟩))] t frozen
      | o => o).modify 2 fun
      | .cells _ t frozen => .cells #[.iface 146 (.pointer (some ⟨errLow + 1, 0, none⟩))] t frozen
      | o => o).modify 1 fun
      | .cells _ t frozen => .cells #[.iface 146 (.pointer (some ⟨errLow + 2, 0, none⟩))] t frozen
      | o => o).modify 0 fun
      | .cells _ t frozen => .cells #[.iface 146 (.pointer (some ⟨errLow + 3, 0, none⟩))] t frozen
      | o => o).modify 5 fun
      | .cells _ t frozen => .cells #[.iface 146 (.pointer (some ⟨errLow + 4, 0, none⟩))] t frozen
      | o => o).modify 6 fun
      | .cells _ t frozen => .cells #[.iface 146 (.pointer (some ⟨errLow + 5, 0, none⟩))] t frozen
      | o => o).modify 7 fun
      | .cells _ t frozen => .cells #[.iface 146 (.pointer (some ⟨errLow + 6, 0, none⟩))] t frozen
      | o => o) }
end Go.Proofs.YtikolmpgnpkdbaaGreatDoor
