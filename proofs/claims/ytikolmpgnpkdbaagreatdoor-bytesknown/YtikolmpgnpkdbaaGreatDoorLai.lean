import Derived.Test.YtikolmpgnpkdbaaGreatDoorCom
import Derived.Test.YtikolmpgnpkdbaaGreatDoorTld
import Derived.LaidHandle
namespace Go.Proofs.YtikolmpgnpkdbaaGreatDoor
open Go.ChangeShapes Go.WideShapes Go.ChangeAt Go.RowKit
set_option maxRecDepth 100000

theorem Tryz.etG : Tryz.prog.globalNamed "errors.errorType" = some 8 := by kernel_rfl
theorem Tryz.rtT : (Tryz.prog.cutTypes.find? (·.1 == "internal/reflectlite.rtype")).map (·.2) = some 132 := by kernel_rfl
theorem Tryz.oneErr : ((List.range Tryz.prog.types.size).filter fun t => Tryz.prog.rowNamed t [101, 114, 114, 111, 114]) = [38] := by kernel_rfl
theorem Tryz.hanErr : typeHandle Tryz.prog 38 = .pointer (some ⟨9, 38, none⟩) := by kernel_rfl

/-- The data of the seven errors, in the rows' order. -/
def laid7 : List (String × DataW Unit) := [("almoner/api.ErrShort", Rows.laid_almoner_api_ErrShort), ("almoner/api.ErrLong", Rows.laid_almoner_api_ErrLong), ("almoner/api.ErrTrailing", Rows.laid_almoner_api_ErrTrailing), ("almoner/api.ErrRange", Rows.laid_almoner_api_ErrRange), ("almoner/api.ErrKind", Rows.laid_almoner_api_ErrKind), ("almoner/api.ErrOrder", Rows.laid_almoner_api_ErrOrder), ("almoner/almonerlaw1.own", Rows.laid_almoner_almonerlaw1_own)]
theorem et_of_laid {W : World} (h : handlesMet Tryz.prog [("errors.errorType", Rows.laid_errors_errorType)] W) : Et W := by
  obtain ⟨name, u, ty, e1, e2, e3, e4, e5⟩ := h _ (List.mem_singleton.2 rfl)
  have en : name = [101, 114, 114, 111, 114] := (Option.some.inj e1).symm
  subst en
  obtain rfl := Option.some.inj (Tryz.rtT.symm.trans e2)
  have hm : ty ∈ (List.range Tryz.prog.types.size).filter fun t => Tryz.prog.rowNamed t [101, 114, 114, 111, 114] := List.mem_filter.2 ⟨List.mem_range.2 e3, e4⟩
  rw [Tryz.oneErr] at hm
  obtain rfl := List.mem_singleton.1 hm
  rw [Tryz.hanErr] at e5
  unfold Et
  simpa using World.var?_cell Tryz.etG e5 0
theorem g7_of_laid {W : World} (h : laidMetH Tryz.prog (("errors.errorType", Rows.laid_errors_errorType) :: laid7) W) : ∃ E, G7 W E := by
  have h' : laidMet Tryz.prog laid7 W ∧ handlesMet Tryz.prog [("errors.errorType", Rows.laid_errors_errorType)] W := h
  obtain ⟨a1, h1⟩ := sentinel_cell h'.1 (.head _) (g := 4) (by kernel_rfl) (by kernel_rfl)
  obtain ⟨a2, h2⟩ := sentinel_cell h'.1 (.tail _ (.head _)) (g := 2) (by kernel_rfl) (by kernel_rfl)
  obtain ⟨a3, h3⟩ := sentinel_cell h'.1 (.tail _ (.tail _ (.head _))) (g := 1) (by kernel_rfl) (by kernel_rfl)
  obtain ⟨a4, h4⟩ := sentinel_cell h'.1 (.tail _ (.tail _ (.tail _ (.head _)))) (g := 0) (by kernel_rfl) (by kernel_rfl)
  obtain ⟨a5, h5⟩ := sentinel_cell h'.1 (.tail _ (.tail _ (.tail _ (.tail _ (.head _))))) (g := 5) (by kernel_rfl) (by kernel_rfl)
  obtain ⟨a6, h6⟩ := sentinel_cell h'.1 (.tail _ (.tail _ (.tail _ (.tail _ (.tail _ (.head _)))))) (g := 6) (by kernel_rfl) (by kernel_rfl)
  obtain ⟨a7, h7⟩ := sentinel_cell h'.1 (.tail _ (.tail _ (.tail _ (.tail _ (.tail _ (.tail _ (.head _))))))) (g := 7) (by kernel_rfl) (by kernel_rfl)
  exact ⟨fun n => if n = 1 then a1 else if n = 2 then a2 else if n = 3 then a3 else if n = 4 then a4 else if n = 5 then a5 else if n = 6 then a6 else a7, ⟨h1, h2, h3⟩, h4, h5, h6, h7, et_of_laid h'.2⟩

/-- A world for a witness, errors.errorType laid too. -/
noncomputable def errWorld8 (os : Os) : World :=
  let w0 := errWorld os
  { w0 with heap := w0.heap.modify 8 fun
      | .cells _ t frozen => .cells #[.iface 132 (.agg #[.pointer (some ⟨9, 38, none⟩)])] t frozen
      | o => o }
end Go.Proofs.YtikolmpgnpkdbaaGreatDoor
