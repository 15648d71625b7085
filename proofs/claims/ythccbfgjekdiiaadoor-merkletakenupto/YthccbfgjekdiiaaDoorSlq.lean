import Derived.Test.YthccbfgjekdiiaaDoorSpr
import Derived.Test.YthccbfgjekdiiaaDoorSrb
namespace Go.Proofs.YthccbfgjekdiiaaDoor
open Go.ChangeShapes Go.WideShapes Go.ChangeAt Go.RowKit
set_option maxRecDepth 100000

/-- What a listed array of words gives a walk: its cells. -/
theorem words_cells64 {W : World} {laid : List (String × DataW Unit)} (hL : laidMet Tryd.prog laid W) {nm : String} {zs : List Int} (hm : (nm, DataW.agg (zs.map fun z => .lit (.int .u64 z))) ∈ laid) {g t n : Nat} (hg : Tryd.prog.globalNamed nm = some g) (hty : (Tryd.prog.globals[g]?).map (·.type) = some t)
    (hu : Tryd.prog.underlying t = some (.array n 91)) (hc : Tryd.prog.cellsOf 91 = 1) (j : Nat) (z : Int) (hz : zs[j]? = some z) : W.cell? ⟨g, j, none⟩ = some (.int .u64 z) := by
  obtain ⟨ps, hv, _, _⟩ := hL
  obtain ⟨g', t', cs, fuel, p, a1, a2, a3, a4, _⟩ := laid_in hv hm
  obtain rfl := Option.some.inj (hg.symm.trans a1)
  obtain rfl := Option.some.inj (hty.symm.trans a2)
  obtain ⟨xs, m, _, hx, _, hlen, hall⟩ := DataW.trod_array hu a4
  simp only [Prod.mk.injEq, DataW.agg.injEq] at hx
  have hxj := congrArg (fun l => l[j]?) hx.1
  simp only [List.getElem?_map, hz, Option.map_some] at hxj
  rcases hxs : xs[j]? with _ | y
  · rw [hxs] at hxj; cases hxj
  · rw [hxs] at hxj
    have hj : j < n := by rw [← hlen]; exact (List.getElem?_eq_some_iff.1 hxs).1
    have h1 := hall j hj
    rw [hc, hxs, Nat.mul_one] at h1
    obtain ⟨v, e1, e2, _⟩ := DataW.trod_int Tryd.underlying91 h1
    have e3 : y.1 = .lit (.int .u64 v) := by rw [e2]
    simp only [Option.map_some, Option.some.injEq] at hxj
    rw [e3] at hxj
    injection hxj with hxj
    injection hxj with _ hxj
    subst hxj
    have e4 : cs.toList[j]? = some (.int .u64 z) := by
      have : (cs.toList.drop j).head? = some (.int .u64 z) := by
        rcases hd : cs.toList.drop j with _ | ⟨a, r⟩
        · rw [hd] at e1; cases e1
        · rw [hd] at e1; simp at e1; rw [e1]; rfl
      rw [List.head?_drop] at this
      exact this
    rw [World.var?_cell hg a3 j]
    simpa using e4
theorem laid_K : (Rows.laid_almoner_almonerref2_K : DataW Unit) = .agg (kz.map fun z => .lit (.int .u64 z)) := by kernel_rfl
theorem laid_B : (Rows.laid_almoner_almonerref2_Begin : DataW Unit) = .agg (sz.map fun z => .lit (.int .u64 z)) := by kernel_rfl
theorem Tryd.cellsU64 : Tryd.prog.cellsOf 91 = 1 := by kernel_rfl
theorem gr_of_laid {W : World} {laid : List (String × DataW Unit)} (hL : laidMet Tryd.prog laid W) (h1 : ("almoner/almonerref2.Begin", Rows.laid_almoner_almonerref2_Begin) ∈ laid) (h2 : ("almoner/almonerref2.K", Rows.laid_almoner_almonerref2_K) ∈ laid) (hw : 6 ≤ W.heap.size) : GR W := by
  rw [laid_B] at h1
  rw [laid_K] at h2
  refine ⟨fun j hj => ?_, fun j hj => ?_, hw⟩
  · refine words_cells64 hL h2 (g := 5) (t := 139) (by kernel_rfl) (by kernel_rfl) Tryd.underlying139 Tryd.cellsU64 j _ ?_
    have hk : j < kt.length := hj
    rw [kz, List.getElem?_map, List.getElem?_eq_getElem hk, Option.map_some, kf, List.getD, List.getElem?_eq_getElem hk, Option.getD_some]
  · refine words_cells64 hL h1 (g := 2) (t := 137) (by kernel_rfl) (by kernel_rfl) Tryd.underlying137 Tryd.cellsU64 j _ ?_
    have hk : j < st0.vals.length := hj
    rw [sz, List.getElem?_map, List.getElem?_eq_getElem hk, Option.map_some]
    simp only [List.getD, List.getElem?_eq_getElem hk, Option.getD_some]
/-- A world for a witness: the settled one, the four variables holding their words. -/
noncomputable def shaWorld4 (os : Os) : World :=
  let w0 := World.holding Tryd.prog os ⟨#[], #[], []⟩
  { w0 with heap := ((((w0.heap.modify 0 fun
      | .cells _ t frozen => .cells st0.cells.toArray t frozen
      | o => o).modify 1 fun
      | .cells _ t frozen => .cells (V32 kt).toArray t frozen
      | o => o).modify 2 fun
      | .cells _ t frozen => .cells (V64 st0.vals).toArray t frozen
      | o => o).modify 5 fun
      | .cells _ t frozen => .cells (V64 kt).toArray t frozen
      | o => o) }
abbrev laid4 : List (String × DataW Unit) := [("almoner/almonerref2.K", Rows.laid_almoner_almonerref2_K), ("almoner/almonerref2.Begin", Rows.laid_almoner_almonerref2_Begin), ("almoner/sha.start", Rows.laid_almoner_sha_start), ("almoner/sha.k", Rows.laid_almoner_sha_k)]
theorem g4_of_laid {W : World} (hL : laidMet Tryd.prog laid4 W) (hw : 6 ≤ W.heap.size) : GS W ∧ GR W :=
  ⟨gs_of_laid hL (.tail _ (.tail _ (.head _))) (.tail _ (.tail _ (.tail _ (.head _)))) hw, gr_of_laid hL (.tail _ (.head _)) (.head _) hw⟩
end Go.Proofs.YthccbfgjekdiiaaDoor
