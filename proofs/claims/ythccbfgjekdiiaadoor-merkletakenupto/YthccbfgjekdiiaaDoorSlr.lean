import Derived.Test.YthccbfgjekdiiaaDoorSbs
import Derived.Test.YthccbfgjekdiiaaDoorCards
import Derived.Test.YthccbfgjekdiiaaDoorTie
import Derived.WalkKit
import Derived.ProofKit
import Derived.OpenShut
import Derived.LaidLaws
import Derived.Deep.DeepHandedRow
import Derived.Deep.DeepWitnessRowRef
namespace Go.Proofs.YthccbfgjekdiiaaDoor
open Go.ChangeShapes Go.WideShapes Go.ChangeAt Go.RowKit
set_option maxRecDepth 100000

theorem Tryd.ownKnob : ownKnob Tryd.prog.godebug = none := by kernel_rfl
theorem Fr.below {w w' : World} (h : Fr (fun _ => False) w w') : Below w.heap.size w w' := ⟨h.os, h.tape, h.output, h.size, fun k hk => h.block k hk (fun x => x)⟩
theorem laid_in {W : World} : ∀ {l : List (String × DataW Unit)} {ps : List MemPlace}, DataW.LaidVars Tryd.prog W l ps → ∀ {nm : String} {d : DataW Unit}, (nm, d) ∈ l →
    ∃ g t cs fuel p, Tryd.prog.globalNamed nm = some g ∧ (Tryd.prog.globals[g]?).map (·.type) = some t ∧ W.var? Tryd.prog nm = some cs ∧ DataW.trod (H := Unit) (fun _ => ()) Tryd.prog W 0 (fun _ => true) false fuel t cs.toList = some (d, p) ∧ ∀ x ∈ MemPlace.row ⟨g, 0, none⟩ cs.size, x ∈ ps := by
  intro l
  induction l with
  | nil => intro ps _ nm d hm; cases hm
  | cons y r ih =>
    intro ps h nm d hm
    obtain ⟨n, dd⟩ := y
    obtain ⟨g, t, cs, fuel, p, q, hg, ht, hv, hd, hr, rfl⟩ := h
    rcases List.mem_cons.1 hm with e | hm
    · cases e
      exact ⟨g, t, cs, fuel, p, hg, ht, hv, hd, fun x hx => by simp [hx]⟩
    · obtain ⟨g', t', cs', fuel', p', a1, a2, a3, a4, a5⟩ := ih hr hm
      exact ⟨g', t', cs', fuel', p', a1, a2, a3, a4, fun x hx => by simp [a5 x hx]⟩

/-- What a listed array of words gives a walk: its cells. -/
theorem words_cells {W : World} {laid : List (String × DataW Unit)} (hL : laidMet Tryd.prog laid W) {nm : String} {zs : List Int} (hm : (nm, DataW.agg (zs.map fun z => .lit (.int .u32 z))) ∈ laid) {g t n : Nat} (hg : Tryd.prog.globalNamed nm = some g) (hty : (Tryd.prog.globals[g]?).map (·.type) = some t)
    (hu : Tryd.prog.underlying t = some (.array n 86)) (hc : Tryd.prog.cellsOf 86 = 1) (j : Nat) (z : Int) (hz : zs[j]? = some z) : W.cell? ⟨g, j, none⟩ = some (.int .u32 z) := by
  obtain ⟨ps, hv, _, _⟩ := hL
  obtain ⟨g', t', cs, fuel, p, a1, a2, a3, a4, _⟩ := laid_in hv hm
  obtain rfl := Option.some.inj (hg.symm.trans a1)
  obtain rfl := Option.some.inj (hty.symm.trans a2)
  obtain ⟨xs, m, _, hx, _, hlen, hall⟩ := DataW.trod_array hu a4
  simp only [Prod.mk.injEq, DataW.agg.injEq] at hx
  have hxj := congrArg (fun l => l[j]?) hx.1
  simp only [List.getElem?_map, hz, Option.map_some] at hxj
  rcases hxs : xs[j]? with _ | y
  · rw [hxs] at hxj; cases hxj
  · rw [hxs] at hxj
    have hj : j < n := by rw [← hlen]; exact (List.getElem?_eq_some_iff.1 hxs).1
    have h1 := hall j hj
    rw [hc, hxs, Nat.mul_one] at h1
    obtain ⟨v, e1, e2, _⟩ := DataW.trod_int Tryd.underlying86 h1
    have e3 : y.1 = .lit (.int .u32 v) := by rw [e2]
    simp only [Option.map_some, Option.some.injEq] at hxj
    rw [e3] at hxj
    injection hxj with hxj
    injection hxj with _ hxj
    subst hxj
    have e4 : cs.toList[j]? = some (.int .u32 z) := by
      have : (cs.toList.drop j).head? = some (.int .u32 z) := by
        rcases hd : cs.toList.drop j with _ | ⟨a, r⟩
        · rw [hd] at e1; cases e1
        · rw [hd] at e1; simp at e1; rw [e1]; rfl
      rw [List.head?_drop] at this
      exact this
    rw [World.var?_cell hg a3 j]
    simpa using e4
def kz : List Int := kt.map fun x : Nat => (x : Int)
def sz : List Int := st0.vals.map fun x : Nat => (x : Int)
theorem laid_k : (Rows.laid_almoner_sha_k : DataW Unit) = .agg (kz.map fun z => .lit (.int .u32 z)) := by kernel_rfl
theorem laid_s : (Rows.laid_almoner_sha_start : DataW Unit) = .agg (sz.map fun z => .lit (.int .u32 z)) := by kernel_rfl
theorem Tryd.cellsU32 : Tryd.prog.cellsOf 86 = 1 := by kernel_rfl
theorem gs_of_laid {W : World} {laid : List (String × DataW Unit)} (hL : laidMet Tryd.prog laid W) (h1 : ("almoner/sha.start", Rows.laid_almoner_sha_start) ∈ laid) (h2 : ("almoner/sha.k", Rows.laid_almoner_sha_k) ∈ laid) (hw : 6 ≤ W.heap.size) : GS W := by
  rw [laid_s] at h1
  rw [laid_k] at h2
  refine ⟨⟨fun j hj => ?_, hw⟩, fun j v hv => ?_⟩
  · refine words_cells hL h2 (g := 1) (t := 134) (by kernel_rfl) (by kernel_rfl) Tryd.underlying134 Tryd.cellsU32 j _ ?_
    have hk : j < kt.length := hj
    rw [kz, List.getElem?_map, List.getElem?_eq_getElem hk, Option.map_some, kf, List.getD, List.getElem?_eq_getElem hk, Option.getD_some]
  · rw [cells_V] at hv
    obtain ⟨hj, rfl⟩ := V32_at _ j v hv
    rw [Nat.zero_add]
    refine words_cells hL h1 (g := 0) (t := 88) (by kernel_rfl) (by kernel_rfl) Tryd.underlying88 Tryd.cellsU32 j _ ?_
    rw [sz, List.getElem?_map, List.getElem?_eq_getElem hj, Option.map_some, List.getD, List.getElem?_eq_getElem hj, Option.getD_some]
theorem heap_enough {W : World} (h : W.ShapedOpen Tryd.prog) : 6 ≤ W.heap.size := by
  obtain ⟨cs, hc, _⟩ := h.1 5 (Array.replicate 64 (.int .u64 0)) 139 (by decide +kernel) (by kernel_rfl)
  rcases Nat.lt_or_ge 5 W.heap.size with hx | hx
  · exact hx
  · rw [Array.getElem?_eq_none hx] at hc; cases hc
end Go.Proofs.YthccbfgjekdiiaaDoor
