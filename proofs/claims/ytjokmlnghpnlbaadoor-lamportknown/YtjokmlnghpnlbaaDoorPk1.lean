import Derived.Test.YtjokmlnghpnlbaaDoorSbs
import Derived.Test.YtjokmlnghpnlbaaDoorCards
import Derived.Test.YtjokmlnghpnlbaaDoorTie
import Derived.WalkKit
import Derived.ProofKit
import Derived.OpenShut
import Derived.LaidLaws
import Derived.Deep.DeepHandedRow
import Derived.Deep.DeepWitnessRowRef
import Derived.Test.YtjokmlnghpnlbaaDoorSck
import Derived.Deep.Slices
import Derived.Test.YtjokmlnghpnlbaaDoorSrb
import Derived.Test.YtjokmlnghpnlbaaDoorMbg
import Derived.Test.YtjokmlnghpnlbaaDoorMbj
import Derived.Test.YtjokmlnghpnlbaaDoorSba
import Derived.Test.YtjokmlnghpnlbaaDoorSfa
import Derived.Test.YtjokmlnghpnlbaaDoorMaa
import Derived.Deep.RegionHeld3
import Derived.Test.YtjokmlnghpnlbaaDoorMaf
namespace Go.Proofs.YtjokmlnghpnlbaaDoor
open Go.ChangeShapes Go.WideShapes Go.ChangeAt Go.RowKit
set_option maxRecDepth 100000

theorem Tryd.ownKnob : ownKnob Tryd.prog.godebug = none := by kernel_rfl
theorem Fr.below {w w' : World} (h : Fr (fun _ => False) w w') : Below w.heap.size w w' := ⟨h.os, h.tape, h.output, h.size, fun k hk => h.block k hk (fun x => x)⟩
theorem laid_in {W : World} : ∀ {l : List (String × DataW Unit)} {ps : List MemPlace}, DataW.LaidVars Tryd.prog W l ps → ∀ {nm : String} {d : DataW Unit}, (nm, d) ∈ l →
    ∃ g t cs fuel p, Tryd.prog.globalNamed nm = some g ∧ (Tryd.prog.globals[g]?).map (·.type) = some t ∧ W.var? Tryd.prog nm = some cs ∧ DataW.trod (H := Unit) (fun _ => ()) Tryd.prog W 0 (fun _ => true) false fuel t cs.toList = some (d, p) ∧ ∀ x ∈ MemPlace.row ⟨g, 0, none⟩ cs.size, x ∈ ps := by
  intro l
  induction l with
  | nil => intro ps _ nm d hm; cases hm
  | cons y r ih =>
    intro ps h nm d hm
    obtain ⟨n, dd⟩ := y
    obtain ⟨g, t, cs, fuel, p, q, hg, ht, hv, hd, hr, rfl⟩ := h
    rcases List.mem_cons.1 hm with e | hm
    · cases e
      exact ⟨g, t, cs, fuel, p, hg, ht, hv, hd, fun x hx => by simp [hx]⟩
    · obtain ⟨g', t', cs', fuel', p', a1, a2, a3, a4, a5⟩ := ih hr hm
      exact ⟨g', t', cs', fuel', p', a1, a2, a3, a4, fun x hx => by simp [a5 x hx]⟩

/-- What a listed array of words gives a walk: its cells. -/
theorem words_cells {W : World} {laid : List (String × DataW Unit)} (hL : laidMet Tryd.prog laid W) {nm : String} {zs : List Int} (hm : (nm, DataW.agg (zs.map fun z => .lit (.int .u32 z))) ∈ laid) {g t n : Nat} (hg : Tryd.prog.globalNamed nm = some g) (hty : (Tryd.prog.globals[g]?).map (·.type) = some t)
    (hu : Tryd.prog.underlying t = some (.array n 75)) (hc : Tryd.prog.cellsOf 75 = 1) (j : Nat) (z : Int) (hz : zs[j]? = some z) : W.cell? ⟨g, j, none⟩ = some (.int .u32 z) := by
  obtain ⟨ps, hv, _, _⟩ := hL
  obtain ⟨g', t', cs, fuel, p, a1, a2, a3, a4, _⟩ := laid_in hv hm
  obtain rfl := Option.some.inj (hg.symm.trans a1)
  obtain rfl := Option.some.inj (hty.symm.trans a2)
  obtain ⟨xs, m, _, hx, _, hlen, hall⟩ := DataW.trod_array hu a4
  simp only [Prod.mk.injEq, DataW.agg.injEq] at hx
  have hxj := congrArg (fun l => l[j]?) hx.1
  simp only [List.getElem?_map, hz, Option.map_some] at hxj
  rcases hxs : xs[j]? with _ | y
  · rw [hxs] at hxj; cases hxj
  · rw [hxs] at hxj
    have hj : j < n := by rw [← hlen]; exact (List.getElem?_eq_some_iff.1 hxs).1
    have h1 := hall j hj
    rw [hc, hxs, Nat.mul_one] at h1
    obtain ⟨v, e1, e2, _⟩ := DataW.trod_int Tryd.underlying75 h1
    have e3 : y.1 = .lit (.int .u32 v) := by rw [e2]
    simp only [Option.map_some, Option.some.injEq] at hxj
    rw [e3] at hxj
    injection hxj with hxj
    injection hxj with _ hxj
    subst hxj
    have e4 : cs.toList[j]? = some (.int .u32 z) := by
      have : (cs.toList.drop j).head? = some (.int .u32 z) := by
        rcases hd : cs.toList.drop j with _ | ⟨a, r⟩
        · rw [hd] at e1; cases e1
        · rw [hd] at e1; simp at e1; rw [e1]; rfl
      rw [List.head?_drop] at this
      exact this
    rw [World.var?_cell hg a3 j]
    simpa using e4
def kz : List Int := kt.map fun x : Nat => (x : Int)
def sz : List Int := st0.vals.map fun x : Nat => (x : Int)
theorem laid_k : (Rows.laid_almoner_sha_k : DataW Unit) = .agg (kz.map fun z => .lit (.int .u32 z)) := by kernel_rfl
theorem laid_s : (Rows.laid_almoner_sha_start : DataW Unit) = .agg (sz.map fun z => .lit (.int .u32 z)) := by kernel_rfl
theorem Tryd.cellsU32 : Tryd.prog.cellsOf 75 = 1 := by kernel_rfl
theorem gs_of_laid {W : World} {laid : List (String × DataW Unit)} (hL : laidMet Tryd.prog laid W) (h1 : ("almoner/sha.start", Rows.laid_almoner_sha_start) ∈ laid) (h2 : ("almoner/sha.k", Rows.laid_almoner_sha_k) ∈ laid) (hw : 6 ≤ W.heap.size) : GS W := by
  rw [laid_s] at h1
  rw [laid_k] at h2
  refine ⟨⟨fun j hj => ?_, hw⟩, fun j v hv => ?_⟩
  · refine words_cells hL h2 (g := 3) (t := 111) (by kernel_rfl) (by kernel_rfl) Tryd.underlying111 Tryd.cellsU32 j _ ?_
    have hk : j < kt.length := hj
    rw [kz, List.getElem?_map, List.getElem?_eq_getElem hk, Option.map_some, kf, List.getD, List.getElem?_eq_getElem hk, Option.getD_some]
  · rw [cells_V] at hv
    obtain ⟨hj, rfl⟩ := V32_at _ j v hv
    rw [Nat.zero_add]
    refine words_cells hL h1 (g := 2) (t := 77) (by kernel_rfl) (by kernel_rfl) Tryd.underlying77 Tryd.cellsU32 j _ ?_
    rw [sz, List.getElem?_map, List.getElem?_eq_getElem hj, Option.map_some, List.getD, List.getElem?_eq_getElem hj, Option.getD_some]
theorem heap_enough {W : World} (h : W.ShapedOpen Tryd.prog) : 6 ≤ W.heap.size := by
  obtain ⟨cs, hc, _⟩ := h.1 5 (Array.replicate 64 (.int .u8 0)) 78 (by decide +kernel) (by kernel_rfl)
  rcases Nat.lt_or_ge 5 W.heap.size with hx | hx
  · exact hx
  · rw [Array.getElem?_eq_none hx] at hc; cases hc
end Go.Proofs.YtjokmlnghpnlbaaDoor

namespace Go.Proofs.YtjokmlnghpnlbaaDoor
open Go.ChangeShapes Go.WideShapes Go.ChangeAt Go.RowKit Go.Deep
set_option maxRecDepth 100000

theorem Tryd.cellsU8 : Tryd.prog.cellsOf 5 = 1 := by kernel_rfl
theorem Tryd.cellsB : Tryd.prog.cellsOf 24 = 1 := by kernel_rfl
theorem bulk_pos {H : Type} (d : DataW H) : 1 ≤ Rows.uptoBulk d := by
  unfold Rows.uptoBulk
  split <;> omega
theorem bulk_len {H : Type} : ∀ l : List (DataW H), l.length ≤ Rows.uptoBulkAll l
  | [] => Nat.zero_le _
  | d :: r => by
    have h1 := bulk_pos d
    have h2 := bulk_len r
    simp only [Rows.uptoBulkAll, List.length_cons]
    omega
theorem bulk_in {H : Type} : ∀ (l : List (DataW H)) (d : DataW H), d ∈ l → Rows.uptoBulk d ≤ Rows.uptoBulkAll l
  | [], d, h => by cases h
  | x :: r, d, h => by
    simp only [Rows.uptoBulkAll]
    rcases List.mem_cons.1 h with rfl | h
    · omega
    · have := bulk_in r d h
      omega
/-- A slice of bytes that is read. -/
theorem src_of_trod {H : Type} {enc : TypeId × Value → H} {W : World} {fuel : Nat} {v : Value} {d : DataW H} {p : List MemPlace} (hf : DataW.trod enc Tryd.prog W 0 (fun _ => true) true fuel 24 [v] = some (d, p)) :
    ∃ l : List Nat, Src W v l ∧ (∀ u ∈ l, u < 256) ∧ (∀ ao n c, v = .slice ao n c → n ≤ c) ∧ (l = [] ∨ ∀ g o n c, v = .slice (some ⟨g, o, none⟩) n c → g < W.heap.size) ∧ l.length ≤ Rows.uptoBulk d := by
  rcases open_ints Tryd.underlying24 Tryd.underlying5 Tryd.cellsU8 hf with ⟨hcs, hx⟩ | ⟨a, len, cap, zs, hcs, _, hl, hm, hz, hx, hcell, hwz⟩
  · simp only [List.cons.injEq, and_true] at hcs
    subst hcs
    exact ⟨[], .inl ⟨rfl, rfl⟩, (fun _ h => by cases h), fun _ _ _ e => by cases e; exact Nat.le_refl _, .inl rfl, Nat.zero_le _⟩
  · simp only [List.cons.injEq, and_true] at hcs
    subst hcs
    simp only [Prod.mk.injEq] at hx
    obtain ⟨rfl, -⟩ := hx
    simp only [if_true] at hz
    have hlen : ((zs.take len).map Int.toNat).length = len := by simp; omega
    have hbulk : len ≤ Rows.uptoBulk (DataW.slice (lits .u8 (zs.take len)) (lits .u8 (zs.drop len)) : DataW H) := by
      have h1 := bulk_len (lits .u8 (zs.take len) : List (DataW H))
      have h2 : (lits .u8 (zs.take len) : List (DataW H)).length = len := by simp [lits]; omega
      simp only [Rows.uptoBulk]
      omega
    by_cases h0 : len = 0
    · subst h0
      exact ⟨[], .inr (.inr ⟨a, cap, rfl, rfl⟩), (fun _ h => by cases h), fun _ _ _ e => by cases e; exact Nat.zero_le _, .inl rfl, Nat.zero_le _⟩
    · obtain ⟨b, off, rfl, hc⟩ := ints_at hcell (show 0 < zs.length by omega)
      have hw : ∀ j, j < zs.length → 0 ≤ zs.getD j 0 ∧ zs.getD j 0 < 256 := fun j hj => by
        have := bounds_u8 (hwz (zs.getD j 0) (by simp [List.getD, hj]))
        omega
      refine ⟨(zs.take len).map Int.toNat, .inr (.inl ⟨b, off, cap, by rw [hlen], fun j v hv => ?_⟩), fun u hu => ?_, fun _ _ _ e => by cases e; omega, .inr fun g o n c e => ?_, by rw [hlen]; exact hbulk⟩
      · have hj : j < len := by
          have := (List.getElem?_eq_some_iff.1 hv).1
          simp [cellsOf] at this; omega
        rw [hc j (by omega)]
        have hw := hw j (by omega)
        rw [← hv]
        simp [cellsOf, B, hj, show j < zs.length by omega] at hw ⊢
        omega
      · obtain ⟨z, hz1, rfl⟩ := List.mem_map.1 hu
        obtain ⟨j, hj, rfl⟩ := List.getElem_of_mem (List.mem_of_mem_take hz1)
        have := hw j hj
        rw [List.getD, List.getElem?_eq_getElem hj, Option.getD_some] at this
        omega
      · simp only [Value.slice.injEq, Option.some.injEq, Addr.mk.injEq] at e
        have := lt_of_cell (hc 0 (by omega))
        rw [← e.1.1]
        exact this
/-- A slice of slices of bytes that came in. -/
theorem pcs_of_form {H : Type} {enc : TypeId × Value → H} {W : World} {v : Value} {d : DataW H} {p : List MemPlace} (hform : ∃ a len cap, v = .slice a len cap) (h : DataW.Trod enc Tryd.prog W 0 (fun _ => true) true 40 v d p) :
    ∃ vs ps, Pcs W v vs ps ∧ (∀ q ∈ ps, q.length ≤ Rows.uptoBulk d) ∧ ps.length ≤ Rows.uptoBulk d := by
  obtain ⟨a0, len0, cap0, rfl⟩ := hform
  obtain ⟨fuel, hf⟩ := h
  rcases open_slice1 Tryd.underlying40 Tryd.cellsB hf with ⟨hcs, hx⟩ | ⟨a, len, cap, m, n, V, D, Pl, hcs, _, hl, hm, hmm, hx, hel⟩
  · simp [Value.cells] at hcs
    obtain ⟨rfl, rfl, rfl⟩ := hcs
    exact ⟨[], [], ⟨rfl, .inl ⟨rfl, rfl⟩, (fun _ _ _ h => by simp at h), (fun _ h => by cases h)⟩, (fun _ h => by cases h), Nat.zero_le _⟩
  · simp [Value.cells] at hcs
    obtain ⟨rfl, rfl, rfl⟩ := hcs
    simp only [Prod.mk.injEq] at hx
    obtain ⟨rfl, -⟩ := hx
    simp only [if_true] at hmm
    subst hmm
    have hp : ∀ i, ∃ l : List Nat, i < m → (Src W (V i) l ∧ (∀ u ∈ l, u < 256) ∧ (∀ ao n c, V i = .slice ao n c → n ≤ c) ∧ (l = [] ∨ ∀ g o n c, V i = .slice (some ⟨g, o, none⟩) n c → g < W.heap.size) ∧ l.length ≤ Rows.uptoBulk (D i)) := fun i => by
      by_cases hi : i < m
      · obtain ⟨l, hh⟩ := src_of_trod (hel i hi).2
        exact ⟨l, fun _ => hh⟩
      · exact ⟨[], fun h => absurd h hi⟩
    obtain ⟨L, hL⟩ : ∃ L : Nat → List Nat, ∀ i, i < m → (Src W (V i) (L i) ∧ (∀ u ∈ L i, u < 256) ∧ (∀ ao n c, V i = .slice ao n c → n ≤ c) ∧ (L i = [] ∨ ∀ g o n c, V i = .slice (some ⟨g, o, none⟩) n c → g < W.heap.size) ∧ (L i).length ≤ Rows.uptoBulk (D i)) := ⟨fun i => Classical.choose (hp i), fun i => Classical.choose_spec (hp i)⟩
    have hd : Rows.uptoBulkAll ((List.range len0).map D) ≤ Rows.uptoBulk (DataW.slice ((List.range len0).map D) ((List.range (m - len0)).map fun j => D (len0 + j)) : DataW H) := by
      simp only [Rows.uptoBulk]; omega
    refine ⟨(List.range len0).map V, (List.range len0).map L, ⟨by simp, ?_, fun j v q hv hq => ?_, fun q hq => ?_⟩, fun q hq => ?_, ?_⟩
    · by_cases h0 : len0 = 0
      · subst h0
        exact .inr (.inl ⟨a, m, rfl, rfl⟩)
      · have hc0 := (hel 0 (by omega)).1
        obtain ⟨g, o, sp⟩ := a
        have hsp : sp = none := by simpa [Addr.add] using World.cell?_spot hc0
        subst hsp
        have ad : ∀ i, (⟨g, o, none⟩ : Addr).add i = ⟨g, o + i, none⟩ := fun i => by unfold Addr.add; split <;> simp_all
        refine .inr (.inr ⟨g, o, m, by simp, lt_of_cell (by rw [ad] at hc0; exact hc0), fun j v hv => ?_⟩)
        have hj : j < len0 := by
          have := (List.getElem?_eq_some_iff.1 hv).1
          simpa using this
        rw [← ad, (hel j (by omega)).1, ← hv]
        simp [hj]
    · have hj : j < len0 := by
        have := (List.getElem?_eq_some_iff.1 hv).1
        simpa using this
      simp [hj] at hv hq
      subst hv hq
      have := hL j (by omega)
      exact ⟨this.1, this.2.2.1, this.2.2.2.1⟩
    · obtain ⟨i, hi, rfl⟩ := List.mem_map.1 hq
      exact (hL i (by have := List.mem_range.1 hi; omega)).2.1
    · obtain ⟨i, hi, rfl⟩ := List.mem_map.1 hq
      have h1 := (hL i (by have := List.mem_range.1 hi; omega)).2.2.2.2
      have h2 := bulk_in ((List.range len0).map D) (D i) (List.mem_map.2 ⟨i, hi, rfl⟩)
      omega
    · have := bulk_len ((List.range len0).map D)
      simp at this ⊢
      omega
theorem pcs_of_reading {H : Type} {enc : TypeId × Value → H} {W : World} {base : Nat} {v : Value} {d : DataW H} {p : List MemPlace} (hval : Value.okWide Tryd.prog W .any base 40 v) (h : DataW.Trod enc Tryd.prog W 0 (fun _ => true) true 40 v d p) :
    ∃ vs ps, Pcs W v vs ps ∧ (∀ q ∈ ps, q.length ≤ Rows.uptoBulk d) ∧ ps.length ≤ Rows.uptoBulk d := pcs_of_form (okWide_slice Tryd.underlying40 hval) h
end Go.Proofs.YtjokmlnghpnlbaaDoor

namespace Go.Proofs.YtjokmlnghpnlbaaDoor
open Go.ChangeShapes Go.WideShapes Go.ChangeAt Go.RowKit
set_option maxRecDepth 100000

/-- What a listed array of words gives a walk: its cells. -/
theorem words_cells64 {W : World} {laid : List (String × DataW Unit)} (hL : laidMet Tryd.prog laid W) {nm : String} {zs : List Int} (hm : (nm, DataW.agg (zs.map fun z => .lit (.int .u64 z))) ∈ laid) {g t n : Nat} (hg : Tryd.prog.globalNamed nm = some g) (hty : (Tryd.prog.globals[g]?).map (·.type) = some t)
    (hu : Tryd.prog.underlying t = some (.array n 72)) (hc : Tryd.prog.cellsOf 72 = 1) (j : Nat) (z : Int) (hz : zs[j]? = some z) : W.cell? ⟨g, j, none⟩ = some (.int .u64 z) := by
  obtain ⟨ps, hv, _, _⟩ := hL
  obtain ⟨g', t', cs, fuel, p, a1, a2, a3, a4, _⟩ := laid_in hv hm
  obtain rfl := Option.some.inj (hg.symm.trans a1)
  obtain rfl := Option.some.inj (hty.symm.trans a2)
  obtain ⟨xs, m, _, hx, _, hlen, hall⟩ := DataW.trod_array hu a4
  simp only [Prod.mk.injEq, DataW.agg.injEq] at hx
  have hxj := congrArg (fun l => l[j]?) hx.1
  simp only [List.getElem?_map, hz, Option.map_some] at hxj
  rcases hxs : xs[j]? with _ | y
  · rw [hxs] at hxj; cases hxj
  · rw [hxs] at hxj
    have hj : j < n := by rw [← hlen]; exact (List.getElem?_eq_some_iff.1 hxs).1
    have h1 := hall j hj
    rw [hc, hxs, Nat.mul_one] at h1
    obtain ⟨v, e1, e2, _⟩ := DataW.trod_int Tryd.underlying72 h1
    have e3 : y.1 = .lit (.int .u64 v) := by rw [e2]
    simp only [Option.map_some, Option.some.injEq] at hxj
    rw [e3] at hxj
    injection hxj with hxj
    injection hxj with _ hxj
    subst hxj
    have e4 : cs.toList[j]? = some (.int .u64 z) := by
      have : (cs.toList.drop j).head? = some (.int .u64 z) := by
        rcases hd : cs.toList.drop j with _ | ⟨a, r⟩
        · rw [hd] at e1; cases e1
        · rw [hd] at e1; simp at e1; rw [e1]; rfl
      rw [List.head?_drop] at this
      exact this
    rw [World.var?_cell hg a3 j]
    simpa using e4
theorem laid_K : (Rows.laid_almoner_almonerref2_K : DataW Unit) = .agg (kz.map fun z => .lit (.int .u64 z)) := by kernel_rfl
theorem laid_B : (Rows.laid_almoner_almonerref2_Begin : DataW Unit) = .agg (sz.map fun z => .lit (.int .u64 z)) := by kernel_rfl
theorem Tryd.cellsU64 : Tryd.prog.cellsOf 72 = 1 := by kernel_rfl
theorem gr_of_laid {W : World} {laid : List (String × DataW Unit)} (hL : laidMet Tryd.prog laid W) (h1 : ("almoner/almonerref2.Begin", Rows.laid_almoner_almonerref2_Begin) ∈ laid) (h2 : ("almoner/almonerref2.K", Rows.laid_almoner_almonerref2_K) ∈ laid) (hw : 6 ≤ W.heap.size) : GR W := by
  rw [laid_B] at h1
  rw [laid_K] at h2
  refine ⟨fun j hj => ?_, fun j hj => ?_, hw⟩
  · refine words_cells64 hL h2 (g := 1) (t := 108) (by kernel_rfl) (by kernel_rfl) Tryd.underlying108 Tryd.cellsU64 j _ ?_
    have hk : j < kt.length := hj
    rw [kz, List.getElem?_map, List.getElem?_eq_getElem hk, Option.map_some, kf, List.getD, List.getElem?_eq_getElem hk, Option.getD_some]
  · refine words_cells64 hL h1 (g := 0) (t := 73) (by kernel_rfl) (by kernel_rfl) Tryd.underlying73 Tryd.cellsU64 j _ ?_
    have hk : j < st0.vals.length := hj
    rw [sz, List.getElem?_map, List.getElem?_eq_getElem hk, Option.map_some]
    simp only [List.getD, List.getElem?_eq_getElem hk, Option.getD_some]
/-- A world for a witness: the settled one, the four variables holding their words. -/
noncomputable def shaWorld4 (os : Os) : World :=
  let w0 := World.holding Tryd.prog os ⟨#[], #[], []⟩
  { w0 with heap := ((((w0.heap.modify 2 fun
      | .cells _ t frozen => .cells st0.cells.toArray t frozen
      | o => o).modify 3 fun
      | .cells _ t frozen => .cells (V32 kt).toArray t frozen
      | o => o).modify 0 fun
      | .cells _ t frozen => .cells (V64 st0.vals).toArray t frozen
      | o => o).modify 1 fun
      | .cells _ t frozen => .cells (V64 kt).toArray t frozen
      | o => o) }
abbrev laid4 : List (String × DataW Unit) := [("almoner/almonerref2.K", Rows.laid_almoner_almonerref2_K), ("almoner/almonerref2.Begin", Rows.laid_almoner_almonerref2_Begin), ("almoner/sha.start", Rows.laid_almoner_sha_start), ("almoner/sha.k", Rows.laid_almoner_sha_k)]
theorem g4_of_laid {W : World} (hL : laidMet Tryd.prog laid4 W) (hw : 6 ≤ W.heap.size) : GS W ∧ GR W :=
  ⟨gs_of_laid hL (.tail _ (.tail _ (.head _))) (.tail _ (.tail _ (.tail _ (.head _)))) hw, gr_of_laid hL (.tail _ (.head _)) (.head _) hw⟩
end Go.Proofs.YtjokmlnghpnlbaaDoor

namespace Go.Proofs.YtjokmlnghpnlbaaDoor

theorem sm_wid (wi : Nat) (h1 : 1 ≤ wi) (h2 : wi ≤ 32) (m : List Nat) : (sm (wi : Int) m).length = wi := by
  have := sm_len (i := (wi : Int)) (m := m) ⟨by omega, by omega⟩
  simpa using this
theorem nd_len (wi : Nat) (h1 : 1 ≤ wi) (h2 : wi ≤ 32) (a b : List Nat) : (nd (wi : Int) a b).length = wi := sm_wid wi h1 h2 _
theorem lf_len (wi : Nat) (h1 : 1 ≤ wi) (h2 : wi ≤ 32) (a : List Nat) : (lf (wi : Int) a).length = wi := sm_wid wi h1 h2 _
/-- The entries from f on, n of them. -/
def blk (L : List (List Nat)) (f n : Nat) : List (List Nat) := (L.drop f).take n
/-- The first c roots of 2^h entries each, one behind the other. -/
def rowOf (wi : Nat) (L : List (List Nat)) (h c : Nat) : List Nat := ((List.range c).map fun j => mth wi (blk L (j * 2 ^ h) (2 ^ h))).flatten
theorem blk_len (L : List (List Nat)) (f n : Nat) (h : f + n ≤ L.length) : (blk L f n).length = n := by rw [blk, List.length_take, List.length_drop]; omega
theorem blk_app (L M : List (List Nat)) (f n : Nat) (h : f + n ≤ L.length) : blk (L ++ M) f n = blk L f n := by
  rw [blk, blk, List.drop_append_of_le_length (by omega), List.take_append_of_le_length (by rw [List.length_drop]; omega)]
theorem blk_take (L : List (List Nat)) (f n k : Nat) (h : k ≤ n) : (blk L f n).take k = blk L f k := by
  rw [blk, blk, List.take_take, Nat.min_eq_left h]
theorem blk_drop (L : List (List Nat)) (f n k : Nat) : (blk L f n).drop k = blk L (f + k) (n - k) := by
  rw [blk, blk, List.drop_take, List.drop_drop]
theorem blk_mem (L : List (List Nat)) (f n : Nat) : ∀ p ∈ blk L f n, p ∈ L := fun _ h => List.mem_of_mem_drop (List.mem_of_mem_take h)
theorem blk_all (L : List (List Nat)) : blk L 0 L.length = L := by rw [blk, List.drop_zero, List.take_length]
theorem mth_wid (wi : Nat) (h1 : 1 ≤ wi) (h2 : wi ≤ 32) (ps : List (List Nat)) (h : ∀ p ∈ ps, p.length = wi) : (mth wi ps).length = wi := by
  by_cases h3 : ps.length < 2
  · match ps, h3 with
    | [], _ => rw [mth_nil]; exact sm_wid wi h1 h2 _
    | [p], _ => rw [mth_one]; exact h p (by simp)
  · rw [mth_two _ _ (by omega)]; exact nd_len wi h1 h2 _ _
theorem rowOf_succ (wi : Nat) (L : List (List Nat)) (h c : Nat) : rowOf wi L h (c + 1) = rowOf wi L h c ++ mth wi (blk L (c * 2 ^ h) (2 ^ h)) := by
  rw [rowOf, List.range_succ, List.map_append, List.flatten_append, rowOf]; simp
theorem rowOf_len (wi : Nat) (h1 : 1 ≤ wi) (h2 : wi ≤ 32) (L : List (List Nat)) (hL : ∀ p ∈ L, p.length = wi) (h c : Nat) : (rowOf wi L h c).length = c * wi := by
  induction c with
  | zero => simp [rowOf]
  | succ c ih => rw [rowOf_succ, List.length_append, ih, mth_wid wi h1 h2 _ (fun p hp => hL p (blk_mem _ _ _ p hp)), Nat.succ_mul]
theorem rowOf_app (wi : Nat) (L M : List (List Nat)) (h c : Nat) (hc : c * 2 ^ h ≤ L.length) : rowOf wi (L ++ M) h c = rowOf wi L h c := by
  induction c with
  | zero => rfl
  | succ c ih =>
    have : (c + 1) * 2 ^ h = c * 2 ^ h + 2 ^ h := Nat.succ_mul _ _
    have hp : 0 < 2 ^ h := Nat.pow_pos (by decide)
    rw [rowOf_succ, rowOf_succ, ih (by omega), blk_app _ _ _ _ (by omega)]
theorem rwt_row (wi : Nat) (h1 : 1 ≤ wi) (h2 : wi ≤ 32) (L : List (List Nat)) (hL : ∀ p ∈ L, p.length = wi) (h c j : Nat) (hj : j < c) : rwt wi (rowOf wi L h c) j = mth wi (blk L (j * 2 ^ h) (2 ^ h)) := by
  induction c with
  | zero => omega
  | succ c ih =>
    have hw := mth_wid wi h1 h2 (blk L (c * 2 ^ h) (2 ^ h)) (fun p hp => hL p (blk_mem _ _ _ p hp))
    have hl := rowOf_len wi h1 h2 L hL h c
    rw [rowOf_succ, rwt]
    by_cases e : j = c
    · subst e
      rw [List.drop_append, hl, Nat.sub_self, List.drop_zero, List.drop_of_length_le (by omega), List.nil_append, List.take_of_length_le (by omega)]
    · have hjc : j < c := by omega
      have : (j + 1) * wi ≤ c * wi := Nat.mul_le_mul_right _ (by omega)
      have e1 : (j + 1) * wi = j * wi + wi := Nat.succ_mul _ _
      rw [List.drop_append_of_le_length (by omega), List.take_append_of_le_length (by rw [List.length_drop]; omega)]
      exact ih hjc
theorem mth_dbl (wi : Nat) (L : List (List Nat)) (f h : Nat) (hf' : f + 2 ^ (h + 1) ≤ L.length) : mth wi (blk L f (2 ^ (h + 1))) = nd wi (mth wi (blk L f (2 ^ h))) (mth wi (blk L (f + 2 ^ h) (2 ^ h))) := by
  have hp : 0 < 2 ^ h := Nat.pow_pos (by decide)
  have e : 2 ^ (h + 1) = 2 * 2 ^ h := by rw [Nat.pow_succ, Nat.mul_comm]
  have hl := blk_len L f (2 ^ (h + 1)) hf'
  rw [mth_two _ _ (by omega), hl, hf_uniq (2 ^ (h + 1)) h (by omega) (by omega), blk_take _ _ _ _ (by omega), blk_drop, e, show 2 * 2 ^ h - 2 ^ h = 2 ^ h by omega]
/-- The rows of a tree of leaves, from the height h on. -/
structure RowsOf (wi : Nat) (L : List (List Nat)) (h : Nat) (rs : List (List Nat)) : Prop where
  row : ∀ k, k < rs.length → rs[k]? = some (rowOf wi L (h + k) (L.length / 2 ^ (h + k)))
  all : L.length < 2 ^ (h + rs.length)
  few : rs = [] ∨ 2 ^ (h + rs.length) ≤ 2 * L.length
theorem div_dvd_succ (n d : Nat) (hd : 0 < d) (h : d ∣ n + 1) : (n + 1) / d = n / d + 1 := by
  obtain ⟨q, hq⟩ := h
  have hq0 : 0 < q := by
    rcases Nat.eq_zero_or_pos q with e | e
    · subst e; omega
    · exact e
  have e1 : (n + 1) / d = q := by rw [hq]; exact Nat.mul_div_cancel_left _ hd
  have e2 : n / d = q - 1 := by
    have e3 : d * q = d * (q - 1) + d := by
      have : q = (q - 1) + 1 := by omega
      conv => lhs; rw [this, Nat.mul_add, Nat.mul_one]
    have e4 : n = d * (q - 1) + (d - 1) := by omega
    rw [e4, Nat.mul_add_div hd, Nat.div_eq_of_lt (by omega), Nat.add_zero]
  omega
theorem div_ndvd_succ (n d : Nat) (h : ¬ d ∣ n + 1) : (n + 1) / d = n / d := by
  rw [Nat.succ_div, if_neg h]; rfl
theorem kpb_rows (wi : Nat) (h1 : 1 ≤ wi) (h2 : wi ≤ 32) (L : List (List Nat)) (r0 : List Nat) (hL : ∀ p ∈ L ++ [r0], p.length = wi) : ∀ (rs : List (List Nat)) (h : Nat) (r : List Nat), RowsOf wi L h rs → 2 ^ h ∣ L.length + 1 → r = mth wi (blk (L ++ [r0]) (L.length + 1 - 2 ^ h) (2 ^ h)) → RowsOf wi (L ++ [r0]) h (kpb wi rs r) := by
  have hl' : (L ++ [r0]).length = L.length + 1 := by simp
  intro rs
  induction rs with
  | nil =>
    intro h r hR hd hr
    have hle : 2 ^ h ≤ L.length + 1 := Nat.le_of_dvd (by omega) hd
    have hall := hR.all
    have e : L.length + 1 = 2 ^ h := by simp at hall; omega
    have e2 : 2 ^ (h + 1) = 2 * 2 ^ h := by rw [Nat.pow_succ, Nat.mul_comm]
    rw [kpb]
    refine ⟨fun k hk => ?_, by rw [hl', List.length_singleton]; omega, .inr (by rw [hl', List.length_singleton]; omega)⟩
    have hk0 : k = 0 := by simp at hk; omega
    subst hk0
    have hp : 0 < 2 ^ h := Nat.pow_pos (by decide)
    rw [Nat.add_zero, hl', e, Nat.div_self hp, rowOf_succ, hr, e, Nat.sub_self]
    simp [rowOf]
  | cons row rest ih =>
    intro h r hR hd hr
    have hp : 0 < 2 ^ h := Nat.pow_pos (by decide)
    have e2 : 2 ^ (h + 1) = 2 * 2 ^ h := by rw [Nat.pow_succ, Nat.mul_comm]
    have hrow : row = rowOf wi L h (L.length / 2 ^ h) := by
      have := hR.row 0 (by simp)
      simpa using this
    have hdv := div_dvd_succ L.length (2 ^ h) hp hd
    obtain ⟨q, hq⟩ := hd
    have hq1 : (L.length + 1) / 2 ^ h = q := by rw [hq]; exact Nat.mul_div_cancel_left _ hp
    have hq0 : 1 ≤ q := by rw [← hq1, hdv]; exact Nat.le_add_left _ _
    have hqn : L.length / 2 ^ h = q - 1 := by rw [← hq1, hdv]; rfl
    have e3 : (q - 1) * 2 ^ h + 2 ^ h = L.length + 1 := by
      have : (q - 1) * 2 ^ h + 2 ^ h = ((q - 1) + 1) * 2 ^ h := (Nat.succ_mul _ _).symm
      rw [this, show q - 1 + 1 = q by omega, hq, Nat.mul_comm]
    have hrr : row ++ r = rowOf wi (L ++ [r0]) h q := by
      conv => rhs; rw [show q = (q - 1) + 1 by omega, rowOf_succ]
      rw [rowOf_app _ _ _ _ _ (by omega), hrow, hqn, hr]
      congr 3
      omega
    have hlen : (row ++ r).length / wi = q := by
      rw [hrr, rowOf_len wi h1 h2 _ hL]; exact Nat.mul_div_cancel _ h1
    rw [kpb, hlen]
    by_cases hc : q % 2 = 0
    · rw [if_pos hc]
      have hd2 : 2 ^ (h + 1) ∣ L.length + 1 := ⟨q / 2, by
        rw [hq, e2, Nat.mul_comm 2, Nat.mul_assoc]
        congr 1
        omega⟩
      have hle2 : 2 ^ (h + 1) ≤ L.length + 1 := Nat.le_of_dvd (by omega) hd2
      have hq2 : 2 ≤ q := by omega
      have e4 : (q - 2) * 2 ^ h + 2 ^ h = (q - 1) * 2 ^ h := by rw [← Nat.succ_mul]; congr 1; omega
      have hr' : nd wi (rwt wi (row ++ r) (q - 2)) (rwt wi (row ++ r) (q - 1)) = mth wi (blk (L ++ [r0]) (L.length + 1 - 2 ^ (h + 1)) (2 ^ (h + 1))) := by
        rw [hrr, rwt_row wi h1 h2 _ hL _ _ _ (by omega), rwt_row wi h1 h2 _ hL _ _ _ (by omega), mth_dbl wi _ _ h (by rw [hl']; omega)]
        congr 3 <;> omega
      have hI := ih (h + 1) _ ⟨fun k hk => by
          have := hR.row (k + 1) (by simp; omega)
          rw [List.getElem?_cons_succ] at this
          rw [this, show h + (k + 1) = h + 1 + k by omega], by
          have := hR.all
          rw [List.length_cons, show h + (rest.length + 1) = h + 1 + rest.length by omega] at this
          exact this, by
          rcases hR.few with e | e
          · cases e
          · right
            rw [List.length_cons, show h + (rest.length + 1) = h + 1 + rest.length by omega] at e
            exact e⟩ hd2 hr'
      refine ⟨fun k hk => ?_, ?_, .inr ?_⟩
      · match k with
        | 0 => rw [List.getElem?_cons_zero, hrr, Nat.add_zero, hl', hq1]
        | k + 1 =>
          rw [List.getElem?_cons_succ, hI.row k (by simp at hk; omega), show h + (k + 1) = h + 1 + k by omega]
      · have := hI.all
        rw [List.length_cons, show h + ((kpb wi rest (nd wi (rwt wi (row ++ r) (q - 2)) (rwt wi (row ++ r) (q - 1)))).length + 1) = h + 1 + (kpb wi rest (nd wi (rwt wi (row ++ r) (q - 2)) (rwt wi (row ++ r) (q - 1)))).length by omega]
        exact this
      · rcases hI.few with e | e
        · exfalso
          cases rest <;> (rw [kpb] at e; try split at e) <;> cases e
        · rw [List.length_cons, show h + ((kpb wi rest (nd wi (rwt wi (row ++ r) (q - 2)) (rwt wi (row ++ r) (q - 1)))).length + 1) = h + 1 + (kpb wi rest (nd wi (rwt wi (row ++ r) (q - 2)) (rwt wi (row ++ r) (q - 1)))).length by omega]
          exact e
    · rw [if_neg hc]
      have hnd : ∀ k, ¬ 2 ^ (h + (k + 1)) ∣ L.length + 1 := fun k hk => by
        have h3 : 2 ^ (h + 1) ∣ L.length + 1 := Nat.dvd_trans (Nat.pow_dvd_pow 2 (by omega)) hk
        obtain ⟨z, hz⟩ := h3
        have : 2 ^ h * q = 2 ^ h * (2 * z) := by rw [← hq, hz, e2, Nat.mul_comm 2, Nat.mul_assoc]
        have := Nat.eq_of_mul_eq_mul_left hp this
        omega
      refine ⟨fun k hk => ?_, ?_, .inr ?_⟩
      · match k with
        | 0 => rw [List.getElem?_cons_zero, hrr, Nat.add_zero, hl', hq1]
        | k + 1 =>
          have := hR.row (k + 1) (by simpa using hk)
          rw [List.getElem?_cons_succ] at this ⊢
          rw [this, hl', div_ndvd_succ _ _ (hnd k), rowOf_app _ _ _ _ _ (Nat.div_mul_le_self _ _)]
      · have h3 := hR.all
        have h4 := hnd rest.length
        rw [hl', List.length_cons]
        rw [List.length_cons] at h3
        rcases Nat.lt_or_ge (L.length + 1) (2 ^ (h + (rest.length + 1))) with h5 | h5
        · exact h5
        · exfalso
          apply h4
          rw [show L.length + 1 = 2 ^ (h + (rest.length + 1)) by omega]
          exact Nat.dvd_refl _
      · rcases hR.few with e | e
        · cases e
        · rw [hl']; simp only [List.length_cons] at e ⊢; omega
theorem rows_nil (wi : Nat) : RowsOf wi [] 0 [] := ⟨fun k hk => by simp at hk, by simp, .inl rfl⟩
/-- A row of a tree's. -/
theorem RowsOf.at_ {wi : Nat} {L rs : List (List Nat)} (h : RowsOf wi L 0 rs) (k : Nat) (hk : 2 ^ k ≤ L.length) : k < rs.length ∧ rs[k]? = some (rowOf wi L k (L.length / 2 ^ k)) := by
  have h1 := h.all
  have h2 : k < rs.length := by
    apply Classical.byContradiction
    intro hc
    have : 2 ^ (0 + rs.length) ≤ 2 ^ k := Nat.pow_le_pow_right (by decide) (by omega)
    omega
  refine ⟨h2, ?_⟩
  have := h.row k h2
  rwa [Nat.zero_add] at this
theorem blk_halves (L : List (List Nat)) (f n : Nat) (h2 : 2 ≤ n) (hl : f + n ≤ L.length) (wi : Nat) : mth wi (blk L f n) = nd wi (mth wi (blk L f (hf n))) (mth wi (blk L (f + hf n) (n - hf n))) := by
  have hlen := blk_len L f n hl
  have := hf_lt n h2
  rw [mth_two _ _ (by omega), hlen, blk_take _ _ _ _ (by omega), blk_drop]
/-- The roots of the halves left aside on the way from a part down to another. -/
def bes (wi : Nat) (L : List (List Nat)) (f n tf tn : Nat) : List (List Nat) :=
  if _h : (f = tf ∧ n = tn) ∨ n < 2 then []
  else if tf < f + hf n then bes wi L f (hf n) tf tn ++ [mth wi (blk L (f + hf n) (n - hf n))]
  else bes wi L (f + hf n) (n - hf n) tf tn ++ [mth wi (blk L f (hf n))]
termination_by n
decreasing_by
  · exact hf_lt n (by omega)
  · have := hf_pos n; omega
/-- Is a part found by halving another? -/
def Rch (f n tf tn : Nat) : Prop :=
  if _e : f = tf ∧ n = tn then True
  else if _h : n < 2 then False
  else if tf < f + hf n then Rch f (hf n) tf tn
  else Rch (f + hf n) (n - hf n) tf tn
termination_by n
decreasing_by
  · exact hf_lt n (by omega)
  · have := hf_pos n; omega
/-- How many halvings lead to it. -/
def dep (f n tf tn : Nat) : Nat :=
  if _h : (f = tf ∧ n = tn) ∨ n < 2 then 0
  else if tf < f + hf n then dep f (hf n) tf tn + 1
  else dep (f + hf n) (n - hf n) tf tn + 1
termination_by n
decreasing_by
  · exact hf_lt n (by omega)
  · have := hf_pos n; omega
/-- The root of a part as it comes out of another's root and the halves aside. -/
def topv (wi : Nat) (r : List Nat) (f n tf tn : Nat) (path : List (List Nat)) : List Nat :=
  if _h : (f = tf ∧ n = tn) ∨ n < 2 then r
  else if tf < f + hf n then nd wi (topv wi r f (hf n) tf tn path.dropLast) (path.getLastD [])
  else nd wi (path.getLastD []) (topv wi r (f + hf n) (n - hf n) tf tn path.dropLast)
termination_by n
decreasing_by
  · exact hf_lt n (by omega)
  · have := hf_pos n; omega
theorem bes_eq (wi : Nat) (L : List (List Nat)) (f n : Nat) : bes wi L f n f n = [] := by rw [bes, dif_pos (.inl ⟨rfl, rfl⟩)]
theorem bes_l {wi : Nat} {L : List (List Nat)} {f n tf tn : Nat} (h2 : 2 ≤ n) (hne : ¬ (f = tf ∧ n = tn)) (hlt : tf < f + hf n) : bes wi L f n tf tn = bes wi L f (hf n) tf tn ++ [mth wi (blk L (f + hf n) (n - hf n))] := by
  conv => lhs; rw [bes, dif_neg (by omega), if_pos hlt]
theorem bes_r {wi : Nat} {L : List (List Nat)} {f n tf tn : Nat} (h2 : 2 ≤ n) (hne : ¬ (f = tf ∧ n = tn)) (hlt : ¬ tf < f + hf n) : bes wi L f n tf tn = bes wi L (f + hf n) (n - hf n) tf tn ++ [mth wi (blk L f (hf n))] := by
  conv => lhs; rw [bes, dif_neg (by omega), if_neg hlt]
theorem rch_ne {f n tf tn : Nat} (h : Rch f n tf tn) (hne : ¬ (f = tf ∧ n = tn)) : 2 ≤ n ∧ (tf < f + hf n → Rch f (hf n) tf tn) ∧ (¬ tf < f + hf n → Rch (f + hf n) (n - hf n) tf tn) := by
  rw [Rch, dif_neg hne] at h
  by_cases h2 : n < 2
  · rw [dif_pos h2] at h; exact h.elim
  · rw [dif_neg h2] at h
    refine ⟨by omega, fun hl => by rwa [if_pos hl] at h, fun hl => by rwa [if_neg hl] at h⟩
theorem rch_refl (f n : Nat) : Rch f n f n := by rw [Rch, dif_pos ⟨rfl, rfl⟩]; trivial
theorem rch_one (m : Nat) : ∀ f n i, n ≤ m → f ≤ i → i < f + n → Rch f n i 1 := by
  induction m with
  | zero => intro f n i h1 h2 h3; omega
  | succ m ih =>
    intro f n i h1 h2 h3
    by_cases e : f = i ∧ n = 1
    · rw [Rch, dif_pos e]; trivial
    · have hlt := hf_lt n (by omega)
      have hp := hf_pos n
      rw [Rch, dif_neg e, dif_neg (by omega)]
      split
      · exact ih _ _ _ (by omega) h2 (by omega)
      · exact ih _ _ _ (by omega) (by omega) (by omega)
theorem dep_eq (f n : Nat) : dep f n f n = 0 := by rw [dep, dif_pos (.inl ⟨rfl, rfl⟩)]
theorem dep_l {f n tf tn : Nat} (h2 : 2 ≤ n) (hne : ¬ (f = tf ∧ n = tn)) (hlt : tf < f + hf n) : dep f n tf tn = dep f (hf n) tf tn + 1 := by
  conv => lhs; rw [dep, dif_neg (by omega), if_pos hlt]
theorem dep_r {f n tf tn : Nat} (h2 : 2 ≤ n) (hne : ¬ (f = tf ∧ n = tn)) (hlt : ¬ tf < f + hf n) : dep f n tf tn = dep (f + hf n) (n - hf n) tf tn + 1 := by
  conv => lhs; rw [dep, dif_neg (by omega), if_neg hlt]
theorem bes_len (wi : Nat) (L : List (List Nat)) (m : Nat) : ∀ f n tf tn, n ≤ m → (bes wi L f n tf tn).length = dep f n tf tn := by
  induction m with
  | zero => intro f n tf tn h; rw [bes, dep, dif_pos (by omega), dif_pos (by omega)]; rfl
  | succ m ih =>
    intro f n tf tn h
    by_cases e : (f = tf ∧ n = tn) ∨ n < 2
    · rw [bes, dep, dif_pos e, dif_pos e]; rfl
    · have hlt := hf_lt n (by omega)
      have hp := hf_pos n
      by_cases hl : tf < f + hf n
      · rw [bes_l (by omega) (by omega) hl, dep_l (by omega) (by omega) hl, List.length_append, ih _ _ _ _ (by omega)]; rfl
      · rw [bes_r (by omega) (by omega) hl, dep_r (by omega) (by omega) hl, List.length_append, ih _ _ _ _ (by omega)]; rfl
theorem topv_eq (wi : Nat) (r : List Nat) (f n : Nat) (p : List (List Nat)) : topv wi r f n f n p = r := by rw [topv, dif_pos (.inl ⟨rfl, rfl⟩)]
theorem topv_l {wi : Nat} {r : List Nat} {f n tf tn : Nat} {p : List (List Nat)} (h2 : 2 ≤ n) (hne : ¬ (f = tf ∧ n = tn)) (hlt : tf < f + hf n) : topv wi r f n tf tn p = nd wi (topv wi r f (hf n) tf tn p.dropLast) (p.getLastD []) := by
  conv => lhs; rw [topv, dif_neg (by omega), if_pos hlt]
theorem topv_r {wi : Nat} {r : List Nat} {f n tf tn : Nat} {p : List (List Nat)} (h2 : 2 ≤ n) (hne : ¬ (f = tf ∧ n = tn)) (hlt : ¬ tf < f + hf n) : topv wi r f n tf tn p = nd wi (p.getLastD []) (topv wi r (f + hf n) (n - hf n) tf tn p.dropLast) := by
  conv => lhs; rw [topv, dif_neg (by omega), if_neg hlt]
/-- What is told is taken. -/
theorem topv_bes (wi : Nat) (L : List (List Nat)) (m : Nat) : ∀ f n tf tn, n ≤ m → f + n ≤ L.length → Rch f n tf tn → topv wi (mth wi (blk L tf tn)) f n tf tn (bes wi L f n tf tn) = mth wi (blk L f n) := by
  induction m with
  | zero =>
    intro f n tf tn h _ hr
    by_cases e : f = tf ∧ n = tn
    · rw [e.1, e.2, topv_eq]
    · have := (rch_ne hr e).1; omega
  | succ m ih =>
    intro f n tf tn h hL hr
    by_cases e : f = tf ∧ n = tn
    · rw [e.1, e.2, topv_eq]
    · obtain ⟨h2, r1, r2⟩ := rch_ne hr e
      have hlt := hf_lt n h2
      have hp := hf_pos n
      rw [blk_halves L f n h2 hL]
      by_cases hl : tf < f + hf n
      · rw [topv_l h2 e hl, bes_l h2 e hl]
        simp only [List.dropLast_concat, List.getLastD_concat]
        rw [ih _ _ _ _ (by omega) (by omega) (r1 hl)]
      · rw [topv_r h2 e hl, bes_r h2 e hl]
        simp only [List.dropLast_concat, List.getLastD_concat]
        rw [ih _ _ _ _ (by omega) (by omega) (r2 hl)]
/-- The path of a leaf. -/
def pth (wi : Nat) (ls : List (List Nat)) (i : Nat) : List (List Nat) :=
  if _h : ls.length < 2 then []
  else if i < hf ls.length then pth wi (ls.take (hf ls.length)) i ++ [mth wi (ls.drop (hf ls.length))]
  else pth wi (ls.drop (hf ls.length)) (i - hf ls.length) ++ [mth wi (ls.take (hf ls.length))]
termination_by ls.length
decreasing_by
  · rw [List.length_take]; have := hf_lt ls.length (by omega); omega
  · rw [List.length_drop]; have := hf_pos ls.length; omega
theorem pth_short (wi : Nat) (ls : List (List Nat)) (i : Nat) (h : ls.length < 2) : pth wi ls i = [] := by rw [pth, dif_pos h]
theorem pth_l {wi : Nat} {ls : List (List Nat)} {i : Nat} (h : 2 ≤ ls.length) (hi : i < hf ls.length) : pth wi ls i = pth wi (ls.take (hf ls.length)) i ++ [mth wi (ls.drop (hf ls.length))] := by
  conv => lhs; rw [pth, dif_neg (by omega), if_pos hi]
theorem pth_r {wi : Nat} {ls : List (List Nat)} {i : Nat} (h : 2 ≤ ls.length) (hi : ¬ i < hf ls.length) : pth wi ls i = pth wi (ls.drop (hf ls.length)) (i - hf ls.length) ++ [mth wi (ls.take (hf ls.length))] := by
  conv => lhs; rw [pth, dif_neg (by omega), if_neg hi]
theorem bes_pth (wi : Nat) (L : List (List Nat)) (m : Nat) : ∀ f n i, n ≤ m → f + n ≤ L.length → f ≤ i → i < f + n → bes wi L f n i 1 = pth wi (blk L f n) (i - f) := by
  induction m with
  | zero => intro f n i h _ h1 h2; omega
  | succ m ih =>
    intro f n i h hL h1 h2
    have hlen := blk_len L f n hL
    by_cases e : n < 2
    · have e1 : n = 1 := by omega
      have e2 : f = i := by omega
      rw [pth_short _ _ _ (by omega), e1, e2, bes_eq]
    · have hlt := hf_lt n (by omega)
      have hp := hf_pos n
      by_cases hl : i < f + hf n
      · rw [bes_l (by omega) (by omega) hl, pth_l (by omega) (by rw [hlen]; omega), hlen, blk_take _ _ _ _ (by omega), blk_drop, ih _ _ _ (by omega) (by omega) h1 hl]
      · rw [bes_r (by omega) (by omega) hl, pth_r (by omega) (by rw [hlen]; omega), hlen, blk_take _ _ _ _ (by omega), blk_drop, ih _ _ _ (by omega) (by omega) (by omega) (by omega), Nat.sub_sub]
end Go.Proofs.YtjokmlnghpnlbaaDoor

namespace Go.Proofs.YtjokmlnghpnlbaaDoor
open Go.RowKit

/-- The count of a tree written. -/
theorem TrAt.setN {w : World} {base tb : Nat} {wi : Int} {n : Nat} {xo : Option Addr} {cp : Nat} {vs : List Value} {rs : List (List Nat)} (h : TrAt w base tb wi n xo cp vs rs) (m : Nat) :
    TrAt (w.setCell ⟨tb, 1, none⟩ (.int .i64 (m : Int))) base tb wi m xo cp vs rs := by
  have hne := h.ne
  refine ⟨h.lo, ?_, ownsRow_of_block h.own (fun q hq => heap_setCell_other _ _ _ _ ?_), h.len, fun j v r hv hr => ?_, h.apart, h.byt⟩
  · rw [heap_setCell_same _ _ _ _ _ _ h.obj]; rfl
  · rcases h.own.2 with ⟨e, _⟩ | ⟨g', cap, cur, e, _⟩
    · rw [e] at hq; cases hq
    · rw [e] at hq
      simp only [Value.ownBlock, Option.some.injEq] at hq
      simp only [Value.slice.injEq] at e
      exact hne.1 q 0 (by rw [e.1, hq])
  · obtain ⟨ao, c, e, hO⟩ := h.row j v r hv hr
    exact ⟨ao, c, e, ownsRow_of_block hO (fun q hq => heap_setCell_other _ _ _ _ (hne.2 v (List.mem_of_getElem? hv) q (by rw [e]; exact hq)).1)⟩
set_option maxRecDepth 100000 in
set_option maxHeartbeats 1000000 in
/-- Tree.Add, where the width may be. -/
theorem add_in (wi : Nat) (hw1 : 1 ≤ wi) (hw32 : wi ≤ 32) (base tb n : Nat) (hbase : 6 ≤ base) (w : World) (xo : Option Addr) (cp : Nat) (vs : List Value) (rs : List (List Nat)) (x : Value) (e : List Nat) (hT : TrAt w base tb wi n xo cp vs rs) (hg : GS w)
    (hx : Sl w x e) (he : e.length ≤ 16000000) (hrs : ∀ (j : Nat) row, rs[j]? = some row → (∃ q, row.length = q * wi) ∧ row.length ≤ 1000000000000) (hN : rs.length < 1000) (hn : n < 4611686018427387904) :
    Calls Tryd.prog 37 #[.pointer (some ⟨tb, 0, none⟩), x] w fun e' w' => e' = .returned (.int .i64 n) ∧ ∃ xo' cp' vs', TrAt w' base tb wi (n + 1) xo' cp' vs' (kpb wi rs (lf wi e)) ∧ Fr (TOwn tb xo vs) w w' ∧ ∀ k, TOwn tb xo' vs' k → TOwn tb xo vs k ∨ w.heap.size ≤ k := by
  have hleaf := leaf_any (wi : Int) x e w hg hx he
  have hll := lf_len wi hw1 hw32 e
  rw [hll] at hleaf
  have hkeep : ∀ w' yo, OB w w' yo wi (lf wi e) → Calls Tryd.prog 64 #[.pointer (some ⟨tb, 0, none⟩), .int .i64 0, .slice yo wi wi] w' fun e' w'' => e' = .returned (.tuple #[]) ∧ ∃ xo' cp' vs', TrAt w'' base tb wi n xo' cp' vs' (kpb wi rs (lf wi e)) ∧ Fr (TOwn tb xo vs) w w'' ∧ ∀ k, TOwn tb xo' vs' k → TOwn tb xo vs k ∨ w.heap.size ≤ k := fun w' yo hO => by
    have hT' := hT.fr hO.fr (fun _ _ h => h)
    have := keep_any wi hw1 hw32 base tb n rs.length hbase hN rs.length 0 (by omega) w' xo cp vs rs yo wi (lf wi e) rfl hT' (hg.fr0 hO.fr) (fun w'' hf => by
      have hs := hO.src
      rw [hll] at hs
      refine hs.fr hf (fun g' o' m' c'' e hO' => ?_)
      have h1 := hO.own.lt g' (by rw [hll, e]; rfl)
      have h2 := (hT.lt g' hO').2
      omega) hll (lf_lt _ _) (fun j row _ hrow => hrs j row hrow)
    refine this.mono ?_
    rintro e' w'' ⟨rfl, xo', cp', vs', h1, h2, h3⟩
    refine ⟨rfl, xo', cp', vs', by simpa using h1, ?_, fun k hk => ?_⟩
    · exact (hO.fr.mono (T := TOwn tb xo vs) (fun _ _ h => h.elim)).trans h2 (fun _ _ h => h)
    · rcases h3 k hk with h4 | h4
      · exact .inl h4
      · exact .inr (Nat.le_trans hO.fr.size h4)
  obtain ⟨c0, c1, c2, hfz, htb⟩ := hT.cells
  have HG := hide (And.intro hleaf hkeep)
  have hm : 1 ≤ (wi : Int) ∧ (wi : Int) ≤ 32 := by omega
  have HM := hide hm
  obtain ⟨xo1, xc1, rfl⟩ := hx.form
  clear hleaf hkeep hT hg hx he hrs hN hm hll c1 c2 hfz
  generalize e.length = E at *
  generalize lf (wi : Int) e = R at *
  have w1 : IntKind.i64.wrap ((n : Int) + 1) = (n : Int) + 1 := by rw [IntKind.wrap_i64]; omega
  have w2 : IntKind.i64.wrap ((n : Int) + 1 - 1) = (n : Int) := by rw [IntKind.wrap_i64]; omega
  go_enter Tryd.func37, Tryd.ntmps37
  go_wp2_with (go_at_call 63; refine (maybe_any wi _).mono ?_; rintro e' w' ⟨rfl, hw'⟩; rw [hw', decide_eq_true (unhide HM)])
  refine (unhide HG).1.mono ?_
  rintro e' wA ⟨yo, rfl, hO⟩
  have HA := hide hO
  clear hO
  go_wp2_with fail
  refine ((unhide HG).2 wA yo (unhide HA)).mono ?_
  rintro e' wB ⟨rfl, xo', cp', vs', hT', hF', hO'⟩
  obtain ⟨d0, d1, d2, dz, dl⟩ := hT'.cells
  have d1z := dz 1
  have hTN := hT'.setN (n + 1)
  have hFN := hF'.setCell (p := ⟨tb, 1, none⟩) (.inl (.inl rfl)) (.int .i64 ((n + 1 : Nat) : Int))
  have eN : ((n + 1 : Nat) : Int) = (n : Int) + 1 := by omega
  rw [eN] at hTN hFN
  have HB := hide (And.intro hTN (And.intro hFN hO'))
  clear hTN hFN hO' hT' hF' dz eN d0 d2
  go_wp2_with fail
  go_ret
  exact ⟨rfl, xo', cp', vs', (unhide HB).1, (unhide HB).2.1, (unhide HB).2.2⟩
set_option maxRecDepth 100000 in
/-- Tree.Add, where the width may not be. -/
theorem add_out (i : Int) (hi : i < 1 ∨ 32 < i) (base tb n : Nat) (w : World) (xo : Option Addr) (cp : Nat) (vs : List Value) (rs : List (List Nat)) (x : Value) (hT : TrAt w base tb i n xo cp vs rs) (hn : n < 4611686018427387904) :
    Calls Tryd.prog 37 #[.pointer (some ⟨tb, 0, none⟩), x] w fun e' w' => e' = .returned (.int .i64 n) ∧ TrAt w' base tb i (n + 1) xo cp vs rs ∧ Fr (TOwn tb xo vs) w w' := by
  obtain ⟨c0, c1, c2, hfz, htb⟩ := hT.cells
  have hm : ¬ (1 ≤ i ∧ i ≤ 32) := by omega
  have HM := hide hm
  have hTN := hT.setN (n + 1)
  have hFN := (Fr.refl (TOwn tb xo vs) w).setCell (p := ⟨tb, 1, none⟩) (.inl (.inl rfl)) (.int .i64 ((n + 1 : Nat) : Int))
  have eN : ((n + 1 : Nat) : Int) = (n : Int) + 1 := by omega
  rw [eN] at hTN hFN
  have HB := hide (And.intro hTN hFN)
  have d1z := hfz 1
  clear hTN hFN hT hfz hm eN c2
  have w1 : IntKind.i64.wrap ((n : Int) + 1) = (n : Int) + 1 := by rw [IntKind.wrap_i64]; omega
  have w2 : IntKind.i64.wrap ((n : Int) + 1 - 1) = (n : Int) := by rw [IntKind.wrap_i64]; omega
  go_enter Tryd.func37, Tryd.ntmps37
  go_wp2_with (go_at_call 63; refine (maybe_any i _).mono ?_; rintro e' w' ⟨rfl, hw'⟩; rw [hw', decide_eq_false (unhide HM)])
  go_ret
  exact ⟨rfl, (unhide HB).1, (unhide HB).2⟩
theorem RowsOf.small {wi : Nat} {L rs : List (List Nat)} (h : RowsOf wi L 0 rs) (h1 : 1 ≤ wi) (h2 : wi ≤ 32) (hL : ∀ p ∈ L, p.length = wi) (hn : L.length ≤ 8000000) : (∀ (j : Nat) row, rs[j]? = some row → (∃ q, row.length = q * wi) ∧ row.length ≤ 1000000000000) ∧ rs.length < 1000 := by
  refine ⟨fun j row hr => ?_, ?_⟩
  · have hj : j < rs.length := (List.getElem?_eq_some_iff.1 hr).1
    have := h.row j hj
    rw [hr, Nat.zero_add] at this
    have e : row = rowOf wi L j (L.length / 2 ^ j) := Option.some.inj this
    rw [e, rowOf_len wi h1 h2 L hL]
    refine ⟨⟨_, rfl⟩, ?_⟩
    have h3 : L.length / 2 ^ j ≤ 8000000 := Nat.le_trans (Nat.div_le_self _ _) hn
    have h4 := Nat.mul_le_mul h3 h2
    omega
  · rcases h.few with e | e
    · rw [e]; simp
    · apply Classical.byContradiction
      intro hc
      have : 2 ^ 25 ≤ 2 ^ (0 + rs.length) := Nat.pow_le_pow_right (by decide) (by omega)
      have h5 : (2 : Nat) ^ 25 = 33554432 := by decide
      omega
/-- A row of a tree is there behind one entry more. -/
theorem RowsOf.add {wi : Nat} {L rs : List (List Nat)} (h : RowsOf wi L 0 rs) (h1 : 1 ≤ wi) (h2 : wi ≤ 32) (r : List Nat) (hL : ∀ p ∈ L ++ [r], p.length = wi) : RowsOf wi (L ++ [r]) 0 (kpb wi rs r) :=
  kpb_rows wi h1 h2 L r hL rs 0 r h (Nat.one_dvd _) (by
    have : blk (L ++ [r]) (L.length + 1 - 2 ^ 0) (2 ^ 0) = [r] := by
      rw [blk, show L.length + 1 - 2 ^ 0 = L.length by simp, List.drop_left]
      rfl
    rw [this, mth_one])
theorem map_lf_len (wi : Nat) (h1 : 1 ≤ wi) (h2 : wi ≤ 32) (es : List (List Nat)) : ∀ p ∈ es.map (lf (wi : Int)), p.length = wi := fun p hp => by
  obtain ⟨e, _, rfl⟩ := List.mem_map.1 hp
  exact lf_len wi h1 h2 e
end Go.Proofs.YtjokmlnghpnlbaaDoor

namespace Go.Proofs.YtjokmlnghpnlbaaDoor
open Go.RowKit

theorem Ow.sl {w : World} {base : Nat} {bo : Option Addr} {c : Nat} {p : List Nat} (h : Ow w base bo c p) (hb : ∀ v ∈ p, v < 256) : Sl w (.slice bo p.length c) p := by
  refine ⟨h.src, fun _ _ _ e => ?_, .inr (fun g o n c' e => ?_), hb⟩
  · cases e
    rcases h.2 with ⟨e1, e2⟩ | ⟨g, cap, cur, e1, _, _, h3, _⟩
    · omega
    · simp only [Value.slice.injEq, true_and] at e1
      rw [e1.2]; exact h3
  · simp only [Value.slice.injEq] at e
    obtain ⟨rfl, _⟩ := e
    exact (World.ownsRow.lt h g rfl).2
/-- The cells of a slice of slices. -/
def SS (w : World) (x : Value) (us : List Value) : Prop :=
  ((x = .slice none 0 0 ∧ us = []) ∨ (∃ a c, x = .slice (some a) 0 c ∧ us = []) ∨ ∃ g o c, x = .slice (some ⟨g, o, none⟩) us.length c ∧ ∀ (j : Nat) u, us[j]? = some u → w.cell? ⟨g, o + j, none⟩ = some u) ∧ ∀ u ∈ us, ∃ a n c, u = .slice a n c
theorem own_form2 {w : World} {base n : Nat} {v : Value} {xs : List Value} (h : w.ownsRow base 24 1 v n xs) : ∃ ao cap, v = .slice ao n cap := by
  rcases h.2 with ⟨rfl, rfl⟩ | ⟨g, cap, cur, rfl, _⟩
  · exact ⟨none, 0, rfl⟩
  · exact ⟨some ⟨g, 0, none⟩, cap, rfl⟩
theorem SS.one {w : World} {x : Value} {us : List Value} (h : SS w x us) : ∀ u ∈ us, u.oneCell' = true := fun u hu => by
  obtain ⟨a, n, c, rfl⟩ := h.2 u hu
  rfl
theorem add_at2 (g o j : Nat) : (⟨g, o, none⟩ : Addr).add j = ⟨g, o + j, none⟩ := by unfold Addr.add; split <;> simp_all
/-- append(v, x...) of slices of bytes. -/
theorem run_app_ss (w : World) (base n : Nat) (v x : Value) (xs us : List Value) (hown : w.ownsRow base 24 1 v n xs) (hx : SS w x us) (hb : n + us.length ≤ 1000000000) (hbase : base ≤ w.heap.size) :
    ∃ ao cap w', (Builtin.append_ #[40, 40] 40 #[v, x]).run Tryd.prog w = .ok (.slice ao (n + us.length) cap) w' ∧ w'.ownsRow base 24 1 (.slice ao (n + us.length) cap) (n + us.length) (xs ++ us) ∧ w.grownBy w' v.ownBlock ∧
      ((Value.slice ao (n + us.length) cap).ownBlock = v.ownBlock ∨ (Value.slice ao (n + us.length) cap).ownBlock = some w.heap.size) := by
  obtain ⟨i0, hi, hz0, hz1, hz2⟩ := info_parts Tryd.infoSl
  have hone := hx.one
  rcases hx.1 with ⟨rfl, rfl⟩ | ⟨ad, c, rfl, rfl⟩ | ⟨g, o, c, rfl, hc⟩
  · have hr := run_append_owned_none (P := Tryd.prog) w base 40 40 24 i0 1 Tryd.underlying40 hi v n xs hown
    obtain ⟨ao, cap, rfl⟩ := own_form2 hown
    exact ⟨ao, cap, w, by simpa using hr, by simpa using hown, ⟨rfl, rfl, rfl, Nat.le_refl _, fun _ _ _ => rfl⟩, .inl rfl⟩
  · obtain ⟨v', w', hr, h2, h3, _, h5⟩ := run_append_own_at (P := Tryd.prog) w base 40 40 24 i0 (.slice none 0 0) 1 24 Tryd.underlying40 hi hz0 hz1 hz2 rfl (by decide) v n xs hown ad 0 c [] rfl (fun j u hu => by simp at hu) (fun u hu => by simp at hu) (by simp only [maxLen]; simp at hb; omega) (by simp at hb; omega) hbase
    obtain ⟨ao, cap, rfl⟩ := own_form2 h2
    exact ⟨ao, cap, w', hr, h2, h3, h5⟩
  · obtain ⟨v', w', hr, h2, h3, _, h5⟩ := run_append_own_at (P := Tryd.prog) w base 40 40 24 i0 (.slice none 0 0) 1 24 Tryd.underlying40 hi hz0 hz1 hz2 rfl (by decide) v n xs hown ⟨g, o, none⟩ us.length c us (by simp) (fun j u hu => by
        rw [add_at2]; exact hc j u hu) hone (by simp only [maxLen]; omega) (by omega) hbase
    obtain ⟨ao, cap, rfl⟩ := own_form2 h2
    exact ⟨ao, cap, w', hr, h2, h3, h5⟩
/-- A row of slices and a row of bytes lie in two blocks. -/
theorem own_ne {w : World} {base base' n m : Nat} {x y : Value} {vs cs : List Value} (ho : w.ownsRow base 24 1 x n vs) (hi : w.ownsRow base' 5 1 y m cs) : ∀ g, x.ownBlock = some g → y.ownBlock = some g → False := fun g hx hy => by
  rcases ho.2 with ⟨e, _⟩ | ⟨g1, cap, cur, e, _, h1, _⟩
  · rw [e] at hx; cases hx
  · rcases hi.2 with ⟨e', _⟩ | ⟨g2, cap', cur', e', _, h2, _⟩
    · rw [e'] at hy; cases hy
    · rw [e] at hx
      rw [e'] at hy
      simp only [Value.ownBlock, Option.some.injEq] at hx hy
      rw [hx] at h1
      rw [hy, h1] at h2
      simp at h2
/-- Hashes of one's own in a slice of one's own, each in memory of its own. -/
structure OL (w wr : World) (ao : Option Addr) (cp : Nat) (vs : List Value) (ps : List (List Nat)) : Prop where
  own : OS w wr ao cp vs
  len : vs.length = ps.length
  row : ∀ (j : Nat) v p, vs[j]? = some v → ps[j]? = some p → ∃ bo c, v = .slice bo p.length c ∧ Ow wr w.heap.size bo c p
  apart : ∀ (j j' : Nat) v v' g g', j ≠ j' → vs[j]? = some v → vs[j']? = some v' → v.ownBlock = some g → v'.ownBlock = some g' → g ≠ g'
  byt : ∀ p ∈ ps, ∀ u ∈ p, u < 256
theorem OL.nil (w : World) : OL w w none 0 [] [] := ⟨OS.nil w, rfl, fun j v p h => by simp at h, fun j j' v v' g g' _ h => by simp at h, fun p h => by simp at h⟩
theorem OL.fr0 {w wr wq : World} {ao : Option Addr} {cp : Nat} {vs : List Value} {ps : List (List Nat)} (h : OL w wr ao cp vs ps) (hf : Fr (fun _ => False) wr wq) : OL w wq ao cp vs ps :=
  ⟨h.own.fr0 hf, h.len, fun j v p hv hp => by
    obtain ⟨bo, c, e, hO⟩ := h.row j v p hv hp
    exact ⟨bo, c, e, hO.fr0 hf⟩, h.apart, h.byt⟩
theorem OL.pcs {w wr : World} {ao : Option Addr} {cp : Nat} {vs : List Value} {ps : List (List Nat)} (h : OL w wr ao cp vs ps) : Pcs wr (.slice ao vs.length cp) vs ps :=
  h.own.pcs h.len (fun j v p hv hp => by
    obtain ⟨bo, c, rfl, hO⟩ := h.row j v p hv hp
    exact hO.sl (h.byt p (List.mem_of_getElem? hp)))
theorem OL.slices {w wr : World} {ao : Option Addr} {cp : Nat} {vs : List Value} {ps : List (List Nat)} (h : OL w wr ao cp vs ps) : ∀ u ∈ vs, ∃ a n c, u = .slice a n c := fun u hu => by
  obtain ⟨j, hj, rfl⟩ := List.getElem_of_mem hu
  obtain ⟨bo, c, e, _⟩ := h.row j vs[j] (ps[j]'(by have := h.len; omega)) (List.getElem?_eq_getElem hj) (List.getElem?_eq_getElem _)
  exact ⟨bo, _, c, e⟩
theorem OL.ss {w wr : World} {ao : Option Addr} {cp : Nat} {vs : List Value} {ps : List (List Nat)} (h : OL w wr ao cp vs ps) : SS wr (.slice ao vs.length cp) vs := by
  refine ⟨?_, h.slices⟩
  rcases h.pcs.at_ with h1 | h1 | ⟨g, o, c, e, _, hc⟩
  · exact .inl h1
  · exact .inr (.inl h1)
  · exact .inr (.inr ⟨g, o, c, e, hc⟩)
theorem OL.inner_lt {w wr : World} {ao : Option Addr} {cp : Nat} {vs : List Value} {ps : List (List Nat)} (h : OL w wr ao cp vs ps) : ∀ v ∈ vs, ∀ g, v.ownBlock = some g → w.heap.size ≤ g ∧ g < wr.heap.size := fun v hv g hg => by
  obtain ⟨j, hj, rfl⟩ := List.getElem_of_mem hv
  obtain ⟨bo, c, e, hO⟩ := h.row j vs[j] (ps[j]'(by have := h.len; omega)) (List.getElem?_eq_getElem hj) (List.getElem?_eq_getElem _)
  rw [e] at hg
  exact World.ownsRow.lt hO g hg
theorem OL.cap {w wr : World} {ao : Option Addr} {cp : Nat} {vs : List Value} {ps : List (List Nat)} (h : OL w wr ao cp vs ps) : vs.length ≤ cp := by
  rcases h.own.own.2 with ⟨e, e2⟩ | ⟨g, cap, cur, e, _, _, h3, _⟩
  · omega
  · simp only [Value.slice.injEq, true_and] at e
    rw [e.2]; exact h3
/-- More hashes behind them. -/
theorem OL.add {w wr : World} {ao : Option Addr} {cp : Nat} {vs : List Value} {ps : List (List Nat)} (h : OL w wr ao cp vs ps) (x : Value) (us : List Value) (qs : List (List Nat)) (hx : SS wr x us) (hl : us.length = qs.length)
    (hrow : ∀ (j : Nat) v p, us[j]? = some v → qs[j]? = some p → ∃ bo c, v = .slice bo p.length c ∧ Ow wr w.heap.size bo c p)
    (hap : ∀ (j j' : Nat) v v' g g', j ≠ j' → us[j]? = some v → us[j']? = some v' → v.ownBlock = some g → v'.ownBlock = some g' → g ≠ g')
    (hcr : ∀ v ∈ vs, ∀ u ∈ us, ∀ g, v.ownBlock = some g → u.ownBlock = some g → False) (hb : ∀ p ∈ qs, ∀ u ∈ p, u < 256) (hn : vs.length + us.length ≤ 1000000000) :
    ∃ ao' cp' w2, (Builtin.append_ #[40, 40] 40 #[.slice ao vs.length cp, x]).run Tryd.prog wr = .ok (.slice ao' (vs.length + us.length) cp') w2 ∧ OL w w2 ao' cp' (vs ++ us) (ps ++ qs) := by
  obtain ⟨ao', cp', w2, hr, hown, hg, hat⟩ := run_app_ss wr w.heap.size vs.length _ x vs us h.own.own hx hn h.own.fr.size
  have hF : Fr (fun k => (Value.slice ao vs.length cp).ownBlock = some k) wr w2 := (Fr.refl _ _).grown hg (fun g hg => .inl hg)
  have hpass : ∀ {bo : Option Addr} {c : Nat} {p : List Nat}, Ow wr w.heap.size bo c p → Ow w2 w.heap.size bo c p := fun {bo c p} hO => by
    refine ownsRow_of_block hO (fun g hg => hF.block g (World.ownsRow.lt hO g hg).2 (fun e => own_ne h.own.own hO g e hg))
  refine ⟨ao', cp', w2, hr, ⟨by rw [List.length_append]; exact hown, h.own.fr.grown hg (fun g hg => .inr (h.own.own.lt g hg).1)⟩, by rw [List.length_append, List.length_append, h.len, hl], fun j v p hv hp => ?_, fun j j' v v' g g' hj hv hv' hg hg' => ?_, fun p hp => ?_⟩
  · by_cases hjl : j < vs.length
    · rw [List.getElem?_append_left hjl] at hv
      rw [List.getElem?_append_left (by rw [← h.len]; exact hjl)] at hp
      obtain ⟨bo, c, e, hO⟩ := h.row j v p hv hp
      exact ⟨bo, c, e, hpass hO⟩
    · rw [List.getElem?_append_right (by omega)] at hv
      rw [List.getElem?_append_right (by rw [← h.len]; omega), ← h.len] at hp
      obtain ⟨bo, c, e, hO⟩ := hrow _ v p hv hp
      exact ⟨bo, c, e, hpass hO⟩
  · by_cases hjl : j < vs.length
    · rw [List.getElem?_append_left hjl] at hv
      by_cases hjl' : j' < vs.length
      · rw [List.getElem?_append_left hjl'] at hv'
        exact h.apart j j' v v' g g' hj hv hv' hg hg'
      · rw [List.getElem?_append_right (by omega)] at hv'
        intro e
        subst e
        exact hcr v (List.mem_of_getElem? hv) v' (List.mem_of_getElem? hv') g hg hg'
    · rw [List.getElem?_append_right (by omega)] at hv
      by_cases hjl' : j' < vs.length
      · rw [List.getElem?_append_left hjl'] at hv'
        intro e
        subst e
        exact hcr v' (List.mem_of_getElem? hv') v (List.mem_of_getElem? hv) g hg' hg
      · rw [List.getElem?_append_right (by omega)] at hv'
        exact hap _ _ v v' g g' (by omega) hv hv' hg hg'
  · rcases List.mem_append.1 hp with hp | hp
    · exact h.byt p hp
    · exact hb p hp
/-- One hash more. -/
theorem OL.step {w wr w1 : World} {ao : Option Addr} {cp : Nat} {vs : List Value} {ps : List (List Nat)} (h : OL w wr ao cp vs ps) (l : List Nat) (yo : Option Addr) (yc : Nat) (hO : OB wr w1 yo yc l) (hb : ∀ v ∈ l, v < 256) (hn : vs.length < 16000000) :
    ∃ ao' cp' w2, (Builtin.append_ #[40, 40] 40 #[.slice ao vs.length cp, .slice (some ⟨w1.heap.size, 0, none⟩) 1 1]).run Tryd.prog (w1.alloc (.cells #[.slice yo l.length yc] 24)) = .ok (.slice ao' (vs.length + 1) cp') w2 ∧ OL w w2 ao' cp' (vs ++ [.slice yo l.length yc]) (ps ++ [l]) := by
  have hFa : Fr (fun _ => False) wr (w1.alloc (.cells #[.slice yo l.length yc] 24)) := hO.fr.alloc _
  have h1 := h.fr0 hFa
  refine h1.add (.slice (some ⟨w1.heap.size, 0, none⟩) 1 1) [.slice yo l.length yc] [l] ⟨.inr (.inr ⟨w1.heap.size, 0, 1, rfl, fun j u hu => ?_⟩), fun u hu => ?_⟩ rfl (fun j v p hv hp => ?_) (fun j j' v v' g g' hj hv hv' => ?_) (fun v hv u hu g hg hg' => ?_) (fun p hp => ?_) (by simp; omega)
  · rw [World.cell?_alloc_at _ _ _ _ (by simp)]
    match j with
    | 0 => simpa using hu
    | j + 1 => simp at hu
  · simp at hu; subst hu; exact ⟨_, _, _, rfl⟩
  · match j with
    | 0 =>
      simp at hv hp
      subst hv hp
      exact ⟨yo, yc, rfl, (hO.ow.base h.own.fr.size).fr0 ((Fr.refl _ _).alloc _)⟩
    | j + 1 => simp at hv
  · match j, j' with
    | 0, 0 => exact absurd rfl hj
    | j + 1, _ => simp at hv
    | 0, j' + 1 => simp at hv'
  · simp at hu
    subst hu
    have h2 := (h.inner_lt v hv g hg).2
    have h3 := (World.ownsRow.lt hO.own g hg').1
    omega
  · simp at hp; subst hp; exact hb
/-- Hashes behind hashes. -/
theorem OL.cat {w wr w1 : World} {ao bo : Option Addr} {cp bc : Nat} {vs us : List Value} {ps qs : List (List Nat)} (h : OL w wr ao cp vs ps) (k : OL wr w1 bo bc us qs) (hn : vs.length + us.length ≤ 1000000000) :
    ∃ ao' cp' w2, (Builtin.append_ #[40, 40] 40 #[.slice ao vs.length cp, .slice bo us.length bc]).run Tryd.prog w1 = .ok (.slice ao' (vs.length + us.length) cp') w2 ∧ OL w w2 ao' cp' (vs ++ us) (ps ++ qs) := by
  refine (h.fr0 k.own.fr).add _ us qs k.ss k.len (fun j v p hv hp => ?_) k.apart (fun v hv u hu g hg hg' => ?_) k.byt hn
  · obtain ⟨b, c, e, hO⟩ := k.row j v p hv hp
    exact ⟨b, c, e, hO.base h.own.fr.size⟩
  · have h2 := (h.inner_lt v hv g hg).2
    have h3 := (k.inner_lt u hu g hg').1
    omega
theorem OB.base' {w0 w wr : World} {xo : Option Addr} {cp : Nat} {l : List Nat} (h : OB w wr xo cp l) (hf : Fr (fun _ => False) w0 w) : OB w0 wr xo cp l := ⟨h.ow.base hf.size, hf.trans h.fr (fun _ _ h => h)⟩
theorem OL.base {w0 w wr : World} {ao : Option Addr} {cp : Nat} {vs : List Value} {ps : List (List Nat)} (h : OL w wr ao cp vs ps) (hf : Fr (fun _ => False) w0 w) : OL w0 wr ao cp vs ps := by
  refine ⟨⟨?_, hf.trans h.own.fr (fun _ _ h => h)⟩, h.len, fun j v p hv hp => ?_, h.apart, h.byt⟩
  · refine ⟨h.own.own.1, ?_⟩
    rcases h.own.own.2 with h0 | ⟨g, cap, cur, e1, e2, e3⟩
    · exact .inl h0
    · exact .inr ⟨g, cap, cur, e1, Nat.le_trans hf.size e2, e3⟩
  · obtain ⟨bo, c, e, hO⟩ := h.row j v p hv hp
    exact ⟨bo, c, e, hO.base hf.size⟩
end Go.Proofs.YtjokmlnghpnlbaaDoor

namespace Go.Proofs.YtjokmlnghpnlbaaDoor
open Go.RowKit

/-- The table of bits.TrailingZeros64. -/
def GT (w : World) : Prop := TabAt 5 Lib.deBruijn64tab w ∧ 6 ≤ w.heap.size
theorem GT.fr {w w' : World} {S : Nat → Prop} (h : GT w) (hf : Fr S w w') (hS : ∀ k, k < 6 → ¬ S k) : GT w' :=
  ⟨fun j hj => (hf.cell (p := ⟨5, j, none⟩) (Nat.lt_of_lt_of_le (show 5 < 6 by decide) h.2) (hS _ (show 5 < 6 by decide))).trans (h.1 j hj), Nat.le_trans h.2 hf.size⟩
theorem GT.fr0 {w w' : World} (h : GT w) (hf : Fr (fun _ => False) w w') : GT w' := h.fr hf (fun _ _ h => h)
theorem ctz_pow (k : Nat) (hk : k < 64) : Lib.ctz 64 (2 ^ k) = k := by
  have : ∀ k : Fin 64, Lib.ctz 64 (2 ^ k.val) = k.val := by decide +kernel
  exact this ⟨k, hk⟩
/-- bytes.Clone. -/
theorem clone_any (g o n c : Nat) (l : List Nat) (w : World) (h : Sl w (.slice (some ⟨g, o, none⟩) n c) l) (hl : l.length = n) (hn : n ≤ 1000000000) :
    Calls Tryd.prog 35 #[.slice (some ⟨g, o, none⟩) n c] w fun e w' => ∃ yo yc, e = .returned (.slice yo n yc) ∧ OB w w' yo yc l := by
  refine (clone_at ⟨g, o, none⟩ n c (l.map fun v : Nat => (v : Int)) w (by simp [hl]) (by omega) (fun i hi => ?_)).mono ?_
  · obtain ⟨g', o', e, hc⟩ := src_cell h.s i (by omega) h.b
    simp only [Option.some.injEq, Addr.mk.injEq, and_true] at e
    obtain ⟨rfl, rfl⟩ := e
    rw [add_at2, hc]
    simp [List.getD, List.getElem?_eq_getElem (show i < l.length by omega)]
  · rintro e w' ⟨v', rfl, hO, _, hB⟩
    obtain ⟨ao, cap, rfl⟩ := own_form hO
    refine ⟨ao, cap, rfl, ?_, ⟨hB.os, hB.tape, hB.output, hB.size, fun k hk _ => hB.block k hk⟩⟩
    have e : (l.map fun v : Nat => (v : Int)).map (Value.int .u8) = cellsOf l := by
      rw [List.map_map, cellsOf]
      apply List.map_congr_left
      intro c hc
      simp [B, Nat.mod_eq_of_lt (h.b c hc)]
    rw [e] at hO
    rw [hl]
    exact hO
/-- A tree that is known: its leaves. -/
structure Tk (w : World) (tb wi : Nat) (L : List (List Nat)) : Prop where
  at_ : ∃ base xo cp vs rs, TrAt w base tb wi L.length xo cp vs rs ∧ RowsOf wi L 0 rs
  gs : GS w
  gt : GT w
  wid : ∀ p ∈ L, p.length = wi
  byt : ∀ p ∈ L, ∀ v ∈ p, v < 256
  len : L.length ≤ 8000000
theorem Tk.fr0 {w w' : World} {tb wi : Nat} {L : List (List Nat)} (h : Tk w tb wi L) (hf : Fr (fun _ => False) w w') : Tk w' tb wi L := by
  obtain ⟨base, xo, cp, vs, rs, h1, h2⟩ := h.at_
  exact ⟨⟨base, xo, cp, vs, rs, h1.fr hf (fun _ _ h => h), h2⟩, h.gs.fr0 hf, h.gt.fr0 hf, h.wid, h.byt, h.len⟩
theorem Tk.c0 {w : World} {tb wi : Nat} {L : List (List Nat)} (h : Tk w tb wi L) : w.cell? ⟨tb, 0, none⟩ = some (.int .i64 wi) ∧ w.cell? ⟨tb, 1, none⟩ = some (.int .i64 L.length) ∧ tb < w.heap.size := by
  obtain ⟨base, xo, cp, vs, rs, h1, _⟩ := h.at_
  exact ⟨h1.cells.1, h1.cells.2.1, h1.cells.2.2.2.2⟩
theorem Tk.mw {w : World} {tb wi : Nat} {L : List (List Nat)} (h : Tk w tb wi L) (hw1 : 1 ≤ wi) (hw32 : wi ≤ 32) (f n : Nat) : (mth wi (blk L f n)).length = wi := mth_wid wi hw1 hw32 _ (fun p hp => h.wid p (blk_mem _ _ _ p hp))
theorem Tk.mb {w : World} {tb wi : Nat} {L : List (List Nat)} (h : Tk w tb wi L) (f n : Nat) : ∀ v ∈ mth wi (blk L f n), v < 256 := mth_lt _ _ _ (Nat.le_refl _) (fun p hp => h.byt p (blk_mem _ _ _ p hp))
theorem Tk.kept {w : World} {tb wi : Nat} {L : List (List Nat)} (h : Tk w tb wi L) (hw1 : 1 ≤ wi) (hw32 : wi ≤ 32) (k j : Nat) (hj : (j + 1) * 2 ^ k ≤ L.length) :
    Calls Tryd.prog 88 #[.pointer (some ⟨tb, 0, none⟩), .int .i64 k, .int .i64 j] w fun e w' => ∃ g J c, e = .returned (.slice (some ⟨g, J, none⟩) wi c) ∧ Fr (fun _ => False) w w' ∧ Sl w' (.slice (some ⟨g, J, none⟩) wi c) (mth wi (blk L (j * 2 ^ k) (2 ^ k))) := by
  have hL := h.wid
  have hn := h.len
  obtain ⟨base, xo, cp, vs, rs, hT, hR⟩ := h.at_
  have hp : 0 < 2 ^ k := Nat.pow_pos (by decide)
  have hjk : (j + 1) * 2 ^ k = j * 2 ^ k + 2 ^ k := Nat.succ_mul _ _
  obtain ⟨hkl, hrow⟩ := hR.at_ k (by omega)
  have hcnt : j + 1 ≤ L.length / 2 ^ k := (Nat.le_div_iff_mul_le hp).2 hj
  have hrl := rowOf_len wi hw1 hw32 L hL k (L.length / 2 ^ k)
  have hcl : L.length / 2 ^ k ≤ 8000000 := Nat.le_trans (Nat.div_le_self _ _) hn
  have hrwt := rwt_row wi hw1 hw32 L hL k (L.length / 2 ^ k) j (by omega)
  generalize L.length / 2 ^ k = C at *
  have hvl : vs.length = rs.length := hT.len
  have hv : vs[k]? = some vs[k] := List.getElem?_eq_getElem (by omega)
  obtain ⟨ao, c, e, hO⟩ := hT.row k _ _ hv hrow
  rw [e] at hv
  have hbyt := hT.byt _ (List.mem_of_getElem? hrow)
  have hCw : (j + 1) * wi ≤ C * wi := Nat.mul_le_mul_right _ hcnt
  have hjw : (j + 1) * wi = j * wi + wi := Nat.succ_mul _ _
  have hcw2 : C * wi ≤ 8000000 * 32 := Nat.mul_le_mul hcl hw32
  obtain ⟨g, rfl⟩ : ∃ g, ao = some ⟨g, 0, none⟩ := by
    rcases hO.2 with ⟨_, e6⟩ | ⟨g, _, _, e6, _⟩
    · rw [hrl] at e6; omega
    · simp only [Value.slice.injEq] at e6
      exact ⟨g, e6.1⟩
  obtain ⟨wb, rfl⟩ : ∃ wb, xo = some ⟨wb, 0, none⟩ := by
    rcases hT.own.2 with ⟨_, e6⟩ | ⟨g', cap, cur, e6, _⟩
    · omega
    · simp only [Value.slice.injEq] at e6
      exact ⟨g', e6.1⟩
  obtain ⟨c0, _, c2, _⟩ := hT.cells
  have ch := (hT.own.cellAt k (by omega)).trans hv
  have hcap := hO.cap
  have hpart := hO.part (j * wi) wi (by rw [hrl]; omega) hbyt
  have e2 : ((rowOf wi L k C).drop (j * wi)).take wi = mth wi (blk L (j * 2 ^ k) (2 ^ k)) := hrwt
  rw [e2] at hpart
  refine (kept_any tb wb cp g k j wi vs.length (rowOf wi L k C).length c (j * wi) w c0 c2 ch (by omega) rfl (by rw [hrl]; omega) hcap (by rw [hrl]; omega) (by omega) hw1).mono ?_
  rintro e' w' ⟨rfl, q, rfl⟩
  exact ⟨g, j * wi, c - j * wi, rfl, (Fr.refl _ _).drewN q, hpart.fr0 ((Fr.refl _ _).drewN q)⟩
/-- A part begins at a multiple of a power of two not below its size. -/
def Al (f n : Nat) : Prop := ∃ k, n ≤ 2 ^ k ∧ 2 ^ k ∣ f
theorem al_zero (n : Nat) : Al 0 n := ⟨n, Nat.le_of_lt Nat.lt_two_pow_self, Nat.dvd_zero _⟩
theorem hf_pow (n : Nat) : ∃ t, hf n = 2 ^ t := ⟨_, rfl⟩
theorem Al.halves {f n : Nat} (h : Al f n) (h2 : 2 ≤ n) : Al f (hf n) ∧ Al (f + hf n) (n - hf n) := by
  obtain ⟨k, h3, h4⟩ := h
  obtain ⟨t, ht⟩ := hf_pow n
  have hl := hf_lt n h2
  have hg := hf_ge n h2
  have htk : t ≤ k := by
    apply Classical.byContradiction
    intro hc
    have : 2 ^ k ≤ 2 ^ t := Nat.pow_le_pow_right (by decide) (by omega)
    omega
  have hd : 2 ^ t ∣ f := Nat.dvd_trans (Nat.pow_dvd_pow 2 htk) h4
  rw [ht] at *
  exact ⟨⟨t, Nat.le_refl _, hd⟩, ⟨t, by omega, Nat.dvd_add hd (Nat.dvd_refl _)⟩⟩
theorem Al.whole {f t : Nat} (h : Al f (2 ^ t)) : f / 2 ^ t * 2 ^ t = f := by
  obtain ⟨k, h3, h4⟩ := h
  have htk : t ≤ k := (Nat.pow_le_pow_iff_right (by decide)).1 h3
  exact Nat.div_mul_cancel (Nat.dvd_trans (Nat.pow_dvd_pow 2 htk) h4)
/-- Six cells of two new structs. -/
theorem two3 (w : World) (a0 a1 a2 b0 b1 b2 : Value) (ty : Nat) (W : World) (hW : (w.alloc (.cells #[a0, a1, a2] ty)).alloc (.cells #[b0, b1, b2] ty) = W) :
    W.cell? ⟨w.heap.size, 0, none⟩ = some a0 ∧ W.cell? ⟨w.heap.size, 1, none⟩ = some a1 ∧ W.cell? ⟨w.heap.size, 2, none⟩ = some a2 ∧ W.cell? ⟨w.heap.size + 1, 0, none⟩ = some b0 ∧ W.cell? ⟨w.heap.size + 1, 1, none⟩ = some b1 ∧ W.cell? ⟨w.heap.size + 1, 2, none⟩ = some b2 ∧ Fr (fun _ => False) w W := by
  subst hW
  have e1 : w.heap.size + 1 = (w.alloc (.cells #[a0, a1, a2] ty)).heap.size := by simp
  have A : ∀ j : Nat, ((w.alloc (.cells #[a0, a1, a2] ty)).alloc (.cells #[b0, b1, b2] ty)).cell? ⟨w.heap.size, j, none⟩ = (#[a0, a1, a2] : Array Value)[j]? := fun j => by
    rw [World.cell?_alloc_past _ _ _ (by simp), World.cell?_alloc_at _ _ _ _ rfl]
  have B : ∀ j : Nat, ((w.alloc (.cells #[a0, a1, a2] ty)).alloc (.cells #[b0, b1, b2] ty)).cell? ⟨w.heap.size + 1, j, none⟩ = (#[b0, b1, b2] : Array Value)[j]? := fun j => by
    rw [e1, World.cell?_alloc_at _ _ _ _ rfl]
  exact ⟨A 0, A 1, A 2, B 0, B 1, B 2, ((Fr.refl _ _).alloc _).alloc _⟩
def RootSays (tb wi : Nat) (L : List (List Nat)) (f n : Nat) (w : World) : Prop :=
  Calls Tryd.prog 73 #[pv (.pointer (some ⟨tb, 0, none⟩)) f n] w fun e w' => ∃ yo yc, e = .returned (.slice yo wi yc) ∧ OB w w' yo yc (mth wi (blk L f n))
set_option maxRecDepth 100000 in
set_option maxHeartbeats 1000000 in
theorem root_nil (tb wi : Nat) (hw1 : 1 ≤ wi) (hw32 : wi ≤ 32) (L : List (List Nat)) (f : Nat) (w : World) (hT : Tk w tb wi L) : RootSays tb wi L f 0 w := by
  unfold RootSays pv
  have e0 : blk L f 0 = [] := by rw [blk, List.take_zero]
  rw [e0, mth_nil]
  have hsum : ∀ w', GS w' → Calls Tryd.prog 67 #[.int .i64 wi, .slice none 0 0] w' fun e w'' => ∃ yo, e = .returned (.slice yo wi wi) ∧ OB w' w'' yo wi (sm wi []) := fun w' hg => by
    have := sum_O (wi : Int) [] (.slice none 0 0) w' hg (.inl ⟨rfl, rfl⟩) (fun _ h => by cases h) (by simp) (fun _ _ _ e => by cases e; exact Nat.le_refl _) (fun _ _ _ _ e => by cases e)
    rw [sm_wid wi hw1 hw32] at this
    exact this
  have hg : GS w := hT.gs
  obtain ⟨c0, c1, htb⟩ := hT.c0
  have HG := hide (And.intro hsum hg)
  clear hsum hg hT c1 e0
  go_enter Tryd.func73, Tryd.ntmps73
  go_wp2_with fail
  refine ((unhide HG).1 _ ((unhide HG).2.fr0 ((Fr.refl _ _).alloc _))).mono ?_
  rintro e w1 ⟨yo, rfl, hO⟩
  have H1 := hide (hO.base' ((Fr.refl _ _).alloc _))
  clear hO
  go_wp2_with fail
  go_ret
  exact ⟨yo, wi, rfl, unhide H1⟩
end Go.Proofs.YtjokmlnghpnlbaaDoor

namespace Go.Proofs.YtjokmlnghpnlbaaDoor
open Go.ChangeShapes Go.WideShapes Go.ChangeAt Go.RowKit Go.Deep
set_option maxRecDepth 100000

/-- What a listed array of words gives a walk: its cells. -/
theorem words_cells8 {W : World} {laid : List (String × DataW Unit)} (hL : laidMet Tryd.prog laid W) {nm : String} {zs : List Int} (hm : (nm, DataW.agg (zs.map fun z => .lit (.int .u8 z))) ∈ laid) {g t n : Nat} (hg : Tryd.prog.globalNamed nm = some g) (hty : (Tryd.prog.globals[g]?).map (·.type) = some t)
    (hu : Tryd.prog.underlying t = some (.array n 5)) (hc : Tryd.prog.cellsOf 5 = 1) (j : Nat) (z : Int) (hz : zs[j]? = some z) : W.cell? ⟨g, j, none⟩ = some (.int .u8 z) := by
  obtain ⟨ps, hv, _, _⟩ := hL
  obtain ⟨g', t', cs, fuel, p, a1, a2, a3, a4, _⟩ := laid_in hv hm
  obtain rfl := Option.some.inj (hg.symm.trans a1)
  obtain rfl := Option.some.inj (hty.symm.trans a2)
  obtain ⟨xs, m, _, hx, _, hlen, hall⟩ := DataW.trod_array hu a4
  simp only [Prod.mk.injEq, DataW.agg.injEq] at hx
  have hxj := congrArg (fun l => l[j]?) hx.1
  simp only [List.getElem?_map, hz, Option.map_some] at hxj
  rcases hxs : xs[j]? with _ | y
  · rw [hxs] at hxj; cases hxj
  · rw [hxs] at hxj
    have hj : j < n := by rw [← hlen]; exact (List.getElem?_eq_some_iff.1 hxs).1
    have h1 := hall j hj
    rw [hc, hxs, Nat.mul_one] at h1
    obtain ⟨v, e1, e2, _⟩ := DataW.trod_int Tryd.underlying5 h1
    have e3 : y.1 = .lit (.int .u8 v) := by rw [e2]
    simp only [Option.map_some, Option.some.injEq] at hxj
    rw [e3] at hxj
    injection hxj with hxj
    injection hxj with _ hxj
    subst hxj
    have e4 : cs.toList[j]? = some (.int .u8 z) := by
      have : (cs.toList.drop j).head? = some (.int .u8 z) := by
        rcases hd : cs.toList.drop j with _ | ⟨a, r⟩
        · rw [hd] at e1; cases e1
        · rw [hd] at e1; simp at e1; rw [e1]; rfl
      rw [List.head?_drop] at this
      exact this
    rw [World.var?_cell hg a3 j]
    simpa using e4
def bz : List Int := Lib.deBruijn64tab.map fun n : Nat => (n : Int)
theorem laid_T : (Rows.laid_math_bits_deBruijn64tab : DataW Unit) = .agg (bz.map fun z => .lit (.int .u8 z)) := by kernel_rfl
theorem gt_of_laid {W : World} {laid : List (String × DataW Unit)} (hL : laidMet Tryd.prog laid W) (h1 : ("math/bits.deBruijn64tab", Rows.laid_math_bits_deBruijn64tab) ∈ laid) (hw : 6 ≤ W.heap.size) : GT W := by
  rw [laid_T] at h1
  refine ⟨fun j hj => ?_, hw⟩
  refine words_cells8 hL h1 (g := 5) (t := 78) (by kernel_rfl) (by kernel_rfl) Tryd.underlying78 Tryd.cellsU8 j _ ?_
  rw [bz, List.getElem?_map, List.getElem?_eq_getElem hj, Option.map_some]
  simp only [List.getD, List.getElem?_eq_getElem hj, Option.getD_some]
/-- A world for a witness: the settled one, the six variables holding what they are laid. -/
noncomputable def mWorld (os : Os) : World :=
  let w0 := World.holding Tryd.prog os ⟨#[], #[], []⟩
  { w0 with heap := ((((((w0.heap.modify 2 fun
      | .cells _ t frozen => .cells st0.cells.toArray t frozen
      | o => o).modify 3 fun
      | .cells _ t frozen => .cells (V32 kt).toArray t frozen
      | o => o).modify 0 fun
      | .cells _ t frozen => .cells (V64 st0.vals).toArray t frozen
      | o => o).modify 1 fun
      | .cells _ t frozen => .cells (V64 kt).toArray t frozen
      | o => o).modify 5 fun
      | .cells _ t frozen => .cells (Lib.deBruijn64tab.map fun n : Nat => Value.int .u8 (n : Int)).toArray t frozen
      | o => o).modify 4 fun
      | .cells _ t frozen => .cells (Lib.deBruijn32tab.map fun n : Nat => Value.int .u8 (n : Int)).toArray t frozen
      | o => o) }
abbrev laid6 : List (String × DataW Unit) := [("almoner/almonerref2.K", Rows.laid_almoner_almonerref2_K), ("almoner/almonerref2.Begin", Rows.laid_almoner_almonerref2_Begin), ("math/bits.deBruijn32tab", Rows.laid_math_bits_deBruijn32tab), ("math/bits.deBruijn64tab", Rows.laid_math_bits_deBruijn64tab), ("almoner/sha.start", Rows.laid_almoner_sha_start), ("almoner/sha.k", Rows.laid_almoner_sha_k)]
theorem g6_of_laid {W : World} (hL : laidMet Tryd.prog laid6 W) (hw : 6 ≤ W.heap.size) : GS W ∧ GR W ∧ GT W :=
  ⟨gs_of_laid hL (.tail _ (.tail _ (.tail _ (.tail _ (.head _))))) (.tail _ (.tail _ (.tail _ (.tail _ (.tail _ (.head _)))))) hw, gr_of_laid hL (.tail _ (.head _)) (.head _) hw, gt_of_laid hL (.tail _ (.tail _ (.tail _ (.head _)))) hw⟩
/-- A slice of slices of bytes that came in; its length is at most its capacity. -/
theorem pcs_of_formC {H : Type} {enc : TypeId × Value → H} {W : World} {v : Value} {d : DataW H} {p : List MemPlace} (hform : ∃ a len cap, v = .slice a len cap) (h : DataW.Trod enc Tryd.prog W 0 (fun _ => true) true 40 v d p) :
    ∃ vs ps, Pcs W v vs ps ∧ Cp v ∧ (∀ q ∈ ps, q.length ≤ Rows.uptoBulk d) ∧ ps.length ≤ Rows.uptoBulk d := by
  obtain ⟨vs, ps, h1, h2, h3⟩ := pcs_of_form hform h
  refine ⟨vs, ps, h1, ?_, h2, h3⟩
  obtain ⟨a0, len0, cap0, rfl⟩ := hform
  obtain ⟨fuel, hf⟩ := h
  rcases open_slice1 Tryd.underlying40 Tryd.cellsB hf with ⟨hcs, hx⟩ | ⟨a, len, cap, m, n, V, D, Pl, hcs, _, hl, hm, hmm, hx, hel⟩
  · simp [Value.cells] at hcs
    obtain ⟨rfl, rfl, rfl⟩ := hcs
    exact fun _ _ _ e => by cases e; exact Nat.le_refl _
  · simp [Value.cells] at hcs
    obtain ⟨rfl, rfl, rfl⟩ := hcs
    exact fun _ _ _ e => by cases e; omega
theorem pcs_of_readingC {H : Type} {enc : TypeId × Value → H} {W : World} {base : Nat} {v : Value} {d : DataW H} {p : List MemPlace} (hval : Value.okWide Tryd.prog W .any base 40 v) (h : DataW.Trod enc Tryd.prog W 0 (fun _ => true) true 40 v d p) :
    ∃ vs ps, Pcs W v vs ps ∧ Cp v ∧ (∀ q ∈ ps, q.length ≤ Rows.uptoBulk d) ∧ ps.length ≤ Rows.uptoBulk d := pcs_of_formC (okWide_slice Tryd.underlying40 hval) h
end Go.Proofs.YtjokmlnghpnlbaaDoor

namespace Go.Proofs.YtjokmlnghpnlbaaDoor
open Go.RowKit

set_option maxRecDepth 100000 in
/-- lamport.widthMayBe. -/
theorem lwid_any (j : Int) (w : World) : Calls Tryd.prog 29 #[.int .i64 j] w fun e w' => e = .returned (.bool (decide (1 ≤ j ∧ j ≤ 32))) ∧ w' = w := by
  by_cases h1 : 1 ≤ j
  · by_cases h2 : j ≤ 32
    · rw [decide_eq_true ⟨h1, h2⟩]
      go_enter Tryd.func29, Tryd.ntmps29
      go_wp2_with fail
      go_ret
      exact ⟨rfl, rfl⟩
    · rw [decide_eq_false (fun h => h2 h.2)]
      go_enter Tryd.func29, Tryd.ntmps29
      go_wp2_with fail
      go_ret
      exact ⟨rfl, rfl⟩
  · rw [decide_eq_false (fun h => h1 h.1)]
    go_enter Tryd.func29, Tryd.ntmps29
    go_wp2_with fail
    go_ret
    exact ⟨rfl, rfl⟩
set_option maxRecDepth 100000 in
/-- lamport.mayBe. -/
theorem lmay_any (j h : Int) (w : World) : Calls Tryd.prog 27 #[.int .i64 j, .int .i64 h] w fun e w' => e = .returned (.bool (decide ((1 ≤ j ∧ j ≤ 32) ∧ 0 ≤ h ∧ h ≤ 6))) ∧ w' = w := by
  have hw := lwid_any j w
  by_cases hj : 1 ≤ j ∧ j ≤ 32
  · rw [decide_eq_true hj] at hw
    have HW := hide hw
    clear hw
    by_cases h1 : 0 ≤ h
    · by_cases h2 : h ≤ 6
      · rw [decide_eq_true ⟨hj, h1, h2⟩]
        clear hj
        go_enter Tryd.func27, Tryd.ntmps27
        go_wp2_with fail
        refine (unhide HW).mono ?_
        rintro e w0 ⟨rfl, rfl⟩
        go_wp2_with fail
        go_ret
        exact ⟨rfl, rfl⟩
      · rw [decide_eq_false (fun k => h2 k.2.2)]
        clear hj
        go_enter Tryd.func27, Tryd.ntmps27
        go_wp2_with fail
        refine (unhide HW).mono ?_
        rintro e w0 ⟨rfl, rfl⟩
        go_wp2_with fail
        go_ret
        refine ⟨?_, rfl⟩
        show Ending.returned (.bool (decide (h ≤ 6))) = _
        rw [decide_eq_false (by omega)]
    · rw [decide_eq_false (fun k => h1 k.2.1)]
      clear hj
      go_enter Tryd.func27, Tryd.ntmps27
      go_wp2_with fail
      refine (unhide HW).mono ?_
      rintro e w0 ⟨rfl, rfl⟩
      go_wp2_with fail
      go_ret
      exact ⟨rfl, rfl⟩
  · rw [decide_eq_false hj] at hw
    rw [decide_eq_false (fun k => hj k.1)]
    have HW := hide hw
    clear hw hj
    go_enter Tryd.func27, Tryd.ntmps27
    go_wp2_with fail
    refine (unhide HW).mono ?_
    rintro e w0 ⟨rfl, rfl⟩
    go_wp2_with fail
    go_ret
    exact ⟨rfl, rfl⟩
set_option maxRecDepth 100000 in
/-- lamport.bitCount. -/
theorem lbits_any (wi : Nat) (h : wi ≤ 32) (w : World) : Calls Tryd.prog 31 #[.int .i64 wi] w fun e w' => e = .returned (.int .i64 ((8 * wi : Nat) : Int)) ∧ w' = w := by
  have q : IntKind.i64.wrap (8 * (wi : Int)) = ((8 * wi : Nat) : Int) := by rw [IntKind.wrap_i64]; omega
  go_enter Tryd.func31, Tryd.ntmps31
  go_wp2_with fail
  go_ret
  exact ⟨rfl, rfl⟩
set_option maxRecDepth 100000 in
/-- lamport.pairsSize. -/
theorem lpairs_any (wi : Nat) (h : wi ≤ 32) (w : World) : Calls Tryd.prog 28 #[.int .i64 wi] w fun e w' => e = .returned (.int .i64 ((16 * wi * wi : Nat) : Int)) ∧ w' = w := by
  have HB := hide (lbits_any wi h w)
  have hsq : wi * wi ≤ 32 * 32 := Nat.mul_le_mul h h
  have e1 : ((8 * wi : Nat) : Int) = 8 * (wi : Int) := by omega
  have q1 : IntKind.i64.wrap (2 * ((8 * wi : Nat) : Int)) = ((16 * wi : Nat) : Int) := by rw [IntKind.wrap_i64]; omega
  have e2 : ((16 * wi : Nat) : Int) * (wi : Int) = ((16 * wi * wi : Nat) : Int) := by push_cast; rfl
  have b2 : 16 * wi * wi ≤ 16384 := by rw [Nat.mul_assoc]; omega
  have q2 : IntKind.i64.wrap (((16 * wi : Nat) : Int) * (wi : Int)) = ((16 * wi * wi : Nat) : Int) := by rw [e2, IntKind.wrap_i64]; omega
  clear e1 e2 b2 hsq
  generalize 8 * wi = E at *
  generalize 16 * wi * wi = S at *
  generalize 16 * wi = D at *
  go_enter Tryd.func28, Tryd.ntmps28
  go_wp2_with fail
  refine (unhide HB).mono ?_
  rintro e w0 ⟨rfl, rfl⟩
  go_wp2_with fail
  go_ret
  exact ⟨rfl, rfl⟩
set_option maxRecDepth 100000 in
/-- lamport.keyCount. -/
theorem lkeys_any (H : Nat) (h : H ≤ 6) (w : World) : Calls Tryd.prog 40 #[.int .i64 H] w fun e w' => e = .returned (.int .i64 ((2 ^ H : Nat) : Int)) ∧ w' = w := by
  match H, h with
  | 0, _ | 1, _ | 2, _ | 3, _ | 4, _ | 5, _ | 6, _ =>
    go_enter Tryd.func40, Tryd.ntmps40
    go_wp2_with fail
    go_ret
    exact ⟨rfl, rfl⟩
set_option maxRecDepth 100000 in
/-- lamport.isKey. -/
theorem liskey_any (H : Nat) (h : H ≤ 6) (k : Int) (w : World) : Calls Tryd.prog 30 #[.int .i64 H, .int .i64 k] w fun e w' => e = .returned (.bool (decide (0 ≤ k ∧ k < ((2 ^ H : Nat) : Int)))) ∧ w' = w := by
  have HK := hide (lkeys_any H h w)
  generalize 2 ^ H = P at *
  by_cases h1 : 0 ≤ k
  · by_cases h2 : k < (P : Int)
    · rw [decide_eq_true ⟨h1, h2⟩]
      go_enter Tryd.func30, Tryd.ntmps30
      go_wp2_with fail
      refine (unhide HK).mono ?_
      rintro e w0 ⟨rfl, rfl⟩
      go_wp2_with fail
      go_ret
      exact ⟨rfl, rfl⟩
    · rw [decide_eq_false (fun q => h2 q.2)]
      go_enter Tryd.func30, Tryd.ntmps30
      go_wp2_with fail
      refine (unhide HK).mono ?_
      rintro e w0 ⟨rfl, rfl⟩
      go_wp2_with fail
      go_ret
      refine ⟨?_, rfl⟩
      show Ending.returned (.bool (decide (k < (P : Int)))) = _
      rw [decide_eq_false (by omega)]
  · rw [decide_eq_false (fun q => h1 q.1)]
    go_enter Tryd.func30, Tryd.ntmps30
    go_wp2_with fail
    go_ret
    exact ⟨rfl, rfl⟩
/-- The size of a signature. -/
def szF (j h : Int) : Int := if (1 ≤ j ∧ j ≤ 32) ∧ 0 ≤ h ∧ h ≤ 6 then 16 * j * j + h * j else 0
set_option maxRecDepth 100000 in
/-- lamport.Size. -/
theorem lsize_any (j h : Int) (w : World) : Calls Tryd.prog 9 #[.int .i64 j, .int .i64 h] w fun e w' => e = .returned (.int .i64 (szF j h)) ∧ w' = w := by
  have hm := lmay_any j h w
  by_cases hc : (1 ≤ j ∧ j ≤ 32) ∧ 0 ≤ h ∧ h ≤ 6
  · rw [decide_eq_true hc] at hm
    have hsz : szF j h = 16 * j * j + h * j := by rw [szF, if_pos hc]
    rw [hsz]
    obtain ⟨wi, rfl⟩ : ∃ k : Nat, j = (k : Int) := ⟨j.toNat, by omega⟩
    obtain ⟨H, rfl⟩ : ∃ k : Nat, h = (k : Int) := ⟨h.toNat, by omega⟩
    have hw32 : wi ≤ 32 := by omega
    have hH6 : H ≤ 6 := by omega
    have hsq : wi * wi ≤ 32 * 32 := Nat.mul_le_mul hw32 hw32
    have hhw : H * wi ≤ 6 * 32 := Nat.mul_le_mul hH6 hw32
    have b2 : 16 * wi * wi ≤ 16384 := by rw [Nat.mul_assoc]; omega
    have e3 : (16 : Int) * (wi : Int) * (wi : Int) = ((16 * wi * wi : Nat) : Int) := by push_cast; rfl
    have e4 : (H : Int) * (wi : Int) = ((H * wi : Nat) : Int) := by push_cast; rfl
    rw [e3, e4]
    have q1 : IntKind.i64.wrap ((H : Int) * (wi : Int)) = ((H * wi : Nat) : Int) := by rw [e4, IntKind.wrap_i64]; omega
    have q2 : IntKind.i64.wrap (((16 * wi * wi : Nat) : Int) + ((H * wi : Nat) : Int)) = ((16 * wi * wi : Nat) : Int) + ((H * wi : Nat) : Int) := by rw [IntKind.wrap_i64]; omega
    have HM := hide (And.intro hm (lpairs_any wi hw32 w))
    clear hm hc hsz hsq hhw b2 e3 e4
    generalize 16 * wi * wi = S at *
    generalize H * wi = T at *
    go_enter Tryd.func9, Tryd.ntmps9
    go_wp2_with fail
    refine (unhide HM).1.mono ?_
    rintro e w0 ⟨rfl, rfl⟩
    go_wp2_with fail
    refine (unhide HM).2.mono ?_
    rintro e w1 ⟨rfl, rfl⟩
    go_wp2_with fail
    go_ret
    exact ⟨rfl, rfl⟩
  · rw [decide_eq_false hc] at hm
    have hsz : szF j h = 0 := by rw [szF, if_neg hc]
    rw [hsz]
    have HM := hide hm
    clear hm hc hsz
    go_enter Tryd.func9, Tryd.ntmps9
    go_wp2_with fail
    refine (unhide HM).mono ?_
    rintro e w0 ⟨rfl, rfl⟩
    go_wp2_with fail
    go_ret
    exact ⟨rfl, rfl⟩
end Go.Proofs.YtjokmlnghpnlbaaDoor

namespace Go.Proofs.YtjokmlnghpnlbaaDoor
open Go.RowKit

/-- What a secret is the hash of. -/
def scm (K J V : Nat) (seed : List Nat) : List Nat := [2, 0, 0, 0, K, J / 256, J % 256, V] ++ seed
/-- A hash of one's own, laid since w, that has taken m. -/
structure Hs (w wr : World) (b : Nat) (m : List Nat) : Prop where
  hm : HM wr b 0 m
  fr : Fr (fun _ => False) w wr
  le : w.heap.size ≤ b
  bt : ∀ v ∈ m, v < 256
theorem Hs.fr0 {w wr wq : World} {b : Nat} {m : List Nat} (h : Hs w wr b m) (hf : Fr (fun _ => False) wr wq) : Hs w wq b m := ⟨h.hm.fr hf (fun h => h), h.fr.trans hf (fun _ _ h => h), h.le, h.bt⟩
/-- Bytes of a literal are written. -/
theorem Hs.lit {w wr : World} {b : Nat} {m : List Nat} (h : Hs w wr b m) (hg : GS w) (c : List Nat) (cs : Array Value) (n : Nat) (hn : c.length = n) (hcs : cs.toList = cellsOf c) (hc : ∀ v ∈ c, v < 256) (hm : m.length + c.length < 9223372036854775808) (W : World) (hW : wr.alloc (.cells cs 5) = W) :
    Calls Tryd.prog 33 #[.pointer (some ⟨b, 0, none⟩), .slice (some ⟨wr.heap.size, 0, none⟩) n n] W fun e w' => e = .returned (.tuple #[]) ∧ Hs w w' b (m ++ c) := by
  have hF : Fr (fun _ => False) wr W := by rw [← hW]; exact (Fr.refl _ _).alloc _
  have h1 := h.fr0 hF
  have hsrc : Src W (.slice (some ⟨wr.heap.size, 0, none⟩) n n) c := by rw [← hW]; exact lit_src wr c cs n n hn hcs
  have hb := h.hm.lt
  have hbt : ∀ v ∈ m ++ c, v < 256 := fun v hv => (List.mem_append.1 hv).elim (h.bt v) (hc v)
  refine (write_any b 0 m c _ W (hg.fr0 h1.fr) (Nat.le_trans hg.1.2 h.le) h1.hm hsrc (fun g o n' c' e => by cases e; omega) hbt hm (fun _ _ _ e => by cases e; exact Nat.le_refl _)).mono ?_
  rintro e w' ⟨rfl, k1, k2⟩
  exact ⟨rfl, k1, h1.fr.trans k2 (fun i hi e => absurd e (by have := h.le; omega)), h.le, hbt⟩
/-- Bytes that lay there are written. -/
theorem Hs.put {w wr : World} {b : Nat} {m : List Nat} (h : Hs w wr b m) (hg : GS w) (x : Value) (c : List Nat) (hx : Sl w x c) (hm : m.length + c.length < 9223372036854775808) :
    Calls Tryd.prog 33 #[.pointer (some ⟨b, 0, none⟩), x] wr fun e w' => e = .returned (.tuple #[]) ∧ Hs w w' b (m ++ c) := by
  have hbt : ∀ v ∈ m ++ c, v < 256 := fun v hv => (List.mem_append.1 hv).elim (h.bt v) (hx.b v)
  have hx2 := hx.fr0 h.fr
  refine (write_anyD b 0 m c x wr (hg.fr0 h.fr) (Nat.le_trans hg.1.2 h.le) h.hm hx2.s (hx.lt.imp id (fun k g o n c e => by have := k g o n c e; have := h.le; omega)) hbt hm hx2.cap).mono ?_
  rintro e w' ⟨rfl, k1, k2⟩
  exact ⟨rfl, k1, h.fr.trans k2 (fun i hi e => absurd e (by have := h.le; omega)), h.le, hbt⟩
theorem cells1 (v : Nat) (h : v < 256) : (#[Value.int .u8 (v : Int)] : Array Value).toList = cellsOf [v] := by simp [cellsOf, B, Nat.mod_eq_of_lt h]
theorem cells2 (u v : Nat) (hu : u < 256) (hv : v < 256) : (#[Value.int .u8 (u : Int), .int .u8 (v : Int)] : Array Value).toList = cellsOf [u, v] := by simp [cellsOf, B, Nat.mod_eq_of_lt hu, Nat.mod_eq_of_lt hv]
theorem cells4 (s t u v : Nat) (hs : s < 256) (ht : t < 256) (hu : u < 256) (hv : v < 256) : (#[Value.int .u8 (s : Int), .int .u8 (t : Int), .int .u8 (u : Int), .int .u8 (v : Int)] : Array Value).toList = cellsOf [s, t, u, v] := by simp [cellsOf, B, Nat.mod_eq_of_lt hs, Nat.mod_eq_of_lt ht, Nat.mod_eq_of_lt hu, Nat.mod_eq_of_lt hv]
theorem cellsK (K : Nat) (h : K < 64) : (#[Value.int .u8 ((K : Int) / 16777216), .int .u8 ((K : Int) / 65536), .int .u8 ((K : Int) / 256), .int .u8 (K : Int)] : Array Value).toList = cellsOf [0, 0, 0, K] := by
  have h1 : (K : Int) / 16777216 = 0 := by omega
  have h2 : (K : Int) / 65536 = 0 := by omega
  have h3 : (K : Int) / 256 = 0 := by omega
  rw [h1, h2, h3]
  exact cells4 0 0 0 K (by decide) (by decide) (by decide) (by omega)
theorem cellsJ (J : Nat) (h : J < 256) : (#[Value.int .u8 ((J : Int) / 256), .int .u8 (J : Int)] : Array Value).toList = cellsOf [J / 256, J % 256] := by
  have h1 : (J : Int) / 256 = 0 := by omega
  have h2 : J / 256 = 0 := by omega
  rw [h1, h2, Nat.mod_eq_of_lt h]
  exact cells2 0 J (by decide) h
set_option maxRecDepth 100000 in
set_option maxHeartbeats 2000000 in
/-- lamport.Secret, of what may be. -/
theorem lsecret_in (wi K J V : Nat) (hw1 : 1 ≤ wi) (hw32 : wi ≤ 32) (hK : K < 64) (hJ : J < 8 * wi) (hV : V < 2) (x : Value) (seed : List Nat) (w : World) (hg : GS w) (hx : Sl w x seed) (hs : seed.length < 4611686018427387904) :
    Calls Tryd.prog 10 #[.int .i64 wi, x, .int .i64 K, .int .i64 J, .int .i64 V] w fun e w' => ∃ yo, e = .returned (.slice yo wi wi) ∧ OB w w' yo wi (sm wi (scm K J V seed)) := by
  have hwd := lwid_any wi w
  rw [decide_eq_true (by omega)] at hwd
  have hik := liskey_any 6 (by decide) K w
  have e64 : ((2 ^ 6 : Nat) : Int) = 64 := by decide
  rw [e64, decide_eq_true (by omega)] at hik
  have e6 : ((6 : Nat) : Int) = 6 := rfl
  rw [e6] at hik
  have hbc := lbits_any wi hw32 w
  have hnw := new_any w hg
  obtain ⟨xo, xc, rfl⟩ := hx.form
  have HC := hide (And.intro hwd (And.intro hik (And.intro hbc (And.intro hnw (And.intro hg hx)))))
  clear hwd hik hbc hnw hx hg e64 e6
  generalize hSN : seed.length = SN at *
  have q1 : ¬ (J : Int) < 0 := by omega
  have q2 : ¬ ((8 * wi : Nat) : Int) ≤ (J : Int) := by omega
  have q2' : ¬ 8 * wi ≤ J := by omega
  have q3 : ¬ (V : Int) < 0 := by omega
  have q4 : ¬ (2 : Int) ≤ (V : Int) := by omega
  have hJ256 : J < 256 := by omega
  generalize hE : 8 * wi = E at *
  go_enter Tryd.func10, Tryd.ntmps10
  go_wp2_with fail
  refine (unhide HC).1.mono ?_
  rintro e w0 ⟨rfl, rfl⟩
  go_wp2_with fail
  refine (unhide HC).2.1.mono ?_
  rintro e w0' ⟨rfl, rfl⟩
  go_wp2_with fail
  refine (unhide HC).2.2.1.mono ?_
  rintro e w0'' ⟨rfl, rfl⟩
  go_wp2_with fail
  refine (unhide HC).2.2.2.1.mono ?_
  rintro e w1 ⟨b, rfl, hH, hF1, hle⟩
  have H1 := hide (show Hs _ w1 b [] from ⟨HM.new hH, hF1, hle, fun v hv => by cases hv⟩)
  clear hH hF1 hle
  go_wp2_with fail
  refine ((unhide H1).lit (unhide HC).2.2.2.2.1 [2] _ 1 rfl (cells1 2 (by decide)) (by simp) (by simp) _ rfl).mono ?_
  rintro e w2 ⟨rfl, h2⟩
  have H2 := hide h2
  clear h2
  go_wp2_with fail
  refine ((unhide H2).lit (unhide HC).2.2.2.2.1 [0, 0, 0, K] _ 4 rfl (cellsK K hK) (by simp; omega) (by simp) _ rfl).mono ?_
  rintro e w3 ⟨rfl, h3⟩
  have H3 := hide h3
  clear h3 H2 H1
  go_wp2_with fail
  refine ((unhide H3).lit (unhide HC).2.2.2.2.1 [J / 256, J % 256] _ 2 rfl (cellsJ J hJ256) (by simp; omega) (by simp) _ rfl).mono ?_
  rintro e w4 ⟨rfl, h4⟩
  have H4 := hide h4
  clear h4 H3
  go_wp2_with fail
  refine ((unhide H4).lit (unhide HC).2.2.2.2.1 [V] _ 1 rfl (cells1 V (by omega)) (by simp; omega) (by simp) _ rfl).mono ?_
  rintro e w5 ⟨rfl, h5⟩
  have H5 := hide h5
  clear h5 H4
  go_wp2_with fail
  refine ((unhide H5).put (unhide HC).2.2.2.2.1 _ seed (unhide HC).2.2.2.2.2 (by simp; omega)).mono ?_
  rintro e w6 ⟨rfl, h6⟩
  have hsm : ([] ++ [2] ++ [0, 0, 0, K] ++ [J / 256, J % 256] ++ [V] ++ seed : List Nat) = scm K J V seed := by simp [scm]
  rw [hsm] at h6
  have H6 := hide h6
  clear h6 H5
  have hlen : (scm K J V seed).length < 9223372036854775808 := by simp [scm]; omega
  go_wp2_with fail
  have hsl : (sm (wi : Int) (scm K J V seed)).length = wi := by rw [sm_len ⟨by omega, by omega⟩, Int.toNat_natCast]
  have hS := hsum_O wi b 0 _ w6 ((unhide HC).2.2.2.2.1.fr0 (unhide H6).fr) (unhide H6).hm (unhide H6).bt hlen
  rw [hsl] at hS
  refine hS.mono ?_
  rintro e w7 ⟨yo, rfl, hO⟩
  have H7 := hide (hO.base (unhide H6).fr)
  clear hO hS
  go_wp2_with fail
  go_ret
  exact ⟨_, rfl, unhide H7⟩
set_option maxRecDepth 100000 in
set_option maxHeartbeats 2000000 in
/-- lamport.Secret, of what may not be. -/
theorem lsecret_no (j K J V : Int) (h : ¬ ((1 ≤ j ∧ j ≤ 32) ∧ (0 ≤ K ∧ K < 64) ∧ (0 ≤ J ∧ J < 8 * j) ∧ 0 ≤ V ∧ V < 2)) (x : Value) (w : World) :
    Calls Tryd.prog 10 #[.int .i64 j, x, .int .i64 K, .int .i64 J, .int .i64 V] w fun e w' => e = .returned (.slice none 0 0) ∧ w' = w := by
  have hwd := hide (lwid_any j w)
  by_cases h1 : 1 ≤ j ∧ j ≤ 32
  · rw [decide_eq_true h1] at hwd
    obtain ⟨wi, rfl⟩ : ∃ wi : Nat, j = (wi : Int) := ⟨j.toNat, by omega⟩
    have hw32 : wi ≤ 32 := by omega
    have hik := hide (liskey_any 6 (by decide) K w)
    have e64 : ((2 ^ 6 : Nat) : Int) = 64 := by decide
    have e6 : ((6 : Nat) : Int) = 6 := rfl
    rw [e64, e6] at hik
    have hbc := hide (lbits_any wi hw32 w)
    clear e64 e6
    by_cases h2 : 0 ≤ K ∧ K < 64
    · rw [decide_eq_true h2] at hik
      by_cases h3 : J < 0
      · clear h h1 h2 hw32
        go_enter Tryd.func10, Tryd.ntmps10
        go_wp2_with fail
        refine (unhide hwd).mono ?_
        rintro e w0 ⟨rfl, rfl⟩
        go_wp2_with fail
        refine (unhide hik).mono ?_
        rintro e w0' ⟨rfl, rfl⟩
        go_wp2_with fail
        go_ret
        exact ⟨rfl, rfl⟩
      · by_cases h4 : ((8 * wi : Nat) : Int) ≤ J
        · generalize 8 * wi = E at *
          clear h h1 h2 hw32
          go_enter Tryd.func10, Tryd.ntmps10
          go_wp2_with fail
          refine (unhide hwd).mono ?_
          rintro e w0 ⟨rfl, rfl⟩
          go_wp2_with fail
          refine (unhide hik).mono ?_
          rintro e w0' ⟨rfl, rfl⟩
          go_wp2_with fail
          refine (unhide hbc).mono ?_
          rintro e w0'' ⟨rfl, rfl⟩
          go_wp2_with fail
          go_ret
          exact ⟨rfl, rfl⟩
        · have h5 : V < 0 ∨ (¬ V < 0 ∧ 2 ≤ V) := by omega
          generalize 8 * wi = E at *
          clear h h1 h2 hw32
          rcases h5 with h5 | ⟨h5, h6⟩
          · go_enter Tryd.func10, Tryd.ntmps10
            go_wp2_with fail
            refine (unhide hwd).mono ?_
            rintro e w0 ⟨rfl, rfl⟩
            go_wp2_with fail
            refine (unhide hik).mono ?_
            rintro e w0' ⟨rfl, rfl⟩
            go_wp2_with fail
            refine (unhide hbc).mono ?_
            rintro e w0'' ⟨rfl, rfl⟩
            go_wp2_with fail
            go_ret
            exact ⟨rfl, rfl⟩
          · go_enter Tryd.func10, Tryd.ntmps10
            go_wp2_with fail
            refine (unhide hwd).mono ?_
            rintro e w0 ⟨rfl, rfl⟩
            go_wp2_with fail
            refine (unhide hik).mono ?_
            rintro e w0' ⟨rfl, rfl⟩
            go_wp2_with fail
            refine (unhide hbc).mono ?_
            rintro e w0'' ⟨rfl, rfl⟩
            go_wp2_with fail
            go_ret
            exact ⟨rfl, rfl⟩
    · rw [decide_eq_false h2] at hik
      clear h h1 h2 hw32
      go_enter Tryd.func10, Tryd.ntmps10
      go_wp2_with fail
      refine (unhide hwd).mono ?_
      rintro e w0 ⟨rfl, rfl⟩
      go_wp2_with fail
      refine (unhide hik).mono ?_
      rintro e w0' ⟨rfl, rfl⟩
      go_wp2_with fail
      go_ret
      exact ⟨rfl, rfl⟩
  · rw [decide_eq_false h1] at hwd
    clear h h1
    go_enter Tryd.func10, Tryd.ntmps10
    go_wp2_with fail
    refine (unhide hwd).mono ?_
    rintro e w0 ⟨rfl, rfl⟩
    go_wp2_with fail
    go_ret
    exact ⟨rfl, rfl⟩
end Go.Proofs.YtjokmlnghpnlbaaDoor

namespace Go.Proofs.YtjokmlnghpnlbaaDoor
open Go.RowKit

set_option maxRecDepth 100000 in
/-- sha.Sum (an empty text may lie anywhere). -/
theorem sum_anyE (n : Nat) (c : List Nat) (x : Value) (w : World) (hg : GS w) (hx : Src w x c) (hc : ∀ v ∈ c, v < 256) (hs : c.length < 9223372036854775808) (hcap : ∀ g n c', x = .slice g n c' → n ≤ c') (hlt : c = [] ∨ ∀ g o' n c', x = .slice (some ⟨g, o', none⟩) n c' → g < w.heap.size) (h1 : 1 ≤ n) (h2 : n ≤ 32) :
    Calls Tryd.prog 67 #[.int .i64 n, x] w fun e w' => ∃ g, e = .returned (.slice (some ⟨g, 0, none⟩) n n) ∧ BtAt w' g n (fun j => ((sby (dig c)).take n).getD j 0) ∧ Fr (fun _ => False) w w' ∧ NB w w' g n := by
  have hz1 := zero_h
  have HG := hide (And.intro hg (And.intro hx (And.intro hc (And.intro hs (And.intro hcap hlt)))))
  clear hg hx hc hs hcap hlt
  go_enter Tryd.func67, Tryd.ntmps67
  go_wp2_with fail
  refine (nothing_any w (unhide HG).1).mono ?_
  rintro e w1 ⟨rfl, hF1⟩
  obtain ⟨W2, hth, hW2, hH, hF2⟩ := lay_h w1
  have hi := info_h0
  have ho := one_h0
  have hF12 := hF1.trans hF2 (fun _ _ h => h)
  have hle : w.heap.size ≤ w1.heap.size := hF1.size
  generalize h0 = H at *
  generalize hz = Z at *
  have HB := hide (And.intro hth (And.intro hW2 (And.intro (HM.new hH) (And.intro hF12 (And.intro hle (And.intro hi ho))))))
  clear hth hW2 hH hF1 hF2 hi ho hF12 hle
  go_wp2_with (refine wpList_store_to rfl 81 (.tmp 5) (.tmp 6) rfl w1.heap.size 0 H.toArray rfl rfl (unhide HB).1 (unhide HB).2.2.2.2.2.1 (unhide HB).2.2.2.2.2.2 W2 (unhide HB).2.1 ?_)
  refine (write_anyD w1.heap.size 0 [] c x W2 ((unhide HG).1.fr0 (unhide HB).2.2.2.1) (Nat.le_trans (unhide HG).1.1.2 (unhide HB).2.2.2.2.1) (unhide HB).2.2.1 ((unhide HG).2.1.fr0 (unhide HB).2.2.2.1) ((unhide HG).2.2.2.2.2.imp id (fun hl g o' n' c' e => ?_)) (by simpa using (unhide HG).2.2.1) (by simpa using (unhide HG).2.2.2.1) (unhide HG).2.2.2.2.1).mono ?_
  · have h1 := hl g o' n' c' e
    have h2 := (unhide HB).2.2.2.2.1
    omega
  rintro e w3 ⟨rfl, hM, hF3⟩
  rw [List.nil_append] at hM
  have hF03 : Fr (fun _ => False) w w3 := (unhide HB).2.2.2.1.trans (hF3.mono (T := fun k => w.heap.size ≤ k) (fun i _ h => by have h2 := (unhide HB).2.2.2.2.1; omega)) (fun i hi h => by omega)
  have H3 := hide (And.intro hM hF03)
  clear hM hF3 hF03
  go_wp2_with fail
  refine (hmsum_any w1.heap.size 0 n c w3 ((unhide HG).1.fr0 (unhide H3).2) (unhide H3).1 (unhide HG).2.2.1 (by have := (unhide HG).2.2.2.1; omega) h1 h2).mono ?_
  rintro e w4 ⟨g, rfl, hB, hF4, hg⟩
  have H4 := hide (And.intro hB (And.intro ((unhide H3).2.trans hF4 (fun _ _ h => h)) (hg.base (unhide H3).2.size)))
  clear hB hF4 hg
  go_wp2_with fail
  go_ret
  exact ⟨g, rfl, (unhide H4).1, (unhide H4).2.1, (unhide H4).2.2⟩
theorem ssum_in (wi : Nat) (hw1 : 1 ≤ wi) (hw32 : wi ≤ 32) (x : Value) (c : List Nat) (w : World) (hg : GS w) (hx : Sl w x c) (hs : c.length < 9223372036854775808) :
    Calls Tryd.prog 67 #[.int .i64 wi, x] w fun e w' => ∃ yo, e = .returned (.slice yo wi wi) ∧ OB w w' yo wi (sm wi c) := by
  refine (sum_anyE wi c x w hg hx.s hx.b hs hx.cap hx.lt hw1 hw32).mono ?_
  rintro e w' ⟨g, rfl, hB, hF, hn⟩
  have h : (1 : Int) ≤ (wi : Int) ∧ (wi : Int) ≤ 32 := by omega
  have hl : (sm (wi : Int) c).length = wi := by rw [sm_len h, Int.toNat_natCast]
  refine ⟨_, rfl, ob_of_bt ?_ hl (sm_lt _ _) hn hF (by omega)⟩
  rw [sm, if_pos h, Int.toNat_natCast]
  exact hB
set_option maxRecDepth 100000 in
/-- lock. -/
theorem llock_in (wi : Nat) (hw1 : 1 ≤ wi) (hw32 : wi ≤ 32) (x : Value) (c : List Nat) (w : World) (hg : GS w) (hx : Sl w x c) (hs : c.length < 9223372036854775808) :
    Calls Tryd.prog 66 #[.int .i64 wi, x] w fun e w' => ∃ yo, e = .returned (.slice yo wi wi) ∧ OB w w' yo wi (sm wi c) := by
  have HS := hide (ssum_in wi hw1 hw32 x c w hg hx hs)
  clear hx hg
  go_enter Tryd.func66, Tryd.ntmps66
  go_wp2_with fail
  refine (unhide HS).mono ?_
  rintro e w1 ⟨yo, rfl, hO⟩
  have H1 := hide hO
  clear hO
  go_wp2_with fail
  go_ret
  exact ⟨_, rfl, unhide H1⟩
theorem mf : ∀ (fn : Fn) (first cap : Array Value) (w : World), (Instr.makeFunc fn first cap).run Tryd.prog w = .ok (.func fn first cap) w := fun _ _ _ _ => rfl
/-- What a lock of a key is. -/
def lk (wi K : Nat) (seed : List Nat) (J V : Nat) : List Nat := sm wi (sm wi (scm K J V seed))
/-- What Keys.locks' closure holds: two boxes. -/
structure LkAt (w : World) (bk bi kb wi K : Nat) (x : Value) (seed : List Nat) : Prop where
  k : w.cell? ⟨bk, 0, none⟩ = some (.pointer (some ⟨kb, 0, none⟩))
  i : w.cell? ⟨bi, 0, none⟩ = some (.int .i64 (K : Int))
  w_ : w.cell? ⟨kb, 0, none⟩ = some (.int .i64 (wi : Int))
  s : w.cell? ⟨kb, 2, none⟩ = some x
  sl : Sl w x seed
theorem LkAt.fr0 {w w' : World} {bk bi kb wi K : Nat} {x : Value} {seed : List Nat} (h : LkAt w bk bi kb wi K x seed) (hf : Fr (fun _ => False) w w') : LkAt w' bk bi kb wi K x seed :=
  ⟨(hf.cell (lt_of_cell h.k) (fun h => h)).trans h.k, (hf.cell (lt_of_cell h.i) (fun h => h)).trans h.i, (hf.cell (lt_of_cell h.w_) (fun h => h)).trans h.w_, (hf.cell (lt_of_cell h.s) (fun h => h)).trans h.s, h.sl.fr0 hf⟩
set_option maxRecDepth 100000 in
set_option maxHeartbeats 2000000 in
/-- Keys.locks' closure. -/
theorem llocks1_in (bk bi kb wi K J V : Nat) (hw1 : 1 ≤ wi) (hw32 : wi ≤ 32) (hK : K < 64) (hJ : J < 8 * wi) (hV : V < 2) (x : Value) (seed : List Nat) (w : World) (hg : GS w) (hL : LkAt w bk bi kb wi K x seed) (hs : seed.length < 4611686018427387904) :
    Calls Tryd.prog 65 #[.int .i64 J, .int .i64 V, .pointer (some ⟨bk, 0, none⟩), .pointer (some ⟨bi, 0, none⟩)] w fun e w' => ∃ yo, e = .returned (.slice yo wi wi) ∧ OB w w' yo wi (lk wi K seed J V) := by
  obtain ⟨xo, xc, rfl⟩ := hL.sl.form
  have hS : ∀ w', Fr (fun _ => False) w w' → w'.cell? ⟨bk, 0, none⟩ = some (.pointer (some ⟨kb, 0, none⟩)) ∧ w'.cell? ⟨bi, 0, none⟩ = some (.int .i64 (K : Int)) ∧ w'.cell? ⟨kb, 0, none⟩ = some (.int .i64 (wi : Int)) ∧ w'.cell? ⟨kb, 2, none⟩ = some (.slice xo seed.length xc) := fun w' hf => ⟨(hL.fr0 hf).k, (hL.fr0 hf).i, (hL.fr0 hf).w_, (hL.fr0 hf).s⟩
  have hsl : (sm (wi : Int) (scm K J V seed)).length = wi := by rw [sm_len ⟨by omega, by omega⟩, Int.toNat_natCast]
  have hsec := fun w' (hf : Fr (fun _ => False) w w') => lsecret_in wi K J V hw1 hw32 hK hJ hV _ seed w' (hg.fr0 hf) (hL.sl.fr0 hf) hs
  have hlock := fun w' yo (hf : Fr (fun _ => False) w w') (h : Sl w' (.slice yo wi wi) (sm (wi : Int) (scm K J V seed))) => llock_in wi hw1 hw32 _ _ w' (hg.fr0 hf) h (by omega)
  have hfin : sm (wi : Int) (sm (wi : Int) (scm K J V seed)) = lk wi K seed J V := rfl
  have hlt := sm_lt (wi : Int) (scm K J V seed)
  generalize sm (wi : Int) (scm K J V seed) = SC at *
  rw [hfin] at hlock
  have HC := hide (And.intro hS (And.intro hsec (And.intro hlock (And.intro hsl hlt))))
  clear hL hg hS hsec hlock hsl hfin hlt
  generalize seed.length = SN at *
  have T1 : True := trivial
  go_enter Tryd.func65, Tryd.ntmps65
  go_wp2_with fail
  go_region_held3 (fun w' => w'.cell? ⟨bk, 0, none⟩ = some (.pointer (some ⟨kb, 0, none⟩)) ∧ w'.cell? ⟨bi, 0, none⟩ = some (.int .i64 (K : Int)) ∧ w'.cell? ⟨kb, 0, none⟩ = some (.int .i64 (wi : Int)) ∧ w'.cell? ⟨kb, 2, none⟩ = some (.slice xo SN xc))
    (first | assumption | exact (unhide HC).1 _ (Fr.refl _ _).drew | exact (unhide HC).1 _ fB | exact (unhide HC).1 _ fA)
    (first
      | (go_at_call 10; clear T1; refine ((unhide HC).2.1 _ (Fr.refl _ _).drew).mono ?_; rintro e wA ⟨yo, rfl, hA⟩; have fA : Fr (fun _ => False) w wA := (Fr.refl _ _).drew.trans hA.fr (fun _ _ h => h); have sA := (unhide HC).2.2.2.1 ▸ hA.sl (unhide HC).2.2.2.2)
      | (go_at_call 66; refine ((unhide HC).2.2.1 _ _ fA sA).mono ?_; rintro e wB ⟨zo, rfl, hB⟩; have fB : Fr (fun _ => False) w wB := fA.trans hB.fr (fun _ _ h => h); have oB := hB.base fA))
  have H3 := hide oB
  clear fA fB hA hB oB sA
  go_wp2_with fail
  go_ret
  exact ⟨_, rfl, unhide H3⟩
end Go.Proofs.YtjokmlnghpnlbaaDoor

namespace Go.Proofs.YtjokmlnghpnlbaaDoor
open Go.RowKit

/-- A bit of a hash. -/
def bitv (h : List Nat) (J : Nat) : Nat := h.getD (J / 8) 0 / 2 ^ (7 - J % 8) % 2
theorem bit_tab : ∀ r, r < 8 → ∀ B, B < 256 → (bits .and .u8 ((B : Nat) : Int) (128 / 2 ^ r) != 0) = decide (B / 2 ^ (7 - r) % 2 = 1) := by decide +kernel
theorem gbit_tab : ∀ r, r < 8 → ∀ B, B < 256 → bits .and .i64 (wrap64 (((B : Nat) : Int) / 2 ^ (7 - r))) 1 = ((B / 2 ^ (7 - r) % 2 : Nat) : Int) := by decide +kernel
theorem bitv_lt (h : List Nat) (J : Nat) : bitv h J < 2 := Nat.mod_lt _ (by decide)
/-- What bitsOf's closure holds. -/
structure BtF (w : World) (hb : Nat) (ho : Option Addr) (wi : Nat) (h : List Nat) : Prop where
  c : w.cell? ⟨hb, 0, none⟩ = some (.slice ho wi wi)
  sl : Sl w (.slice ho wi wi) h
theorem BtF.fr0 {w w' : World} {hb : Nat} {ho : Option Addr} {wi : Nat} {h : List Nat} (H : BtF w hb ho wi h) (hf : Fr (fun _ => False) w w') : BtF w' hb ho wi h := ⟨(hf.cell (lt_of_cell H.c) (fun h => h)).trans H.c, H.sl.fr0 hf⟩
set_option maxRecDepth 100000 in
set_option maxHeartbeats 2000000 in
/-- bitsOf. -/
theorem lbitsOf_in (wi : Nat) (hw1 : 1 ≤ wi) (hw32 : wi ≤ 32) (x : Value) (m : List Nat) (w : World) (hg : GS w) (hx : Sl w x m) (hs : m.length < 9223372036854775808) :
    Calls Tryd.prog 43 #[.int .i64 wi, x] w fun e w' => ∃ hb ho, e = .returned (.func (.func 72) #[] #[.pointer (some ⟨hb, 0, none⟩)]) ∧ BtF w' hb ho wi (sm wi m) ∧ Fr (fun _ => False) w w' := by
  have hmf := mf
  have HS := hide (And.intro (fun w' (hf : Fr (fun _ => False) w w') => ssum_in wi hw1 hw32 x m w' (hg.fr0 hf) (hx.fr0 hf) hs) hg)
  clear hx hg
  go_enter Tryd.func43, Tryd.ntmps43
  go_wp2_with fail
  refine ((unhide HS).1 _ (Fr.refl _ _)).mono ?_
  rintro e w1 ⟨yo, rfl, hO⟩
  have hsl : (sm (wi : Int) m).length = wi := by rw [sm_len ⟨by omega, by omega⟩, Int.toNat_natCast]
  have hS1 := hsl ▸ hO.sl (sm_lt (wi : Int) m)
  have H1 := hide (And.intro hS1 hO.fr)
  clear hS1 hO
  go_wp2_with fail
  go_ret
  have hF : Fr (fun _ => False) w1 (w1.alloc (.cells #[.slice yo wi wi] 24)) := (Fr.refl _ _).alloc _
  exact ⟨_, yo, rfl, ⟨World.cell?_alloc_at _ _ _ _ rfl, (unhide H1).1.fr0 hF⟩, (unhide H1).2.trans hF (fun _ _ h => h)⟩
set_option maxRecDepth 100000 in
set_option maxHeartbeats 2000000 in
/-- bitsOf's closure. -/
theorem lbitsOf1_in (hb : Nat) (ho : Option Addr) (wi J : Nat) (hw32 : wi ≤ 32) (hJ : J < 8 * wi) (h : List Nat) (w : World) (hB : BtF w hb ho wi h) (hl : h.length = wi) :
    Calls Tryd.prog 72 #[.int .i64 J, .pointer (some ⟨hb, 0, none⟩)] w fun e w' => e = .returned (.int .i64 (bitv h J)) ∧ Fr (fun _ => False) w w' := by
  obtain ⟨A, r, hr, hJr, hA, hR⟩ : ∃ A r, r < 8 ∧ J = 8 * A + r ∧ J / 8 = A ∧ J % 8 = r := ⟨J / 8, J % 8, by omega, by omega, rfl, rfl⟩
  unfold bitv
  rw [hA, hR]
  have hAw : A < wi := by omega
  obtain ⟨g, o, rfl, hc⟩ := src_cell hB.sl.s A (by omega) hB.sl.b
  have hc0 := hB.c
  have hlt : h.getD A 0 < 256 := by
    rw [List.getD_eq_getElem?_getD, List.getElem?_eq_getElem (by omega)]; exact hB.sl.b _ (List.getElem_mem _)
  generalize h.getD A 0 = B at *
  have q0 : (0 : Int) ≤ (A : Int) := by omega
  have q2 : (A : Int) < (wi : Int) := by omega
  have e1 : (J : Int).tdiv 8 = (A : Int) := by rw [Int.tdiv_eq_ediv_of_nonneg (by omega)]; omega
  have e2 : (J : Int).tmod 8 = (r : Int) := by rw [Int.tmod_eq_emod_of_nonneg (by omega)]; omega
  have e3 : (J : Int) / 8 = (A : Int) := by omega
  have e4 : (J : Int) % 8 = (r : Int) := by omega
  have hwA : IntKind.i64.wrap (A : Int) = (A : Int) := by rw [IntKind.wrap_i64]; omega
  have hwr : IntKind.i64.wrap (r : Int) = (r : Int) := by rw [IntKind.wrap_i64]; omega
  have hbt := bit_tab r hr B hlt
  clear hB hJ hA hR hJr hw32 hl
  generalize hD : B / 2 ^ (7 - r) % 2 = D at *
  have hD2 : D = 0 ∨ D = 1 := by omega
  clear hD
  rcases hD2 with rfl | rfl
  · rw [show (decide ((0 : Nat) = 1)) = false from rfl] at hbt
    go_enter Tryd.func72, Tryd.ntmps72
    go_wp2_with fail
    go_region_held3 (fun w' => w'.cell? ⟨hb, 0, none⟩ = some (.slice (some ⟨g, o, none⟩) wi wi) ∧ w'.cell? ⟨g, o + A, none⟩ = some (.int .u8 (B : Int)))
      (first | assumption | exact ⟨hc0, hc⟩)
      (fail)
    try rw [hbt]
    go_wp2_with fail
    go_ret
    exact ⟨rfl, (Fr.refl _ _).drew⟩
  · rw [show (decide ((1 : Nat) = 1)) = true from rfl] at hbt
    go_enter Tryd.func72, Tryd.ntmps72
    go_wp2_with fail
    go_region_held3 (fun w' => w'.cell? ⟨hb, 0, none⟩ = some (.slice (some ⟨g, o, none⟩) wi wi) ∧ w'.cell? ⟨g, o + A, none⟩ = some (.int .u8 (B : Int)))
      (first | assumption | exact ⟨hc0, hc⟩)
      (fail)
    try rw [hbt]
    go_wp2_with fail
    go_ret
    exact ⟨rfl, (Fr.refl _ _).drew⟩
set_option maxRecDepth 100000 in
set_option maxHeartbeats 2000000 in
/-- The document's Bit. -/
theorem gbit_in (ho : Option Addr) (wi J : Nat) (hw32 : wi ≤ 32) (hJ : J < 8 * wi) (h : List Nat) (w : World) (hB : Sl w (.slice ho wi wi) h) (hl : h.length = wi) :
    Calls Tryd.prog 53 #[.slice ho wi wi, .int .i64 J] w fun e w' => e = .returned (.int .i64 (bitv h J)) ∧ w' = w := by
  obtain ⟨A, r, hr, hJr, hA, hR⟩ : ∃ A r, r < 8 ∧ J = 8 * A + r ∧ J / 8 = A ∧ J % 8 = r := ⟨J / 8, J % 8, by omega, by omega, rfl, rfl⟩
  unfold bitv
  rw [hA, hR]
  have hAw : A < wi := by omega
  have hA9 : A ≤ 32 := by omega
  obtain ⟨g, o, rfl, hc⟩ := src_cell hB.s A (by omega) hB.b
  have hlt : h.getD A 0 < 256 := by
    rw [List.getD_eq_getElem?_getD, List.getElem?_eq_getElem (by omega)]; exact hB.b _ (List.getElem_mem _)
  generalize h.getD A 0 = B at *
  have q2 : (A : Int) < (wi : Int) := by omega
  have hJ9 : J < 256 := by omega
  have hbt := hide (gbit_tab r hr B hlt)
  clear hB hJ hJr
  go_enter Tryd.func53, Tryd.ntmps53
  go_wp2_with fail
  go_ret
  rw [unhide hbt]
  exact ⟨rfl, rfl⟩
end Go.Proofs.YtjokmlnghpnlbaaDoor

namespace Go.Proofs.YtjokmlnghpnlbaaDoor
open Go.RowKit

/-- What an entry is: the locks of the first n bits. -/
def ent (f : Nat → Nat → List Nat) : Nat → List Nat
  | 0 => []
  | n + 1 => ent f n ++ f n 0 ++ f n 1
/-- .. and of the next bit's first v values. -/
def entv (f : Nat → Nat → List Nat) (n v : Nat) : List Nat := ent f n ++ (if v = 0 then [] else if v = 1 then f n 0 else f n 0 ++ f n 1)
theorem entv_zero (f : Nat → Nat → List Nat) (n : Nat) : entv f n 0 = ent f n := by simp [entv]
theorem entv_two (f : Nat → Nat → List Nat) (n : Nat) : entv f n 2 = ent f (n + 1) := by simp [entv, ent]
theorem entv_succ (f : Nat → Nat → List Nat) (n v : Nat) (hv : v < 2) : entv f n v ++ f n v = entv f n (v + 1) := by
  rcases (by omega : v = 0 ∨ v = 1) with rfl | rfl <;> simp [entv]
theorem ent_len (f : Nat → Nat → List Nat) (wi : Nat) (n : Nat) (hf : ∀ J V, J < n → V < 2 → (f J V).length = wi) : (ent f n).length = 2 * n * wi := by
  induction n with
  | zero => simp [ent]
  | succ n ih =>
    rw [ent, List.length_append, List.length_append, ih (fun J V h1 h2 => hf J V (by omega) h2), hf n 0 (by omega) (by decide), hf n 1 (by omega) (by decide), Nat.mul_succ, Nat.add_mul]
    omega
theorem entv_len (f : Nat → Nat → List Nat) (wi : Nat) (n v : Nat) (hv : v ≤ 2) (hf : ∀ J V, J ≤ n → V < 2 → (f J V).length = wi) : (entv f n v).length = (2 * n + v) * wi := by
  have h0 := ent_len f wi n (fun J V h1 h2 => hf J V (by omega) h2)
  have h1 := hf n 0 (Nat.le_refl _) (by decide)
  have h2 := hf n 1 (Nat.le_refl _) (by decide)
  rcases (by omega : v = 0 ∨ v = 1 ∨ v = 2) with rfl | rfl | rfl <;> simp [entv, h0, h1, h2, Nat.add_mul] <;> omega
/-- A function value that tells locks. -/
structure LkF (w : World) (F : Nat) (caps : Array Value) (wi : Nat) (f : Nat → Nat → List Nat) : Prop where
  en : ∀ (x y : Value) (W : World), (callFunc F (#[x, y] ++ caps)).run Tryd.prog W = .ok (.enter F (#[x, y] ++ caps)) W
  call : ∀ w' J V, Fr (fun _ => False) w w' → J < 8 * wi → V < 2 → Calls Tryd.prog F (#[.int .i64 (J : Nat), .int .i64 (V : Nat)] ++ caps) w' fun e w'' => ∃ yo yc, e = .returned (.slice yo wi yc) ∧ Sl w'' (.slice yo wi yc) (f J V) ∧ Fr (fun _ => False) w' w''
  len : ∀ J V, J < 8 * wi → V < 2 → (f J V).length = wi
set_option maxRecDepth 100000 in
set_option maxHeartbeats 2000000 in
/-- entry. -/
theorem lentry_any (wi F : Nat) (hw1 : 1 ≤ wi) (hw32 : wi ≤ 32) (caps : Array Value) (f : Nat → Nat → List Nat) (w : World) (hL : LkF w F caps wi f) :
    Calls Tryd.prog 38 #[.int .i64 wi, .func (.func F) #[] caps] w fun e w' => ∃ ao cp, e = .returned (.slice ao (16 * wi * wi) cp) ∧ OB w w' ao cp (ent f (8 * wi)) := by
  have hbc := hide (lbits_any wi hw32 w)
  have he := hL.en
  have HL := hide hL
  have hlen : ∀ J v, J < 8 * wi → v ≤ 2 → (entv f J v).length = (2 * J + v) * wi := fun J v h1 h2 => entv_len f wi J v h2 (fun J' V' h1' h2' => hL.len J' V' (by omega) h2')
  have hlast : (ent f (8 * wi)).length = 16 * wi * wi := by
    rw [ent_len f wi (8 * wi) (fun J V h1 h2 => hL.len J V h1 h2)]
    rw [← Nat.mul_assoc]
  have HN := hide (And.intro hlen hlast)
  clear hL hlen hlast
  have hE8 : 8 * wi ≤ 256 := by omega
  obtain ⟨R, hR⟩ : ∃ R, R = 16 * wi * wi := ⟨_, rfl⟩
  rw [← hR]
  have HR := hide hR
  clear hR
  generalize hE : 8 * wi = E at *
  go_enter Tryd.func38, Tryd.ntmps38
  go_wp2_with fail
  refine (unhide hbc).mono ?_
  rintro e w0 ⟨rfl, rfl⟩
  go_wp2_with fail
  go_loopw [5, 10] (fun v iv wr => ∃ (k : Nat) (ao : Option Addr) (cp n : Nat), k ≤ E ∧ iv = .int .i64 (k : Nat) ∧ v = .slice ao n cp ∧ n = (ent f k).length ∧ OB w0 wr ao cp (ent f k)) (fun _ iv _ => E - (intOf iv).toNat)
  case atStart => exact ⟨0, none, 0, 0, Nat.zero_le _, rfl, rfl, rfl, ⟨own_nil _ _, Fr.refl _ _⟩⟩
  case round =>
    obtain ⟨k, ao, cp, n, hk, rfl, rfl, hn, hO⟩ := hrel
    by_cases hlt : k < E
    · have hlt' : (k : Int) < (E : Int) := by omega
      have HO := hide (And.intro hn hO)
      clear hn hO
      go_wp2_with fail
      go_loopw [5, 13] (fun v iv wr => ∃ (u : Nat) (bo : Option Addr) (bp m : Nat), u ≤ 2 ∧ iv = .int .i64 (u : Nat) ∧ v = .slice bo m bp ∧ m = (entv f k u).length ∧ OB w0 wr bo bp (entv f k u)) (fun _ iv _ => 2 - (intOf iv).toNat)
      case atStart => exact ⟨0, _, _, _, Nat.zero_le _, rfl, rfl, by rw [entv_zero]; exact (unhide HO).1, by rw [entv_zero]; exact (unhide HO).2⟩
      case round =>
        obtain ⟨u, bo, bp, m, hu, rfl, rfl, hm, hP⟩ := hrel
        by_cases hu2 : u < 2
        · have hu2' : (u : Int) < 2 := by omega
          have HP := hide (And.intro hm hP)
          clear hm hP
          go_wp2_with fail
          refine ((unhide HL).call wr k u (unhide HP).2.fr (by omega) hu2).mono ?_
          rintro e wA ⟨yo, yc, rfl, hS, hF⟩
          have hP' : OB w0 wA bo bp (entv f k u) := ((unhide HP).2.ow.fr0 hF).ob ((unhide HP).2.fr.trans hF (fun _ _ h => h))
          have hb1 := (unhide HN).1 k u hlt (by omega)
          have hb2 := (unhide HL).len k u (by omega) hu2
          have hb3 : (2 * k + u) * wi ≤ 514 * 32 := Nat.mul_le_mul (by omega) hw32
          obtain ⟨a2, c2, w2, hr2, hO2⟩ := hP'.app _ (f k u) hS.s (by omega)
          rw [← (unhide HP).1] at hr2
          rw [entv_succ f k u hu2] at hr2 hO2
          have HR2 := hide (And.intro hr2 hO2)
          clear hr2 hO2 hS hF hP' hb1 hb2 hb3
          go_wp2_with (at_builtin; refine wpList_app rfl _ _ 24 24 rfl _ _ _ rfl rfl (unhide HR2).1 ?_)
          exact ⟨⟨u + 1, _, _, _, by omega, by go_num, rfl, rfl, (unhide HR2).2⟩, by simp [intOf]; omega⟩
        · have hu3 : u = 2 := by omega
          subst hu3
          rw [entv_two] at hm hP
          have HP := hide (And.intro hm hP)
          clear hm hP
          go_wp2_with fail
          exact ⟨⟨k + 1, _, _, _, by omega, by go_num, rfl, (unhide HP).1, (unhide HP).2⟩, by simp [intOf]; omega⟩
    · have hlt' : ¬ (k : Int) < (E : Int) := by omega
      have hkE : k = E := by omega
      subst hkE
      rw [(unhide HN).2, ← unhide HR] at hn
      subst hn
      have HO := hide hO
      clear hO
      go_wp2_with fail
      go_ret
      exact ⟨_, _, rfl, unhide HO⟩
end Go.Proofs.YtjokmlnghpnlbaaDoor

namespace Go.Proofs.YtjokmlnghpnlbaaDoor
open Go.RowKit

/-- Some of a slice's bytes. -/
theorem Sl.sub {w : World} {g o n c : Nat} {l : List Nat} (h : Sl w (.slice (some ⟨g, o, none⟩) n c) l) (a k : Nat) (hk : a + k ≤ l.length) : Sl w (.slice (some ⟨g, o + a, none⟩) k (c - a)) ((l.drop a).take k) := by
  have hl : ((l.drop a).take k).length = k := by rw [List.length_take, List.length_drop]; omega
  obtain ⟨xo, xc, hx⟩ := h.form
  have hnl : n = l.length := by cases hx; rfl
  have hnc : n ≤ c := h.cap _ _ _ rfl
  by_cases h0 : k = 0
  · subst h0
    refine ⟨.inr (.inr ⟨_, _, rfl, by simp⟩), fun _ _ _ e => by cases e; exact Nat.zero_le _, .inl (by simp), fun v hv => by simp at hv⟩
  · refine ⟨.inr (.inl ⟨g, o + a, c - a, by rw [hl], fun j v hv => ?_⟩), fun _ _ _ e => by cases e; omega, .inr (fun g' o' n' c' e => ?_), fun v hv => h.b v (List.mem_of_mem_drop (List.mem_of_mem_take hv))⟩
    · have hj : j < k := by
        have := (List.getElem?_eq_some_iff.1 hv).1
        rw [cellsOf, List.length_map, hl] at this
        exact this
      obtain ⟨g2, o2, e2, hc⟩ := src_cell h.s (a + j) (by omega) h.b
      cases e2
      rw [Nat.add_assoc, hc, ← hv]
      simp only [cellsOf, List.map_take, List.map_drop]
      rw [List.getElem?_take, if_pos hj, List.getElem?_drop, List.getElem?_map, List.getElem?_eq_getElem (by omega)]
      rw [List.getD_eq_getElem?_getD, List.getElem?_eq_getElem (by omega)]
      simp [B, Nat.mod_eq_of_lt (h.b _ (List.getElem_mem (by omega : a + j < l.length)))]
    · cases e
      rcases h.lt with h1 | h1
      · rw [h1] at hk; simp at hk; omega
      · exact h1 _ _ _ _ rfl
theorem st_func (a : Addr) (fn : Fn) (f c : Array Value) (m : Mode) (W : World) : (store a (.func fn f c) m).run Tryd.prog W = stored Tryd.prog W a (.func fn f c) m := run_store _ _ _ _ _ rfl
/-- What a signature's pairs tell. -/
def lt5 (wi : Nat) (h p : List Nat) (J V : Nat) : List Nat := if V = bitv h J then sm wi ((p.drop (2 * J * wi)).take wi) else (p.drop (2 * J * wi + wi)).take wi
/-- What locksTold's closure holds. -/
structure LtAt (w : World) (b0 b1 b2 hb : Nat) (ho : Option Addr) (wi : Nat) (y : Value) (p h : List Nat) : Prop where
  c : w.cell? ⟨b0, 0, none⟩ = some y
  w_ : w.cell? ⟨b1, 0, none⟩ = some (.int .i64 (wi : Int))
  f : w.cell? ⟨b2, 0, none⟩ = some (.func (.func 72) #[] #[.pointer (some ⟨hb, 0, none⟩)])
  bt : BtF w hb ho wi h
  sl : Sl w y p
theorem LtAt.fr0 {w w' : World} {b0 b1 b2 hb : Nat} {ho : Option Addr} {wi : Nat} {y : Value} {p h : List Nat} (H : LtAt w b0 b1 b2 hb ho wi y p h) (hf : Fr (fun _ => False) w w') : LtAt w' b0 b1 b2 hb ho wi y p h :=
  ⟨(hf.cell (lt_of_cell H.c) (fun h => h)).trans H.c, (hf.cell (lt_of_cell H.w_) (fun h => h)).trans H.w_, (hf.cell (lt_of_cell H.f) (fun h => h)).trans H.f, H.bt.fr0 hf, H.sl.fr0 hf⟩
set_option maxRecDepth 100000 in
set_option maxHeartbeats 2000000 in
/-- locksTold. -/
theorem ltold_in (wi : Nat) (hw1 : 1 ≤ wi) (hw32 : wi ≤ 32) (x y : Value) (m p : List Nat) (w : World) (hg : GS w) (hx : Sl w x m) (hy : Sl w y p) (hs : m.length < 9223372036854775808) :
    Calls Tryd.prog 45 #[.int .i64 wi, x, y] w fun e w' => ∃ b0 b1 b2 hb ho, e = .returned (.func (.func 74) #[] #[.pointer (some ⟨b0, 0, none⟩), .pointer (some ⟨b1, 0, none⟩), .pointer (some ⟨b2, 0, none⟩)]) ∧ LtAt w' b0 b1 b2 hb ho wi y p (sm wi m) ∧ Fr (fun _ => False) w w' := by
  have hmf := mf
  have hsf := st_func
  obtain ⟨yo, yc, rfl⟩ := hy.form
  have HS := hide (And.intro (fun w' (hf : Fr (fun _ => False) w w') => lbitsOf_in wi hw1 hw32 x m w' (hg.fr0 hf) (hx.fr0 hf) hs) hy)
  clear hx hg hy
  generalize p.length = PN at *
  obtain ⟨W2, hW2⟩ : ∃ W2, (w.alloc (.cells #[.int .i64 (wi : Int)] 3)).alloc (.cells #[.slice yo PN yc] 24) = W2 := ⟨_, rfl⟩
  have hF2 : Fr (fun _ => False) w W2 := by rw [← hW2]; exact ((Fr.refl _ _).alloc _).alloc _
  have k1 : W2.cell? ⟨w.heap.size, 0, none⟩ = some (.int .i64 (wi : Int)) := by rw [← hW2]; simp [go_sem]
  have k2 : W2.cell? ⟨w.heap.size + 1, 0, none⟩ = some (.slice yo PN yc) := by rw [← hW2]; simp [go_sem]
  have HW := hide (And.intro hF2 (And.intro k1 k2))
  clear hF2 k2
  go_enter Tryd.func45, Tryd.ntmps45
  go_wp2_with fail
  try rw [hW2]
  refine ((unhide HS).1 _ (unhide HW).1).mono ?_
  rintro e w1 ⟨hb, ho, rfl, hB, hF1⟩
  have H1 := hide (And.intro hB hF1)
  clear hB hF1
  go_wp2_with fail
  go_ret
  have hF3 : Fr (fun _ => False) w1 (w1.alloc (.cells #[.func (.func 72) #[] #[.pointer (some ⟨hb, 0, none⟩)]] 47)) := (Fr.refl _ _).alloc _
  have hF13 := (unhide H1).2.trans hF3 (fun _ _ h => h)
  have hF03 := (unhide HW).1.trans hF13 (fun _ _ h => h)
  exact ⟨_, _, _, hb, ho, rfl, ⟨(hF13.cell (lt_of_cell (unhide HW).2.2) (fun h => h)).trans (unhide HW).2.2, (hF13.cell (lt_of_cell (unhide HW).2.1) (fun h => h)).trans (unhide HW).2.1, World.cell?_alloc_at _ _ _ _ rfl, (unhide H1).1.fr0 hF3, (unhide HS).2.fr0 hF03⟩, hF03⟩
set_option maxRecDepth 100000 in
set_option maxHeartbeats 2000000 in
/-- locksTold's closure. -/
theorem ltold1_in (b0 b1 b2 hb wi J V : Nat) (ho : Option Addr) (hw1 : 1 ≤ wi) (hw32 : wi ≤ 32) (hJ : J < 8 * wi) (y : Value) (p h : List Nat) (w : World) (hg : GS w) (hL : LtAt w b0 b1 b2 hb ho wi y p h) (hl : h.length = wi) (hp : p.length = 16 * wi * wi) :
    Calls Tryd.prog 74 #[.int .i64 J, .int .i64 V, .pointer (some ⟨b0, 0, none⟩), .pointer (some ⟨b1, 0, none⟩), .pointer (some ⟨b2, 0, none⟩)] w fun e w' => ∃ yo yc, e = .returned (.slice yo wi yc) ∧ Sl w' (.slice yo wi yc) (lt5 wi h p J V) ∧ Fr (fun _ => False) w w' := by
  have hpos : 2 * J * wi + 2 * wi ≤ p.length := by
    rw [hp]
    have : (2 * J + 2) * wi ≤ 16 * wi * wi := Nat.mul_le_mul_right wi (by omega)
    rw [Nat.add_mul] at this
    exact this
  have hp9 : p.length ≤ 16 * 32 * 32 := by rw [hp]; exact Nat.mul_le_mul (Nat.mul_le_mul_left 16 hw32) hw32
  obtain ⟨yo, yc, rfl⟩ := hL.sl.form
  obtain ⟨g, o, rfl, _⟩ := src_cell hL.sl.s 0 (by omega) hL.sl.b
  have hyc : p.length ≤ yc := hL.sl.cap _ _ _ rfl
  have hs1 := hL.sl.sub (2 * J * wi) wi (by omega)
  have hs2 := hL.sl.sub (2 * J * wi + wi) wi (by omega)
  have hbit := fun w' (hf : Fr (fun _ => False) w w') => lbitsOf1_in hb ho wi J hw32 hJ h w' (hL.bt.fr0 hf) hl
  have hm1 : 2 * (J : Int) * (wi : Int) = ((2 * J * wi : Nat) : Int) := by simp
  have hm2 : 2 * ((J : Int) + 1) * (wi : Int) = ((2 * J * wi : Nat) : Int) + 2 * (wi : Int) := by rw [Int.mul_add, Int.add_mul]; simp
  unfold lt5
  generalize hP : 2 * J * wi = P at *
  have hc0 := hL.c
  have hc1 := hL.w_
  have hc2 := hL.f
  have c1 := fun w' (hf : Fr (fun _ => False) w w') => (hL.fr0 hf).w_
  have hlk := fun w' (hf : Fr (fun _ => False) w w') => llock_in wi hw1 hw32 _ _ w' (hg.fr0 hf) (hs1.fr0 hf) (by rw [List.length_take]; omega)
  have hslen : (sm (wi : Int) ((p.drop P).take wi)).length = wi := by rw [sm_len ⟨by omega, by omega⟩, Int.toNat_natCast]
  have hsb := sm_lt (wi : Int) ((p.drop P).take wi)
  have hbl := bitv_lt h J
  generalize hN : p.length = PN at *
  have HC := hide (And.intro hbit (And.intro hlk (And.intro hs2 (And.intro c1 (And.intro hslen hsb)))))
  have q0 : (0 : Int) ≤ (P : Int) := by omega
  have q3 : (wi : Int) ≤ ((yc - P : Nat) : Int) := by omega
  have q3' : wi ≤ yc - P := by omega
  have q4 : (0 : Int) ≤ (wi : Int) := by omega
  have hJ9 : J < 256 := by omega
  have hP9 : P ≤ 16384 := by omega
  have q1 : (P : Int) ≤ ((P : Int) + 2 * (wi : Int)) := by omega
  have q2 : (P : Int) + 2 * (wi : Int) ≤ (yc : Int) := by omega
  clear hbit hlk hs1 hs2 c1 hslen hsb hL hg hp hJ
  generalize bitv h J = D at *
  by_cases hVD : V = D
  · rw [if_pos hVD]
    subst hVD
    go_enter Tryd.func74, Tryd.ntmps74
    go_wp2_with fail
    refine ((unhide HC).1 _ (Fr.refl _ _)).mono ?_
    rintro e w1 ⟨rfl, hF1⟩
    have d1 := (unhide HC).2.2.2.1 w1 hF1
    have H1 := hide hF1
    clear hF1 hc0 hc1 hc2
    have T1 : True := trivial
    go_wp2_with fail
    go_region_held3 (fun w' => w'.cell? ⟨b1, 0, none⟩ = some (.int .i64 (wi : Int)))
      (first | assumption | exact (unhide HC).2.2.2.1 _ fB)
      (first
        | (go_at_call 66; clear T1; refine ((unhide HC).2.1 _ ((unhide H1).drew)).mono ?_; rintro e wB ⟨zo, rfl, hB⟩; have fB : Fr (fun _ => False) w wB := (unhide H1).drew.trans hB.fr (fun _ _ h => h)))
    have H3 := hide (And.intro ((unhide HC).2.2.2.2.1 ▸ hB.sl (unhide HC).2.2.2.2.2) fB)
    clear fB hB
    go_wp2_with fail
    go_ret
    exact ⟨_, _, rfl, (unhide H3).1, (unhide H3).2⟩
  · rw [if_neg hVD]
    have hVD' : ¬ (V : Int) = (D : Int) := by omega
    go_enter Tryd.func74, Tryd.ntmps74
    go_wp2_with fail
    refine ((unhide HC).1 _ (Fr.refl _ _)).mono ?_
    rintro e w1 ⟨rfl, hF1⟩
    have d1 := (unhide HC).2.2.2.1 w1 hF1
    have H1 := hide hF1
    clear hF1 hc0 hc1 hc2
    go_wp2_with fail
    go_ret
    have e1 : 2 * wi - wi = wi := by omega
    have hs := (unhide HC).2.2.1
    rw [← Nat.add_assoc, Nat.sub_add_eq] at hs
    rw [e1]
    exact ⟨_, _, rfl, hs.fr0 (unhide H1), unhide H1⟩
end Go.Proofs.YtjokmlnghpnlbaaDoor

namespace Go.Proofs.YtjokmlnghpnlbaaDoor
open Go.RowKit

theorem enters {F : Nat} {fn : Func} (hf : Tryd.prog.funcs[F]? = some fn) (hn : (fn.name == "runtime.NumGoroutine") = false) (hb : fn.body.isSome = true) (caps : Array Value) (W : World) : (callFunc F caps).run Tryd.prog W = .ok (.enter F caps) W := by
  have h1 : ¬ fn.name = "runtime.NumGoroutine" := by simpa using hn
  have h2 : ¬ fn.body = none := by intro h; rw [h] at hb; cases hb
  simp [callFunc, hf, h1, h2]
theorem lk_len (wi K : Nat) (hw1 : 1 ≤ wi) (hw32 : wi ≤ 32) (seed : List Nat) (J V : Nat) : (lk wi K seed J V).length = wi := by rw [lk, sm_len ⟨by omega, by omega⟩, Int.toNat_natCast]
theorem lk_lt (wi K : Nat) (seed : List Nat) (J V : Nat) : ∀ v ∈ lk wi K seed J V, v < 256 := sm_lt _ _
/-- A key's locks, as a function value. -/
theorem LkAt.f {w : World} {bk bi kb wi K : Nat} {x : Value} {seed : List Nat} (h : LkAt w bk bi kb wi K x seed) (hg : GS w) (hw1 : 1 ≤ wi) (hw32 : wi ≤ 32) (hK : K < 64) (hs : seed.length < 4611686018427387904) : LkF w 65 #[.pointer (some ⟨bk, 0, none⟩), .pointer (some ⟨bi, 0, none⟩)] wi (lk wi K seed) := by
  refine ⟨fun _ _ W => enters Tryd.func65 rfl rfl _ W, fun w' J V hf hJ hV => ?_, fun J V _ _ => lk_len wi K hw1 hw32 seed J V⟩
  refine (llocks1_in bk bi kb wi K J V hw1 hw32 hK hJ hV x seed w' (hg.fr0 hf) (h.fr0 hf) hs).mono ?_
  rintro e w'' ⟨yo, rfl, hO⟩
  have hS := hO.sl (lk_lt wi K seed J V)
  rw [lk_len wi K hw1 hw32 seed J V] at hS
  exact ⟨yo, wi, rfl, hS, hO.fr⟩
theorem lt5_len (wi : Nat) (hw1 : 1 ≤ wi) (hw32 : wi ≤ 32) (h p : List Nat) (J V : Nat) (hJ : J < 8 * wi) (hp : p.length = 16 * wi * wi) : (lt5 wi h p J V).length = wi := by
  have : (2 * J + 2) * wi ≤ 16 * wi * wi := Nat.mul_le_mul_right wi (by omega)
  rw [Nat.add_mul] at this
  unfold lt5
  split
  · rw [sm_len ⟨by omega, by omega⟩, Int.toNat_natCast]
  · rw [List.length_take, List.length_drop]; omega
/-- A signature's locks, as a function value. -/
theorem LtAt.f5 {w : World} {b0 b1 b2 hb wi : Nat} {ho : Option Addr} {y : Value} {p h : List Nat} (H : LtAt w b0 b1 b2 hb ho wi y p h) (hg : GS w) (hw1 : 1 ≤ wi) (hw32 : wi ≤ 32) (hl : h.length = wi) (hp : p.length = 16 * wi * wi) : LkF w 74 #[.pointer (some ⟨b0, 0, none⟩), .pointer (some ⟨b1, 0, none⟩), .pointer (some ⟨b2, 0, none⟩)] wi (lt5 wi h p) :=
  ⟨fun _ _ W => enters Tryd.func74 rfl rfl _ W, fun w' J V hf hJ _ => ltold1_in b0 b1 b2 hb wi J V ho hw1 hw32 hJ y p h w' (hg.fr0 hf) (H.fr0 hf) hl hp, fun J V hJ _ => lt5_len wi hw1 hw32 h p J V hJ hp⟩
/-- The hashes that lie in l, one behind the other. -/
def cuts (wi : Nat) (l : List Nat) (n : Nat) : List (List Nat) := (List.range n).map fun j => (l.drop (j * wi)).take wi
def cvs (wi g o c n : Nat) : List Value := (List.range n).map fun j => .slice (some ⟨g, o + j * wi, none⟩) wi (c - j * wi)
theorem cvs_len (wi g o c n : Nat) : (cvs wi g o c n).length = n := by simp [cvs]
theorem cvs_succ (wi g o c n : Nat) : cvs wi g o c (n + 1) = cvs wi g o c n ++ [.slice (some ⟨g, o + n * wi, none⟩) wi (c - n * wi)] := by simp [cvs, List.range_succ]
def slen : Value → Nat
  | .slice _ m _ => m
  | _ => 0
set_option maxRecDepth 100000 in
set_option maxHeartbeats 2000000 in
/-- cut. -/
theorem lcut_any (wi n : Nat) (hw1 : 1 ≤ wi) (hw32 : wi ≤ 32) (hn : n ≤ 64) (xo : Option Addr) (c : Nat) (l : List Nat) (w : World) (hx : Sl w (.slice xo (n * wi) c) l) (hl : l.length = n * wi) :
    Calls Tryd.prog 47 #[.int .i64 wi, .slice xo (n * wi) c] w fun e w' => ∃ ao cp us, e = .returned (.slice ao n cp) ∧ Pcs w' (.slice ao n cp) us (cuts wi l n) ∧ Cp (.slice ao n cp) ∧ Fr (fun _ => False) w w' := by
  obtain ⟨g, o, hxo⟩ : ∃ g o, n = 0 ∨ xo = some ⟨g, o, none⟩ := by
    by_cases h0 : n = 0
    · exact ⟨0, 0, .inl h0⟩
    · have : 1 * wi ≤ n * wi := Nat.mul_le_mul_right wi (by omega)
      obtain ⟨g, o, h, _⟩ := src_cell hx.s 0 (by omega) hx.b
      exact ⟨g, o, .inr h⟩
  have hcap : n * wi ≤ c := hx.cap _ _ _ rfl
  have hL9 : n * wi ≤ 64 * 32 := Nat.mul_le_mul hn hw32
  have hfin : ∀ w' ao cp, OS w w' ao cp (cvs wi g o c n) → Pcs w' (.slice ao n cp) (cvs wi g o c n) (cuts wi l n) ∧ Cp (.slice ao n cp) ∧ Fr (fun _ => False) w w' := fun w' ao cp hO => by
    have hP := hO.pcs (ps := cuts wi l n) (by simp [cvs, cuts]) (fun j v p hv hp => by
      have hj : j < n := by
        have := (List.getElem?_eq_some_iff.1 hv).1
        rwa [cvs_len] at this
      have e1 : v = .slice (some ⟨g, o + j * wi, none⟩) wi (c - j * wi) := by
        simp [cvs, List.getElem?_range hj] at hv; exact hv.symm
      have e2 : p = (l.drop (j * wi)).take wi := by
        simp [cuts, List.getElem?_range hj] at hp; exact hp.symm
      rw [e1, e2]
      rcases hxo with h0 | h0
      · omega
      · subst h0
        have : (j + 1) * wi ≤ n * wi := Nat.mul_le_mul_right wi hj
        rw [Nat.add_mul, Nat.one_mul] at this
        exact (hx.fr0 hO.fr).sub (j * wi) wi (by omega))
    rw [cvs_len] at hP
    refine ⟨hP, fun a m b e => ?_, hO.fr⟩
    cases e
    rcases hO.own.2 with ⟨e, e2⟩ | ⟨g, cap, cur, e, _, _, h3, _⟩
    · rw [cvs_len] at e2; omega
    · simp only [Value.slice.injEq, true_and] at e
      rw [cvs_len] at h3
      rw [e.2]; exact h3
  have HF := hide hfin
  clear hfin
  have hx0 : n = 0 ∨ xo = some ⟨g, o, none⟩ := hxo
  generalize hL : n * wi = L at *
  go_enter Tryd.func47, Tryd.ntmps47
  go_wp2_with fail
  go_loopw [5, 1] (fun v bv wr => ∃ (k : Nat) (ao : Option Addr) (cp : Nat), k ≤ n ∧ v = .slice ao k cp ∧ OS w wr ao cp (cvs wi g o c k) ∧ ((k < n ∧ bv = .slice (some ⟨g, o + k * wi, none⟩) ((n - k) * wi) (c - k * wi)) ∨ (k = n ∧ ∃ bo bc, bv = .slice bo 0 bc))) (fun v _ _ => n - slen v)
  case atStart =>
    refine ⟨0, none, 0, Nat.zero_le _, rfl, OS.nil w, ?_⟩
    rcases hx0 with h0 | h0
    · right
      subst h0
      rw [Nat.zero_mul] at hL
      subst hL
      exact ⟨rfl, _, _, rfl⟩
    · by_cases h1 : n = 0
      · right
        subst h1
        rw [Nat.zero_mul] at hL
        subst hL
        exact ⟨rfl, _, _, rfl⟩
      · left
        refine ⟨by omega, ?_⟩
        rw [h0, Nat.zero_mul, Nat.add_zero, Nat.sub_zero, Nat.sub_zero, hL]
  case round =>
    obtain ⟨k, ao, cp, hk, rfl, hO, hb⟩ := hrel
    rcases hb with ⟨hlt, rfl⟩ | ⟨rfl, bo, bc, rfl⟩
    · have e1 : (n - k) * wi = (n - k - 1) * wi + wi := by
        have : n - k = n - k - 1 + 1 := by omega
        conv => lhs; rw [this, Nat.add_mul, Nat.one_mul]
      have e2 : k * wi + (n - k) * wi = L := by rw [← Nat.add_mul, ← hL]; congr 1; omega
      have e3 : (k + 1) * wi = k * wi + wi := by rw [Nat.add_mul, Nat.one_mul]
      have e4 : (n - (k + 1)) * wi = (n - k - 1) * wi := by congr 1
      have e5 : n - k - 1 = 0 → (n - k - 1) * wi = 0 := fun h => by rw [h, Nat.zero_mul]
      have e6 : ¬ n - k - 1 = 0 → wi ≤ (n - k - 1) * wi := fun h => Nat.le_mul_of_pos_left wi (by omega)
      obtain ⟨a2, c2, w2, hr2, hO2, _⟩ := hO.app1 (some ⟨g, o + k * wi, none⟩) wi (c - k * wi) (by rw [cvs_len]; omega)
      rw [cvs_len] at hr2
      rw [← cvs_succ] at hO2
      have HR := hide (And.intro hr2 hO2)
      have HE := hide (And.intro e3 e4)
      clear hr2 hO2 hO e3 e4
      obtain ⟨M, hM0⟩ : ∃ M, (n - k - 1) * wi = M := ⟨_, rfl⟩
      have HM := hide (show (n - (k + 1)) * wi = M by rw [Nat.sub_add_eq]; exact hM0)
      rw [hM0] at e1 e5 e6
      clear hM0
      generalize (n - k) * wi = M1 at *
      subst e1
      generalize hKW : k * wi = KW at *
      generalize hCK : c - KW = CK at *
      have q1 : wi ≤ CK := by omega
      have q2 : M + wi ≤ CK := by omega
      have q3 : 0 < M + wi := by omega
      by_cases hc : wi = CK
      · have hM : M = 0 := by omega
        have hk1 : k + 1 = n := by
          by_cases h : n - k - 1 = 0
          · omega
          · have := e6 h; omega
        have HK := hide hk1
        clear hk1 e5 e6
        subst hM
        subst hc
        rw [Nat.zero_add] at *
        go_wp2_with (at_builtin; refine wpList_app rfl _ _ 40 40 rfl _ _ _ rfl rfl (unhide HR).1 ?_)
        exact ⟨⟨k + 1, a2, c2, by omega, rfl, (unhide HR).2, .inr ⟨unhide HK, _, _, rfl⟩⟩, by simp [slen]; omega⟩
      · have hc' : ¬ CK = wi := fun h => hc h.symm
        go_wp2_with (at_builtin; refine wpList_app rfl _ _ 40 40 rfl _ _ _ rfl rfl (unhide HR).1 ?_)
        refine ⟨⟨k + 1, a2, c2, by omega, rfl, (unhide HR).2, ?_⟩, by simp [slen]; omega⟩
        by_cases h : n - k - 1 = 0
        · rw [e5 h]
          exact .inr ⟨by omega, _, _, rfl⟩
        · refine .inl ⟨by omega, ?_⟩
          rw [(unhide HM), (unhide HE).1, Nat.add_assoc, ← hCK, Nat.sub_sub]
    · have HO := hide ((unhide HF) _ _ _ hO)
      clear hO
      go_wp2_with fail
      go_ret
      exact ⟨_, _, _, rfl, unhide HO⟩
end Go.Proofs.YtjokmlnghpnlbaaDoor

namespace Go.Proofs.YtjokmlnghpnlbaaDoor
open Go.RowKit

/-- A struct of three cells that was boxed. -/
theorem box3 {w wA : World} {a b c : Value} {ty : Nat} (hf : Fr (fun _ => False) (w.alloc (.cells #[a, b, c] ty)) wA) :
    wA.cell? ⟨w.heap.size, 0, none⟩ = some a ∧ wA.cell? ⟨w.heap.size, 1, none⟩ = some b ∧ wA.cell? ⟨w.heap.size, 2, none⟩ = some c ∧ Fr (fun _ => False) w wA := by
  have hc : ∀ j, wA.cell? ⟨w.heap.size, j, none⟩ = (#[a, b, c] : Array Value)[j]? := fun j => (hf.cell (p := ⟨w.heap.size, j, none⟩) (by simp) (fun h => h)).trans (World.cell?_alloc_at _ _ _ _ rfl)
  exact ⟨hc 0, hc 1, hc 2, ((Fr.refl _ _).alloc _).trans hf (fun _ _ h => h)⟩
theorem pow_lt63 {h n : Nat} (hl : 2 ^ h ≤ n) (hn : n ≤ 8000000) : h < 24 := by
  apply Classical.byContradiction
  intro hc
  have : 2 ^ 24 ≤ 2 ^ h := Nat.pow_le_pow_right (by decide) (by omega)
  have h5 : (2 : Nat) ^ 24 = 16777216 := by decide
  omega
set_option maxRecDepth 100000 in
set_option maxHeartbeats 1000000 in
theorem root_whole (tb wi : Nat) (hw1 : 1 ≤ wi) (hw32 : wi ≤ 32) (L : List (List Nat)) (f h : Nat) (w : World) (hT : Tk w tb wi L) (hA : Al f (2 ^ h)) (hl : f + 2 ^ h ≤ L.length) : RootSays tb wi L f (2 ^ h) w := by
  unfold RootSays
  have hle : L.length ≤ 8000000 := hT.len
  have hLw : ∀ p ∈ L, p.length = wi := hT.wid
  have hgt : GT w := hT.gt
  have hp : 0 < 2 ^ h := Nat.pow_pos (by decide)
  have hh := pow_lt63 (h := h) (n := L.length) (by omega) hle
  have hq := hA.whole
  have hwh : ∀ w', Calls Tryd.prog 91 #[pv (.pointer (some ⟨tb, 0, none⟩)) f (2 ^ h)] w' fun e w'' => e = .returned (.bool true) ∧ Fr (fun _ => False) w' w'' := fun w' => by
    have := whole_any (some ⟨tb, 0, none⟩) f (2 ^ h) w' (by omega)
    rw [decide_eq_true (oc_pow h (by omega))] at this
    exact this
  have htz : ∀ w', Fr (fun _ => False) w w' → Calls Tryd.prog 92 #[.int .u64 ((2 ^ h : Nat) : Int)] w' fun e w'' => e = .returned (.int .i64 (h : Nat)) ∧ w'' = w' := fun w' hf => by
    have := tz_any (2 ^ h) (by omega) w' (fun _ => (hgt.fr0 hf).1)
    rw [ctz_pow h (by omega)] at this
    exact this
  have hM := mth_wid wi hw1 hw32 (blk L f (2 ^ h)) (fun p hp => hLw p (blk_mem _ _ _ p hp))
  have hkept : ∀ w', Fr (fun _ => False) w w' → Calls Tryd.prog 88 #[.pointer (some ⟨tb, 0, none⟩), .int .i64 h, .int .i64 ((f / 2 ^ h : Nat) : Int)] w' fun e w'' => ∃ g J c, e = .returned (.slice (some ⟨g, J, none⟩) wi c) ∧ Fr (fun _ => False) w' w'' ∧ Sl w'' (.slice (some ⟨g, J, none⟩) wi c) (mth wi (blk L f (2 ^ h))) := fun w' hf => by
    have := (hT.fr0 hf).kept hw1 hw32 h (f / 2 ^ h) (by rw [Nat.succ_mul, hq]; exact hl)
    rw [hq] at this
    exact this
  generalize mth wi (blk L f (2 ^ h)) = M at *
  have hdiv : Int.tdiv (f : Int) ((2 ^ h : Nat) : Int) = ((f / 2 ^ h : Nat) : Int) := by rw [Int.tdiv_eq_ediv_of_nonneg (by omega)]; rfl
  have hfq : f / 2 ^ h ≤ f := Nat.div_le_self _ _
  generalize f / 2 ^ h = q at *
  generalize hn : 2 ^ h = n at *
  have hwq : IntKind.i64.wrap (q : Int) = (q : Int) := by rw [IntKind.wrap_i64]; omega
  have hcv : IntKind.u64.wrap (n : Int) = (n : Int) := by rw [IntKind.wrap_u64]; omega
  have hn0 : ¬ n = 0 := by omega
  have hnz : ((n : Int) == 0) = false := beq_false_of_ne (by omega)
  have hclone : ∀ g J c w', Sl w' (.slice (some ⟨g, J, none⟩) wi c) M → Calls Tryd.prog 35 #[.slice (some ⟨g, J, none⟩) wi c] w' fun e w'' => ∃ yo yc, e = .returned (.slice yo wi yc) ∧ OB w' w'' yo yc M := fun g J c w' hs => clone_any g J wi c M w' hs hM (by omega)
  have HC := hide (And.intro hwh (And.intro htz (And.intro hkept hclone)))
  clear hwh htz hkept hclone hT hgt hLw hq hA hl hM hle hfq hn hp hh
  unfold pv at HC ⊢
  go_enter Tryd.func73, Tryd.ntmps73
  go_wp2_with fail
  refine ((unhide HC).1 _).mono ?_
  rintro e wA ⟨rfl, hFA⟩
  obtain ⟨b0, b1, b2, hFw⟩ := box3 hFA
  have HFA := hide hFw
  have lP := lt_of_cell b0
  clear hFA hFw
  generalize w.heap.size = P0 at *
  go_wp2_with fail
  go_region_held3 (fun w' => w'.cell? ⟨P0, 0, none⟩ = some (.pointer (some ⟨tb, 0, none⟩)) ∧ w'.cell? ⟨P0, 1, none⟩ = some (.int .i64 f) ∧ w'.cell? ⟨P0, 2, none⟩ = some (.int .i64 n))
    (first | assumption | exact ⟨b0, b1, b2⟩ | exact ⟨(fD.cell (p := ⟨P0, 0, none⟩) lP (fun h => h)).trans b0, (fD.cell (p := ⟨P0, 1, none⟩) lP (fun h => h)).trans b1, (fD.cell (p := ⟨P0, 2, none⟩) lP (fun h => h)).trans b2⟩ | exact ⟨(fC.cell (p := ⟨P0, 0, none⟩) lP (fun h => h)).trans b0, (fC.cell (p := ⟨P0, 1, none⟩) lP (fun h => h)).trans b1, (fC.cell (p := ⟨P0, 2, none⟩) lP (fun h => h)).trans b2⟩)
    (first
      | (go_at_call 92; refine ((unhide HC).2.1 _ (by first | exact (unhide HFA).drew | exact (unhide HFA))).mono ?_; rintro e wB ⟨rfl, rfl⟩)
      | (go_at_call 88; refine ((unhide HC).2.2.1 _ (by first | exact (unhide HFA).drew | exact (unhide HFA))).mono ?_; rintro e wC ⟨g, J, c, rfl, fC, sC⟩)
      | (go_at_call 35; refine ((unhide HC).2.2.2 _ _ _ _ sC).mono ?_; rintro e wD ⟨yo, yc, rfl, oD⟩; have fD := fC.trans oD.fr (fun _ _ h => h)))
  have HE := hide (oD.base' ((unhide HFA).drew.trans fC (fun _ _ h => h)))
  clear fC sC oD fD
  go_wp2_with fail
  go_ret
  exact ⟨yo, yc, rfl, unhide HE⟩
set_option maxRecDepth 100000 in
set_option maxHeartbeats 1000000 in
theorem root_split (tb wi : Nat) (hw1 : 1 ≤ wi) (hw32 : wi ≤ 32) (L : List (List Nat)) (f n : Nat) (w : World) (hT : Tk w tb wi L) (h3 : 3 ≤ n) (hnw : oc n ≠ 1) (hl : f + n ≤ L.length)
    (ih1 : ∀ w', Tk w' tb wi L → RootSays tb wi L f (hf n) w') (ih2 : ∀ w', Tk w' tb wi L → RootSays tb wi L (f + hf n) (n - hf n) w') : RootSays tb wi L f n w := by
  unfold RootSays at *
  have hle : L.length ≤ 8000000 := hT.len
  have hgs : GS w := hT.gs
  have hwh : ∀ w', Calls Tryd.prog 91 #[pv (.pointer (some ⟨tb, 0, none⟩)) f n] w' fun e w'' => e = .returned (.bool false) ∧ Fr (fun _ => False) w' w'' := fun w' => by
    have := whole_any (some ⟨tb, 0, none⟩) f n w' (by omega)
    rw [decide_eq_false hnw] at this
    exact this
  have hpt := fun w' => parts_any (some ⟨tb, 0, none⟩) f n w' (by omega) (by omega)
  have hM1 := hT.mw hw1 hw32 f (hf n)
  have hM2 := hT.mw hw1 hw32 (f + hf n) (n - hf n)
  have hb1 := hT.mb f (hf n)
  have hb2 := hT.mb (f + hf n) (n - hf n)
  have hMM := blk_halves L f n (by omega) hl wi
  have r1 := fun w' (hf : Fr (fun _ => False) w w') => ih1 w' (hT.fr0 hf)
  have r2 := fun w' (hf : Fr (fun _ => False) w w') => ih2 w' (hT.fr0 hf)
  rw [hMM]
  clear hMM ih1 ih2
  have hnd := nd_len wi hw1 hw32 (mth wi (blk L f (hf n))) (mth wi (blk L (f + hf n) (n - hf n)))
  generalize mth wi (blk L f (hf n)) = M1 at *
  generalize mth wi (blk L (f + hf n) (n - hf n)) = M2 at *
  generalize f + hf n = F2 at *
  generalize n - hf n = N2 at *
  generalize hf n = K at *
  have hnode : ∀ w' x y, GS w' → Sl w' x M1 → Sl w' y M2 → Calls Tryd.prog 87 #[.int .i64 wi, x, y] w' fun e w'' => ∃ yo, e = .returned (.slice yo wi wi) ∧ OB w' w'' yo wi (nd wi M1 M2) := fun w' x y hg hx hy => by
    have := node_any (wi : Int) x y M1 M2 w' hg hx hy (by omega) (by omega)
    rw [hnd] at this
    exact this
  obtain ⟨c0, c1, htb⟩ := hT.c0
  have HC := hide (And.intro hwh (And.intro hpt (And.intro r1 (And.intro r2 (And.intro hnode (And.intro hgs (And.intro hb1 (And.intro hb2 (And.intro hM1 hM2)))))))))
  have hn0 : ((n : Int) == 0) = false := beq_false_of_ne (by omega)
  have hn1 : ¬ n = 0 := by omega
  clear hwh hpt r1 r2 hnode hT hgs hb1 hb2 hM1 hM2 hle hl hnw hnd c1
  unfold pv at HC ⊢
  go_enter Tryd.func73, Tryd.ntmps73
  go_wp2_with fail
  refine ((unhide HC).1 _).mono ?_
  rintro e wA ⟨rfl, hFA⟩
  obtain ⟨b0, b1, b2, hFw⟩ := box3 hFA
  have HFA := hide hFw
  clear hFA hFw
  generalize hP0 : w.heap.size = P0 at *
  go_wp2_with fail
  refine ((unhide HC).2.1 _).mono ?_
  rintro e wB ⟨rfl, hFB⟩
  have a0 := (hFB.cell (p := ⟨P0, 0, none⟩) (lt_of_cell b0) (fun h => h)).trans b0
  have HFB := hide ((unhide HFA).trans hFB (fun _ _ h => h))
  clear hFB b0 b1 b2 HFA
  go_wp2_with fail
  obtain ⟨W, hW⟩ : ∃ W, (wB.alloc (.cells #[.pointer (some ⟨tb, 0, none⟩), .int .i64 f, .int .i64 K] 94)).alloc (.cells #[.pointer (some ⟨tb, 0, none⟩), .int .i64 F2, .int .i64 N2] 94) = W := ⟨_, rfl⟩
  rw [hW]
  obtain ⟨x0, x1, x2, y0, y1, y2, hFW⟩ := two3 wB _ _ _ _ _ _ _ W hW
  have p0 := (hFW.cell (p := ⟨P0, 0, none⟩) (lt_of_cell a0) (fun h => h)).trans a0
  have HFW := hide ((unhide HFB).trans hFW (fun _ _ h => h))
  have t0 := ((unhide HFW).cell (p := ⟨tb, 0, none⟩) (lt_of_cell c0) (fun h => h)).trans c0
  clear hW hFW a0
  generalize wB.heap.size = Z at *
  have hS : ∀ w', Fr (fun _ => False) W w' → w'.cell? ⟨P0, 0, none⟩ = some (.pointer (some ⟨tb, 0, none⟩)) ∧ w'.cell? ⟨tb, 0, none⟩ = some (.int .i64 wi) ∧ w'.cell? ⟨Z, 0, none⟩ = some (.pointer (some ⟨tb, 0, none⟩)) ∧ w'.cell? ⟨Z, 1, none⟩ = some (.int .i64 f) ∧ w'.cell? ⟨Z, 2, none⟩ = some (.int .i64 K) ∧ w'.cell? ⟨Z + 1, 0, none⟩ = some (.pointer (some ⟨tb, 0, none⟩)) ∧ w'.cell? ⟨Z + 1, 1, none⟩ = some (.int .i64 F2) ∧ w'.cell? ⟨Z + 1, 2, none⟩ = some (.int .i64 N2) := fun w' hf =>
    ⟨(hf.cell (lt_of_cell p0) (fun h => h)).trans p0, (hf.cell (lt_of_cell t0) (fun h => h)).trans t0, (hf.cell (lt_of_cell x0) (fun h => h)).trans x0, (hf.cell (lt_of_cell x1) (fun h => h)).trans x1, (hf.cell (lt_of_cell x2) (fun h => h)).trans x2, (hf.cell (lt_of_cell y0) (fun h => h)).trans y0, (hf.cell (lt_of_cell y1) (fun h => h)).trans y1, (hf.cell (lt_of_cell y2) (fun h => h)).trans y2⟩
  have HS := hide hS
  clear hS
  have T1 : True := trivial
  go_region_held3 (fun w' => w'.cell? ⟨P0, 0, none⟩ = some (.pointer (some ⟨tb, 0, none⟩)) ∧ w'.cell? ⟨tb, 0, none⟩ = some (.int .i64 wi) ∧ w'.cell? ⟨Z, 0, none⟩ = some (.pointer (some ⟨tb, 0, none⟩)) ∧ w'.cell? ⟨Z, 1, none⟩ = some (.int .i64 f) ∧ w'.cell? ⟨Z, 2, none⟩ = some (.int .i64 K) ∧ w'.cell? ⟨Z + 1, 0, none⟩ = some (.pointer (some ⟨tb, 0, none⟩)) ∧ w'.cell? ⟨Z + 1, 1, none⟩ = some (.int .i64 F2) ∧ w'.cell? ⟨Z + 1, 2, none⟩ = some (.int .i64 N2))
    (first | assumption | exact (unhide HS) _ (Fr.refl _ _).drew | exact (unhide HS) _ fE | exact (unhide HS) _ fD | exact (unhide HS) _ fC)
    (first
      | (go_at_call 73; clear T1; refine ((unhide HC).2.2.1 _ (by exact (unhide HFW).drew)).mono ?_; rintro e wC ⟨zo, zc, rfl, oC⟩; have fC : Fr (fun _ => False) W wC := (Fr.refl _ _).drew.trans oC.fr (fun _ _ h => h))
      | (go_at_call 73; refine ((unhide HC).2.2.2.1 _ (by exact (unhide HFW).trans fC (fun _ _ h => h))).mono ?_; rintro e wD ⟨yo, yc, rfl, oD⟩; have fD : Fr (fun _ => False) W wD := fC.trans oD.fr (fun _ _ h => h))
      | (go_at_call 87; refine ((unhide HC).2.2.2.2.1 _ _ _ (by exact (unhide HC).2.2.2.2.2.1.fr0 ((unhide HFW).trans fD (fun _ _ h => h))) (by have h := (oC.sl (unhide HC).2.2.2.2.2.2.1).fr0 oD.fr; rw [(unhide HC).2.2.2.2.2.2.2.2.1] at h; exact h) (by have h := oD.sl (unhide HC).2.2.2.2.2.2.2.1; rw [(unhide HC).2.2.2.2.2.2.2.2.2] at h; exact h)).mono ?_; rintro e wE ⟨vo, rfl, oE⟩; have fE : Fr (fun _ => False) W wE := fD.trans oE.fr (fun _ _ h => h)))
  have HE := hide (oE.base' ((unhide HFW).trans fD (fun _ _ h => h)))
  clear oC oD oE fC fD fE
  go_wp2_with fail
  go_ret
  exact ⟨vo, wi, rfl, unhide HE⟩
/-- The root of a part. -/
theorem root_any (tb wi : Nat) (hw1 : 1 ≤ wi) (hw32 : wi ≤ 32) (L : List (List Nat)) (m : Nat) : ∀ (f n : Nat) (w : World), n ≤ m → Tk w tb wi L → Al f n → f + n ≤ L.length → RootSays tb wi L f n w := by
  induction m with
  | zero =>
    intro f n w hm hT _ _
    have e : n = 0 := by omega
    subst e
    exact root_nil tb wi hw1 hw32 L f w hT
  | succ m ih =>
    intro f n w hm hT hA hl
    by_cases h0 : n = 0
    · subst h0
      exact root_nil tb wi hw1 hw32 L f w hT
    · have hle := hT.len
      by_cases h1 : oc n = 1
      · obtain ⟨k, rfl⟩ := oc_one n (by omega) h1
        exact root_whole tb wi hw1 hw32 L f k w hT hA hl
      · have h3 : 3 ≤ n := by
          have e1 : n ≠ 1 := fun e => h1 (by rw [e]; exact oc_pow 0 (by decide))
          have e2 : n ≠ 2 := fun e => h1 (by rw [e]; exact oc_pow 1 (by decide))
          omega
        have hlt := hf_lt n (by omega)
        have hpos := hf_pos n
        obtain ⟨hA1, hA2⟩ := hA.halves (by omega)
        exact root_split tb wi hw1 hw32 L f n w hT h3 h1 hl (fun w' hT' => ih f (hf n) w' (by omega) hT' hA1 (by omega)) (fun w' hT' => ih (f + hf n) (n - hf n) w' (by omega) hT' hA2 (by omega))
end Go.Proofs.YtjokmlnghpnlbaaDoor

