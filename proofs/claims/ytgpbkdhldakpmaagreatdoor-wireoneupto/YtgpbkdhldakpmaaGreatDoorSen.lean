import Derived.Test.YtgpbkdhldakpmaaGreatDoorApp
import Derived.Test.YtgpbkdhldakpmaaGreatDoorCards
import Derived.Test.YtgpbkdhldakpmaaGreatDoorTie
import Derived.WalkKit
import Derived.ProofKit
import Derived.OpenShut
import Derived.LaidLaws
import Derived.Deep.DeepHandedRow
import Derived.Deep.DeepWitnessRowRef
namespace Go.Proofs.YtgpbkdhldakpmaaGreatDoor
open Go.ChangeShapes Go.WideShapes Go.ChangeAt Go.RowKit
set_option maxRecDepth 100000

theorem Tryz.ownKnob : ownKnob Tryz.prog.godebug = none := by kernel_rfl
theorem Tryz.nameES : Tryz.prog.typeName? 3 249 = some "*errors.errorString" := by kernel_rfl
theorem Tryz.cellsES : Tryz.prog.cellsOf 273 = 1 := by kernel_rfl
theorem Tryz.cellsS : Tryz.prog.cellsOf 9 = 1 := by kernel_rfl
theorem Tryz.cellsU8 : Tryz.prog.cellsOf 5 = 1 := by kernel_rfl
theorem Tryz.star : "*" ++ "errors.errorString" = "*errors.errorString" := by decide
theorem Tryz.rowES (u : TypeId) (h : Tryz.prog.typeName? 3 u = some "*errors.errorString") : u = 249 :=
  typeName_ptr_named (nm := "errors.errorString") (by rw [Tryz.star]; kernel_rfl) (by kernel_rfl) (by decide) u (by rw [Tryz.star]; exact h)

theorem laid_in {W : World} : ∀ {l : List (String × DataW Unit)} {ps : List MemPlace}, DataW.LaidVars Tryz.prog W l ps → ∀ {nm : String} {d : DataW Unit}, (nm, d) ∈ l →
    ∃ g t cs fuel p, Tryz.prog.globalNamed nm = some g ∧ (Tryz.prog.globals[g]?).map (·.type) = some t ∧ W.var? Tryz.prog nm = some cs ∧ DataW.trod (H := Unit) (fun _ => ()) Tryz.prog W 0 (fun _ => true) false fuel t cs.toList = some (d, p) ∧ ∀ x ∈ MemPlace.row ⟨g, 0, none⟩ cs.size, x ∈ ps := by
  intro l
  induction l with
  | nil => intro ps _ nm d hm; cases hm
  | cons y r ih =>
    intro ps h nm d hm
    obtain ⟨n, dd⟩ := y
    obtain ⟨g, t, cs, fuel, p, q, hg, ht, hv, hd, hr, rfl⟩ := h
    rcases List.mem_cons.1 hm with e | hm
    · cases e
      exact ⟨g, t, cs, fuel, p, hg, ht, hv, hd, fun x hx => by simp [hx]⟩
    · obtain ⟨g', t', cs', fuel', p', a1, a2, a3, a4, a5⟩ := ih hr hm
      exact ⟨g', t', cs', fuel', p', a1, a2, a3, a4, fun x hx => by simp [a5 x hx]⟩

/-- What a listed sentinel gives a walk: its variable's cell. -/
theorem sentinel_cell {W : World} {laid : List (String × DataW Unit)} (hL : laidMet Tryz.prog laid W) {nm : String} {text : List UInt8} (hm : (nm, DataW.iface "*errors.errorString" (.ptr (.agg [.lit (.string text)]))) ∈ laid) {g : Nat} (hg : Tryz.prog.globalNamed nm = some g) (hty : (Tryz.prog.globals[g]?).map (·.type) = some 48) :
    ∃ ea, W.cell? ⟨g, 0, none⟩ = some (.iface 249 (.pointer (some ea))) := by
  obtain ⟨ps, hv, hnd, hrows⟩ := hL
  obtain ⟨g', t, cs, fuel, p, a1, a2, a3, a4, a5⟩ := laid_in hv hm
  obtain rfl := Option.some.inj (hg.symm.trans a1)
  obtain rfl := Option.some.inj (hty.symm.trans a2)
  obtain ⟨l0⟩ := cs
  have hok0 : ∀ u v, l0 = [.iface u v] → Value.okWide Tryz.prog W .any 0 u v := fun u v e => by
    subst e
    exact (hrows g 0 (a5 _ (by simp [MemPlace.row]))).2 u v (by simpa using World.var?_cell hg a3 0)
  obtain ⟨a0, s0, rfl, hc0, hs0, hz0, rfl⟩ := errorString_of_trod Tryz.underlying48 Tryz.rowES Tryz.underlying249 Tryz.underlying273 rfl rfl Tryz.underlying9 Tryz.cellsES Tryz.cellsS a4 hok0
  exact ⟨a0, by simpa using World.var?_cell hg a3 0⟩

theorem bulk_lits {H : Type} (zs : List Int) : Rows.uptoBulkAll (lits .u8 zs : List (DataW H)) = zs.length := by
  induction zs with
  | nil => rfl
  | cons z r ih =>
    have e : (lits .u8 (z :: r) : List (DataW H)) = .lit (.int .u8 z) :: lits .u8 r := rfl
    rw [e, Rows.uptoBulkAll, ih, Rows.uptoBulk, List.length_cons]
    · omega
    · intro bytes h; cases h
/-- A slice of bytes that came in. -/
theorem src_of_reading {H : Type} {enc : TypeId × Value → H} {W : World} {base : Nat} {v : Value} {d : DataW H} {p : List MemPlace} (hval : Value.okWide Tryz.prog W .any base 31 v) (h : DataW.Trod enc Tryz.prog W 0 (fun _ => true) true 31 v d p) :
    ∃ l : List Nat, Src W v l ∧ l.length ≤ Rows.uptoBulk d := by
  obtain ⟨a0, len, cap, rfl⟩ := okWide_slice Tryz.underlying31 hval
  obtain ⟨fuel, hf⟩ := h
  rcases open_ints Tryz.underlying31 Tryz.underlying5 Tryz.cellsU8 hf with ⟨hcs, hx⟩ | ⟨a, len', cap', zs, hcs, _, hl, hm, hz, hx, hcell, hwz⟩
  · simp [Value.cells] at hcs
    obtain ⟨rfl, rfl, rfl⟩ := hcs
    exact ⟨[], .inl ⟨rfl, rfl⟩, Nat.zero_le _⟩
  · simp [Value.cells] at hcs
    obtain ⟨rfl, rfl, rfl⟩ := hcs
    simp only [Prod.mk.injEq] at hx
    obtain ⟨rfl, -⟩ := hx
    simp only [if_true] at hz
    have hlen : ((zs.take len).map Int.toNat).length = len := by simp; omega
    have hbulk : len ≤ Rows.uptoBulk (DataW.slice (lits .u8 (zs.take len)) (lits .u8 (zs.drop len)) : DataW H) := by
      have h1 := bulk_lits (H := H) (zs.take len)
      have h2 : (zs.take len).length = len := by simp; omega
      simp only [Rows.uptoBulk]
      omega
    by_cases h0 : len = 0
    · subst h0
      exact ⟨[], .inr (.inr ⟨a, cap, rfl, rfl⟩), Nat.zero_le _⟩
    · obtain ⟨b, off, rfl, hc⟩ := ints_at hcell (show 0 < zs.length by omega)
      refine ⟨(zs.take len).map Int.toNat, .inr (.inl ⟨b, off, cap, by rw [hlen], fun j v hv => ?_⟩), by rw [hlen]; exact hbulk⟩
      have hj : j < len := by
        have := (List.getElem?_eq_some_iff.1 hv).1
        simp [cellsOf] at this; omega
      rw [hc j (by omega)]
      have hw := bounds_u8 (hwz (zs.getD j 0) (by simp [List.getD, show j < zs.length by omega]))
      rw [← hv]
      simp [cellsOf, B, hj, show j < zs.length by omega] at hw ⊢
      omega
end Go.Proofs.YtgpbkdhldakpmaaGreatDoor
