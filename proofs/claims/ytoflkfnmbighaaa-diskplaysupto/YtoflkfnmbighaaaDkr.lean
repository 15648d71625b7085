import Derived.Test.YtoflkfnmbighaaaDka
import Derived.Test.YtoflkfnmbighaaaRows
import Derived.WalkKit
import Derived.ProofKit
import Derived.OpenShut
import Derived.SizedLaws
import Derived.JoinedCond
import Derived.Deep.DeepHandedRow
namespace Go.Proofs.Ytoflkfnmbighaaa
open Go.ChangeShapes Go.WideShapes Go.ChangeAt Go.RowKit
set_option maxRecDepth 100000

theorem Try.ownKnob : ownKnob Try.prog.godebug = none := by kernel_rfl
theorem Try.cellsU8 : Try.prog.cellsOf 5 = 1 := by kernel_rfl
theorem Try.bytesU8 : Try.prog.bytesOf 5 = 1 := by kernel_rfl
theorem Fr.below {w w' : World} (h : Fr (fun _ => False) w w') : Below w.heap.size w w' := ⟨h.os, h.tape, h.output, h.size, fun k hk => h.block k hk (fun x => x)⟩
theorem nat_u32 {a : Int} (h : (Lit.int .u32 a).wf = true) : ∃ n : Nat, a = n ∧ n < 4294967296 := ⟨a.toNat, by have := bounds_u32 h; omega, by have := bounds_u32 h; omega⟩
theorem bulk_lits {H : Type} (zs : List Int) : Rows.uptoBulkAll (lits .u8 zs : List (DataW H)) = zs.length := by
  induction zs with
  | nil => rfl
  | cons z r ih =>
    have e : (lits .u8 (z :: r) : List (DataW H)) = .lit (.int .u8 z) :: lits .u8 r := rfl
    rw [e, Rows.uptoBulkAll, ih, Rows.uptoBulk, List.length_cons]
    · omega
    · intro bytes h; cases h
/-- A slice of bytes that came in. -/
theorem src_of_reading {H : Type} {enc : TypeId × Value → H} {W : World} {base : Nat} {v : Value} {d : DataW H} {p : List MemPlace} (hval : Value.okWide Try.prog W .any base 36 v) (h : DataW.Trod enc Try.prog W 0 (fun _ => true) true 36 v d p) :
    ∃ l : List Nat, Src W v l ∧ (∀ ao n c, v = .slice ao n c → n ≤ c) ∧ l.length ≤ Rows.uptoBulk d ∧ (l = [] ∨ ∃ es sp, d = .slice es sp ∧ l.length ≤ es.length) := by
  obtain ⟨a0, len, cap, rfl⟩ := okWide_slice Try.underlying36 hval
  obtain ⟨fuel, hf⟩ := h
  rcases open_ints Try.underlying36 Try.underlying5 Try.cellsU8 hf with ⟨hcs, hx⟩ | ⟨a, len', cap', zs, hcs, _, hl, hm, hz, hx, hcell, hwz⟩
  · simp [Value.cells] at hcs
    obtain ⟨rfl, rfl, rfl⟩ := hcs
    exact ⟨[], .inl ⟨rfl, rfl⟩, fun _ _ _ e => by cases e; exact Nat.le_refl _, Nat.zero_le _, .inl rfl⟩
  · simp [Value.cells] at hcs
    obtain ⟨rfl, rfl, rfl⟩ := hcs
    simp only [Prod.mk.injEq] at hx
    obtain ⟨rfl, -⟩ := hx
    simp only [if_true] at hz
    have hlen : ((zs.take len).map Int.toNat).length = len := by simp; omega
    have hbulk : len ≤ Rows.uptoBulk (DataW.slice (lits .u8 (zs.take len)) (lits .u8 (zs.drop len)) : DataW H) := by
      have h1 := bulk_lits (H := H) (zs.take len)
      have h2 : (zs.take len).length = len := by simp; omega
      simp only [Rows.uptoBulk]
      omega
    by_cases h0 : len = 0
    · subst h0
      exact ⟨[], .inr (.inr ⟨a, cap, rfl, rfl⟩), fun _ _ _ e => by cases e; exact Nat.zero_le _, Nat.zero_le _, .inl rfl⟩
    · obtain ⟨b, off, rfl, hc⟩ := ints_at hcell (show 0 < zs.length by omega)
      refine ⟨(zs.take len).map Int.toNat, .inr (.inl ⟨b, off, cap, by rw [hlen], fun j v hv => ?_⟩), fun _ _ _ e => by cases e; omega, by rw [hlen]; exact hbulk, .inr ⟨_, _, rfl, by simp [lits]⟩⟩
      have hj : j < len := by
        have := (List.getElem?_eq_some_iff.1 hv).1
        simp [cellsOf] at this; omega
      rw [hc j (by omega)]
      have hw := bounds_u8 (hwz (zs.getD j 0) (by simp [List.getD, show j < zs.length by omega]))
      rw [← hv]
      simp [cellsOf, B, hj, show j < zs.length by omega] at hw ⊢
      omega
end Go.Proofs.Ytoflkfnmbighaaa
