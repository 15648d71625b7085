import Derived.Test.YthccbfgjekdiiaaDoorSlr
import Derived.Test.YthccbfgjekdiiaaDoorSck
import Derived.Deep.Slices
namespace Go.Proofs.YthccbfgjekdiiaaDoor
open Go.ChangeShapes Go.WideShapes Go.ChangeAt Go.RowKit Go.Deep
set_option maxRecDepth 100000

theorem Tryd.cellsU8 : Tryd.prog.cellsOf 5 = 1 := by kernel_rfl
theorem Tryd.cellsB : Tryd.prog.cellsOf 25 = 1 := by kernel_rfl
theorem bulk_pos {H : Type} (d : DataW H) : 1 ≤ Rows.uptoBulk d := by
  unfold Rows.uptoBulk
  split <;> omega
theorem bulk_len {H : Type} : ∀ l : List (DataW H), l.length ≤ Rows.uptoBulkAll l
  | [] => Nat.zero_le _
  | d :: r => by
    have h1 := bulk_pos d
    have h2 := bulk_len r
    simp only [Rows.uptoBulkAll, List.length_cons]
    omega
theorem bulk_in {H : Type} : ∀ (l : List (DataW H)) (d : DataW H), d ∈ l → Rows.uptoBulk d ≤ Rows.uptoBulkAll l
  | [], d, h => by cases h
  | x :: r, d, h => by
    simp only [Rows.uptoBulkAll]
    rcases List.mem_cons.1 h with rfl | h
    · omega
    · have := bulk_in r d h
      omega
/-- A slice of bytes that is read. -/
theorem src_of_trod {H : Type} {enc : TypeId × Value → H} {W : World} {fuel : Nat} {v : Value} {d : DataW H} {p : List MemPlace} (hf : DataW.trod enc Tryd.prog W 0 (fun _ => true) true fuel 25 [v] = some (d, p)) :
    ∃ l : List Nat, Src W v l ∧ (∀ u ∈ l, u < 256) ∧ (∀ ao n c, v = .slice ao n c → n ≤ c) ∧ (l = [] ∨ ∀ g o n c, v = .slice (some ⟨g, o, none⟩) n c → g < W.heap.size) ∧ l.length ≤ Rows.uptoBulk d := by
  rcases open_ints Tryd.underlying25 Tryd.underlying5 Tryd.cellsU8 hf with ⟨hcs, hx⟩ | ⟨a, len, cap, zs, hcs, _, hl, hm, hz, hx, hcell, hwz⟩
  · simp only [List.cons.injEq, and_true] at hcs
    subst hcs
    exact ⟨[], .inl ⟨rfl, rfl⟩, (fun _ h => by cases h), fun _ _ _ e => by cases e; exact Nat.le_refl _, .inl rfl, Nat.zero_le _⟩
  · simp only [List.cons.injEq, and_true] at hcs
    subst hcs
    simp only [Prod.mk.injEq] at hx
    obtain ⟨rfl, -⟩ := hx
    simp only [if_true] at hz
    have hlen : ((zs.take len).map Int.toNat).length = len := by simp; omega
    have hbulk : len ≤ Rows.uptoBulk (DataW.slice (lits .u8 (zs.take len)) (lits .u8 (zs.drop len)) : DataW H) := by
      have h1 := bulk_len (lits .u8 (zs.take len) : List (DataW H))
      have h2 : (lits .u8 (zs.take len) : List (DataW H)).length = len := by simp [lits]; omega
      simp only [Rows.uptoBulk]
      omega
    by_cases h0 : len = 0
    · subst h0
      exact ⟨[], .inr (.inr ⟨a, cap, rfl, rfl⟩), (fun _ h => by cases h), fun _ _ _ e => by cases e; exact Nat.zero_le _, .inl rfl, Nat.zero_le _⟩
    · obtain ⟨b, off, rfl, hc⟩ := ints_at hcell (show 0 < zs.length by omega)
      have hw : ∀ j, j < zs.length → 0 ≤ zs.getD j 0 ∧ zs.getD j 0 < 256 := fun j hj => by
        have := bounds_u8 (hwz (zs.getD j 0) (by simp [List.getD, hj]))
        omega
      refine ⟨(zs.take len).map Int.toNat, .inr (.inl ⟨b, off, cap, by rw [hlen], fun j v hv => ?_⟩), fun u hu => ?_, fun _ _ _ e => by cases e; omega, .inr fun g o n c e => ?_, by rw [hlen]; exact hbulk⟩
      · have hj : j < len := by
          have := (List.getElem?_eq_some_iff.1 hv).1
          simp [cellsOf] at this; omega
        rw [hc j (by omega)]
        have hw := hw j (by omega)
        rw [← hv]
        simp [cellsOf, B, hj, show j < zs.length by omega] at hw ⊢
        omega
      · obtain ⟨z, hz1, rfl⟩ := List.mem_map.1 hu
        obtain ⟨j, hj, rfl⟩ := List.getElem_of_mem (List.mem_of_mem_take hz1)
        have := hw j hj
        rw [List.getD, List.getElem?_eq_getElem hj, Option.getD_some] at this
        omega
      · simp only [Value.slice.injEq, Option.some.injEq, Addr.mk.injEq] at e
        have := lt_of_cell (hc 0 (by omega))
        rw [← e.1.1]
        exact this
/-- A slice of slices of bytes that came in. -/
theorem pcs_of_form {H : Type} {enc : TypeId × Value → H} {W : World} {v : Value} {d : DataW H} {p : List MemPlace} (hform : ∃ a len cap, v = .slice a len cap) (h : DataW.Trod enc Tryd.prog W 0 (fun _ => true) true 22 v d p) :
    ∃ vs ps, Pcs W v vs ps ∧ (∀ q ∈ ps, q.length ≤ Rows.uptoBulk d) ∧ ps.length ≤ Rows.uptoBulk d := by
  obtain ⟨a0, len0, cap0, rfl⟩ := hform
  obtain ⟨fuel, hf⟩ := h
  rcases open_slice1 Tryd.underlying22 Tryd.cellsB hf with ⟨hcs, hx⟩ | ⟨a, len, cap, m, n, V, D, Pl, hcs, _, hl, hm, hmm, hx, hel⟩
  · simp [Value.cells] at hcs
    obtain ⟨rfl, rfl, rfl⟩ := hcs
    exact ⟨[], [], ⟨rfl, .inl ⟨rfl, rfl⟩, (fun _ _ _ h => by simp at h), (fun _ h => by cases h)⟩, (fun _ h => by cases h), Nat.zero_le _⟩
  · simp [Value.cells] at hcs
    obtain ⟨rfl, rfl, rfl⟩ := hcs
    simp only [Prod.mk.injEq] at hx
    obtain ⟨rfl, -⟩ := hx
    simp only [if_true] at hmm
    subst hmm
    have hp : ∀ i, ∃ l : List Nat, i < m → (Src W (V i) l ∧ (∀ u ∈ l, u < 256) ∧ (∀ ao n c, V i = .slice ao n c → n ≤ c) ∧ (l = [] ∨ ∀ g o n c, V i = .slice (some ⟨g, o, none⟩) n c → g < W.heap.size) ∧ l.length ≤ Rows.uptoBulk (D i)) := fun i => by
      by_cases hi : i < m
      · obtain ⟨l, hh⟩ := src_of_trod (hel i hi).2
        exact ⟨l, fun _ => hh⟩
      · exact ⟨[], fun h => absurd h hi⟩
    obtain ⟨L, hL⟩ : ∃ L : Nat → List Nat, ∀ i, i < m → (Src W (V i) (L i) ∧ (∀ u ∈ L i, u < 256) ∧ (∀ ao n c, V i = .slice ao n c → n ≤ c) ∧ (L i = [] ∨ ∀ g o n c, V i = .slice (some ⟨g, o, none⟩) n c → g < W.heap.size) ∧ (L i).length ≤ Rows.uptoBulk (D i)) := ⟨fun i => Classical.choose (hp i), fun i => Classical.choose_spec (hp i)⟩
    have hd : Rows.uptoBulkAll ((List.range len0).map D) ≤ Rows.uptoBulk (DataW.slice ((List.range len0).map D) ((List.range (m - len0)).map fun j => D (len0 + j)) : DataW H) := by
      simp only [Rows.uptoBulk]; omega
    refine ⟨(List.range len0).map V, (List.range len0).map L, ⟨by simp, ?_, fun j v q hv hq => ?_, fun q hq => ?_⟩, fun q hq => ?_, ?_⟩
    · by_cases h0 : len0 = 0
      · subst h0
        exact .inr (.inl ⟨a, m, rfl, rfl⟩)
      · have hc0 := (hel 0 (by omega)).1
        obtain ⟨g, o, sp⟩ := a
        have hsp : sp = none := by simpa [Addr.add] using World.cell?_spot hc0
        subst hsp
        have ad : ∀ i, (⟨g, o, none⟩ : Addr).add i = ⟨g, o + i, none⟩ := fun i => by unfold Addr.add; split <;> simp_all
        refine .inr (.inr ⟨g, o, m, by simp, lt_of_cell (by rw [ad] at hc0; exact hc0), fun j v hv => ?_⟩)
        have hj : j < len0 := by
          have := (List.getElem?_eq_some_iff.1 hv).1
          simpa using this
        rw [← ad, (hel j (by omega)).1, ← hv]
        simp [hj]
    · have hj : j < len0 := by
        have := (List.getElem?_eq_some_iff.1 hv).1
        simpa using this
      simp [hj] at hv hq
      subst hv hq
      have := hL j (by omega)
      exact ⟨this.1, this.2.2.1, this.2.2.2.1⟩
    · obtain ⟨i, hi, rfl⟩ := List.mem_map.1 hq
      exact (hL i (by have := List.mem_range.1 hi; omega)).2.1
    · obtain ⟨i, hi, rfl⟩ := List.mem_map.1 hq
      have h1 := (hL i (by have := List.mem_range.1 hi; omega)).2.2.2.2
      have h2 := bulk_in ((List.range len0).map D) (D i) (List.mem_map.2 ⟨i, hi, rfl⟩)
      omega
    · have := bulk_len ((List.range len0).map D)
      simp at this ⊢
      omega
theorem pcs_of_reading {H : Type} {enc : TypeId × Value → H} {W : World} {base : Nat} {v : Value} {d : DataW H} {p : List MemPlace} (hval : Value.okWide Tryd.prog W .any base 22 v) (h : DataW.Trod enc Tryd.prog W 0 (fun _ => true) true 22 v d p) :
    ∃ vs ps, Pcs W v vs ps ∧ (∀ q ∈ ps, q.length ≤ Rows.uptoBulk d) ∧ ps.length ≤ Rows.uptoBulk d := pcs_of_form (okWide_slice Tryd.underlying22 hval) h
end Go.Proofs.YthccbfgjekdiiaaDoor
