import Derived.Test.YtheehhplopbceaaDoorSlq
import Derived.Test.YtheehhplopbceaaDoorSja
namespace Go.Proofs.YtheehhplopbceaaDoor
open Go.ChangeShapes Go.WideShapes Go.ChangeAt Go.RowKit Go.Deep
set_option maxRecDepth 100000

theorem Tryd.cellsStep : Tryd.prog.cellsOf 52 = 3 := by kernel_rfl
theorem Tryd.cellsInt : Tryd.prog.cellsOf 3 = 1 := by kernel_rfl
theorem step_of_trod {H : Type} {enc : TypeId × Value → H} {W : World} {fuel : Nat} {cs : List Value} {x : DataW H × List MemPlace} (h : DataW.trod enc Tryd.prog W 0 (fun _ => true) true fuel 52 cs = some x) :
    ∃ (s : Stp) (v : Value), cs = [.int .i64 s.op, .int .i64 s.wd, v] ∧ Src W v s.bs ∧ (∀ u ∈ s.bs, u < 256) := by
  obtain ⟨xs, n, _, rfl, hl, hlen, hf⟩ := DataW.trod_struct Tryd.underlying52 h
  rw [Tryd.cellsStep] at hl
  have h0 := hf 0 _ rfl
  have h1 := hf 1 _ rfl
  have h2 := hf 2 _ rfl
  match cs, hl with
  | [c0, c1, c2], _ =>
    match xs, hlen with
    | [y0, y1, y2], _ =>
      simp [Tryd.cellsInt, Tryd.cellsB] at h0 h1 h2
      obtain ⟨a, e0, rfl, wa⟩ := DataW.trod_int Tryd.underlying3 h0
      obtain ⟨b, e1, rfl, wb⟩ := DataW.trod_int Tryd.underlying3 h1
      simp only [List.cons.injEq, and_true] at e0 e1
      subst e0 e1
      obtain ⟨l, hs, hb, _⟩ := src_of_trod (d := y2.1) (p := y2.2) h2
      exact ⟨⟨a, b, l⟩, c2, rfl, hs, hb⟩
theorem ssrc_of_reading {H : Type} {enc : TypeId × Value → H} {W : World} {base : Nat} {v : Value} {d : DataW H} {p : List MemPlace} (hval : Value.okWide Tryd.prog W .any base 41 v) (h : DataW.Trod enc Tryd.prog W 0 (fun _ => true) true 41 v d p) :
    ∃ A : List Stp, SSrc W v A ∧ A.length ≤ Rows.uptoBulk d := by
  obtain ⟨a0, len, cap, rfl⟩ := okWide_slice Tryd.underlying41 hval
  obtain ⟨fuel, hf⟩ := h
  rcases open_slice Tryd.underlying41 hf with ⟨hcs, hx⟩ | ⟨a, len', cap', m, n, D, Pl, hcs, _, hl, hm, hmm, hx, hel⟩
  · simp [Value.cells] at hcs
    obtain ⟨rfl, rfl, rfl⟩ := hcs
    exact ⟨[], ⟨.inl ⟨none, 0, rfl, rfl⟩, fun _ h => by cases h⟩, Nat.zero_le _⟩
  · simp [Value.cells] at hcs
    obtain ⟨rfl, rfl, rfl⟩ := hcs
    simp only [Prod.mk.injEq] at hx
    obtain ⟨rfl, -⟩ := hx
    simp only [if_true] at hmm
    subst hmm
    have hp : ∀ i, ∃ (s : Stp) (v : Value), i < m → (Src W v s.bs ∧ (∀ u ∈ s.bs, u < 256) ∧ ∀ j, j < 3 → W.cell? ((a.add (i * 3)).add j) = [Value.int .i64 s.op, .int .i64 s.wd, v][j]?) := fun i => by
      by_cases hi : i < m
      · obtain ⟨cs', h1, h2⟩ := hel i hi
        rw [Tryd.cellsStep] at h1
        obtain ⟨_, hlen, hcell⟩ := World.cells?_some h1
        obtain ⟨s, v, rfl, hs, hb⟩ := step_of_trod h2
        exact ⟨s, v, fun _ => ⟨hs, hb, hcell⟩⟩
      · exact ⟨⟨0, 0, []⟩, .slice none 0 0, fun h => absurd h hi⟩
    obtain ⟨Q, V, hQ⟩ : ∃ (Q : Nat → Stp) (V : Nat → Value), ∀ i, i < m → (Src W (V i) (Q i).bs ∧ (∀ u ∈ (Q i).bs, u < 256) ∧ ∀ j, j < 3 → W.cell? ((a.add (i * 3)).add j) = [Value.int .i64 (Q i).op, .int .i64 (Q i).wd, V i][j]?) :=
      ⟨fun i => Classical.choose (hp i), fun i => Classical.choose (Classical.choose_spec (hp i)), fun i => Classical.choose_spec (Classical.choose_spec (hp i))⟩
    have hbulk := bulk_len ((List.range len).map D)
    have hd : Rows.uptoBulkAll ((List.range len).map D) ≤ Rows.uptoBulk (DataW.slice ((List.range len).map D) ((List.range (m - len)).map fun j => D (len + j)) : DataW H) := by
      simp only [Rows.uptoBulk]; omega
    refine ⟨(List.range len).map Q, ⟨?_, ?_⟩, by simp at hbulk ⊢; omega⟩
    · by_cases h0 : len = 0
      · subst h0
        exact .inl ⟨some a, m, by simp, by simp⟩
      · have hc0 := (hQ 0 (by omega)).2.2 0 (by decide)
        obtain ⟨g, o, sp⟩ := a
        have hsp : sp = none := by simpa [Addr.add] using World.cell?_spot hc0
        subst hsp
        refine .inr ⟨g, o, m, by simp, fun j hj => ?_⟩
        have hj' : j < len := by simpa using hj
        have hq := hQ j (by omega)
        have ad : ∀ o i, (⟨g, o, none⟩ : Addr).add i = ⟨g, o + i, none⟩ := fun o i => by unfold Addr.add; split <;> simp_all
        have e : ∀ i, ((⟨g, o, none⟩ : Addr).add (j * 3)).add i = ⟨g, o + j * 3 + i, none⟩ := fun i => by rw [ad, ad]
        have q0 := hq.2.2 0 (by decide)
        have q1 := hq.2.2 1 (by decide)
        have q2 := hq.2.2 2 (by decide)
        rw [e] at q0 q1 q2
        simp at q0 q1 q2
        simp only [List.getElem_map, List.getElem_range]
        exact ⟨V j, q0, q1, q2, hq.1⟩
    · intro s hs
      obtain ⟨i, hi, rfl⟩ := List.mem_map.1 hs
      exact (hQ i (by have := List.mem_range.1 hi; omega)).2.1
end Go.Proofs.YtheehhplopbceaaDoor
