import Derived.Test.YtikolmpgnpkdbaaDoorPsr
import Derived.Test.YtikolmpgnpkdbaaDoorSen
import Derived.Deep.Slices
namespace Go.Proofs.YtikolmpgnpkdbaaDoor
open Go.ChangeShapes Go.WideShapes Go.ChangeAt Go.RowKit Go.Deep
set_option maxRecDepth 100000

theorem Tryd.cellsPart : Tryd.prog.cellsOf 31 = 5 := by kernel_rfl
theorem Tryd.cellsInt : Tryd.prog.cellsOf 3 = 1 := by kernel_rfl
theorem Tryd.cellsU64 : Tryd.prog.cellsOf 29 = 1 := by kernel_rfl

theorem part_of_trod {H : Type} {enc : TypeId × Value → H} {W : World} {base fuel : Nat} {sp : Nat → Bool} {held : Bool} {cs : List Value} {x : DataW H × List MemPlace} (h : DataW.trod enc Tryd.prog W base sp held fuel 31 cs = some x) :
    ∃ p : Pt, cs = [.int .i64 p.k, .int .u64 p.u, .string p.s, .int .i64 p.n, .int .i64 p.m] ∧ p.ok ∧ Rows.uptoBulk x.1 = 6 + p.s.size := by
  obtain ⟨xs, n, _, rfl, hl, hlen, hf⟩ := DataW.trod_struct Tryd.underlying31 h
  rw [Tryd.cellsPart] at hl
  have h0 := hf 0 _ rfl
  have h1 := hf 1 _ rfl
  have h2 := hf 2 _ rfl
  have h3 := hf 3 _ rfl
  have h4 := hf 4 _ rfl
  match cs, hl with
  | [c0, c1, c2, c3, c4], _ =>
    match xs, hlen with
    | [y0, y1, y2, y3, y4], _ =>
      simp [Tryd.cellsInt, Tryd.cellsU64, Tryd.cellsS] at h0 h1 h2 h3 h4
      obtain ⟨k, e0, rfl, wk⟩ := DataW.trod_int Tryd.underlying3 h0
      obtain ⟨u, e1, rfl, wu⟩ := DataW.trod_int Tryd.underlying29 h1
      obtain ⟨s, e2, rfl, ws⟩ := DataW.trod_string Tryd.underlying9 h2
      obtain ⟨nn, e3, rfl, wn⟩ := DataW.trod_int Tryd.underlying3 h3
      obtain ⟨m, e4, rfl, wm⟩ := DataW.trod_int Tryd.underlying3 h4
      simp only [List.cons.injEq, and_true] at e0 e1 e2 e3 e4
      subst e0 e1 e2 e3 e4
      have bu := bounds_u64 wu
      have bn := bounds_i64 wn
      have bm := bounds_i64 wm
      refine ⟨⟨k, u.toNat, s, nn, m⟩, ?_, ⟨?_, ?_, ?_⟩, ?_⟩
      · have e : ((u.toNat : Nat) : Int) = u := by omega
        simp [e]
      · show u.toNat < _; omega
      · show nn < _; omega
      · show m < _; omega
      · simp [Rows.uptoBulk, Rows.uptoBulkAll]
        omega

theorem bulk_map {H : Type} (D : Nat → DataW H) (Q : Nat → Pt) : ∀ l : List Nat, (∀ i ∈ l, Rows.uptoBulk (D i) = 6 + (Q i).s.size) → weight (l.map Q) ≤ 2 * Rows.uptoBulkAll (l.map D) ∧ l.length ≤ Rows.uptoBulkAll (l.map D)
  | [], _ => by simp [weight, Rows.uptoBulkAll]
  | i :: r, h => by
    have ih := bulk_map D Q r (fun j hj => h j (by simp [hj]))
    have hi := h i (by simp)
    simp only [List.map_cons, Rows.uptoBulkAll, weight, List.sum_cons, List.length_cons] at ih ⊢
    omega

theorem psrc_of_reading {H : Type} {enc : TypeId × Value → H} {W : World} {base : Nat} {v : Value} {d : DataW H} {p : List MemPlace} (hval : Value.okWide Tryd.prog W .any base 22 v) (h : DataW.Trod enc Tryd.prog W 0 (fun _ => true) true 22 v d p) :
    ∃ A : List Pt, PSrc W v A ∧ (∀ p ∈ A, p.ok) ∧ weight A ≤ 2 * Rows.uptoBulk d ∧ A.length ≤ Rows.uptoBulk d := by
  obtain ⟨a0, len, cap, rfl⟩ := okWide_slice Tryd.underlying22 hval
  obtain ⟨fuel, hf⟩ := h
  rcases open_slice Tryd.underlying22 hf with ⟨hcs, hx⟩ | ⟨a, len', cap', m, n, D, Pl, hcs, _, hl, hm, hmm, hx, hel⟩
  · simp [Value.cells] at hcs
    obtain ⟨rfl, rfl, rfl⟩ := hcs
    exact ⟨[], .inl ⟨none, 0, rfl, rfl⟩, by simp, by simp [weight], by simp⟩
  · simp [Value.cells] at hcs
    obtain ⟨rfl, rfl, rfl⟩ := hcs
    simp only [Prod.mk.injEq] at hx
    obtain ⟨rfl, -⟩ := hx
    simp only [if_true] at hmm
    subst hmm
    have hp : ∀ i, ∃ p : Pt, i < m → (p.ok ∧ Rows.uptoBulk (D i) = 6 + p.s.size ∧ ∀ j, j < 5 → W.cell? ((a.add (i * 5)).add j) = [Value.int .i64 p.k, .int .u64 p.u, .string p.s, .int .i64 p.n, .int .i64 p.m][j]?) := fun i => by
      by_cases hi : i < m
      · obtain ⟨cs', h1, h2⟩ := hel i hi
        rw [Tryd.cellsPart] at h1
        obtain ⟨_, hlen, hcell⟩ := World.cells?_some h1
        obtain ⟨p, rfl, hok, hb⟩ := part_of_trod h2
        exact ⟨p, fun _ => ⟨hok, hb, hcell⟩⟩
      · exact ⟨⟨0, 0, ByteArray.empty, 0, 0⟩, fun h => absurd h hi⟩
    obtain ⟨Q, hQ⟩ : ∃ Q : Nat → Pt, ∀ i, i < m → ((Q i).ok ∧ Rows.uptoBulk (D i) = 6 + (Q i).s.size ∧ ∀ j, j < 5 → W.cell? ((a.add (i * 5)).add j) = [Value.int .i64 (Q i).k, .int .u64 (Q i).u, .string (Q i).s, .int .i64 (Q i).n, .int .i64 (Q i).m][j]?) := ⟨fun i => Classical.choose (hp i), fun i => Classical.choose_spec (hp i)⟩
    have hbulk := bulk_map D Q (List.range len) (fun i hi => (hQ i (by have := List.mem_range.1 hi; omega)).2.1)
    have hd : Rows.uptoBulkAll ((List.range len).map D) ≤ Rows.uptoBulk (DataW.slice ((List.range len).map D) ((List.range (m - len)).map fun j => D (len + j)) : DataW H) := by
      simp only [Rows.uptoBulk]; omega
    refine ⟨(List.range len).map Q, ?_, ?_, by omega, by simp at hbulk ⊢; omega⟩
    · by_cases h0 : len = 0
      · subst h0
        exact .inl ⟨some a, m, by simp, by simp⟩
      · have hc0 := (hQ 0 (by omega)).2.2 0 (by decide)
        obtain ⟨g, o, sp⟩ := a
        have hsp : sp = none := by simpa [Addr.add] using World.cell?_spot hc0
        subst hsp
        refine .inr ⟨g, o, m, by simp, fun j hj => ?_⟩
        have hj' : j < len := by simpa using hj
        have hq := (hQ j (by omega)).2.2
        have ad : ∀ o i, (⟨g, o, none⟩ : Addr).add i = ⟨g, o + i, none⟩ := fun o i => by unfold Addr.add; split <;> simp_all
        have e : ∀ i, ((⟨g, o, none⟩ : Addr).add (j * 5)).add i = ⟨g, o + j * 5 + i, none⟩ := fun i => by rw [ad, ad]
        have q0 := hq 0 (by decide)
        have q1 := hq 1 (by decide)
        have q2 := hq 2 (by decide)
        have q3 := hq 3 (by decide)
        have q4 := hq 4 (by decide)
        rw [e] at q0 q1 q2 q3 q4
        simp at q0 q1 q2 q3 q4
        simp only [List.getElem_map, List.getElem_range]
        exact ⟨q0, q1, q2, q3, q4⟩
    · intro p hp
      obtain ⟨i, hi, rfl⟩ := List.mem_map.1 hp
      exact (hQ i (by have := List.mem_range.1 hi; omega)).1
end Go.Proofs.YtikolmpgnpkdbaaDoor
