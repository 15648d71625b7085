import Derived.Test.YtoflkfnmbighaaaDkr
import Derived.Deep.Slices
import Derived.Deep.DeepHandedRow
import Derived.Deep.DeepWitnessRowRef
namespace Go.Proofs.Ytoflkfnmbighaaa
open Go.ChangeShapes Go.WideShapes Go.ChangeAt Go.RowKit Go.Deep
set_option maxRecDepth 100000

theorem Try.cellsB : Try.prog.cellsOf 36 = 1 := by kernel_rfl
theorem Try.cellsInt : Try.prog.cellsOf 3 = 1 := by kernel_rfl
theorem Try.cellsOp : Try.prog.cellsOf 38 = 7 := by kernel_rfl
theorem Try.cellsStr : Try.prog.cellsOf 9 = 1 := by kernel_rfl
theorem Try.cellsUint : Try.prog.cellsOf 35 = 1 := by kernel_rfl
theorem Try.cellsBool : Try.prog.cellsOf 4 = 1 := by kernel_rfl
theorem bulk_pos {H : Type} (d : DataW H) : 1 ≤ Rows.uptoBulk d := by
  unfold Rows.uptoBulk
  split <;> omega
theorem bulk_len {H : Type} : ∀ l : List (DataW H), l.length ≤ Rows.uptoBulkAll l
  | [] => Nat.zero_le _
  | d :: r => by
    have h1 := bulk_pos d
    have h2 := bulk_len r
    simp only [Rows.uptoBulkAll, List.length_cons]
    omega
theorem bulk_in {H : Type} : ∀ (l : List (DataW H)) (d : DataW H), d ∈ l → Rows.uptoBulk d ≤ Rows.uptoBulkAll l
  | [], d, h => by cases h
  | x :: r, d, h => by
    simp only [Rows.uptoBulkAll]
    rcases List.mem_cons.1 h with rfl | h
    · omega
    · have := bulk_in r d h
      omega
/-- A slice of bytes that is read. -/
theorem src_of_trod {H : Type} {enc : TypeId × Value → H} {W : World} {fuel : Nat} {v : Value} {d : DataW H} {p : List MemPlace} (hf : DataW.trod enc Try.prog W 0 (fun _ => true) true fuel 36 [v] = some (d, p)) :
    ∃ l : List Nat, Src W v l ∧ (∀ u ∈ l, u < 256) ∧ (∀ ao n c, v = .slice ao n c → n ≤ c) ∧ (l = [] ∨ ∀ g o n c, v = .slice (some ⟨g, o, none⟩) n c → g < W.heap.size) ∧ l.length ≤ Rows.uptoBulk d := by
  rcases open_ints Try.underlying36 Try.underlying5 Try.cellsU8 hf with ⟨hcs, hx⟩ | ⟨a, len, cap, zs, hcs, _, hl, hm, hz, hx, hcell, hwz⟩
  · simp only [List.cons.injEq, and_true] at hcs
    subst hcs
    exact ⟨[], .inl ⟨rfl, rfl⟩, (fun _ h => by cases h), fun _ _ _ e => by cases e; exact Nat.le_refl _, .inl rfl, Nat.zero_le _⟩
  · simp only [List.cons.injEq, and_true] at hcs
    subst hcs
    simp only [Prod.mk.injEq] at hx
    obtain ⟨rfl, -⟩ := hx
    simp only [if_true] at hz
    have hlen : ((zs.take len).map Int.toNat).length = len := by simp; omega
    have hbulk : len ≤ Rows.uptoBulk (DataW.slice (lits .u8 (zs.take len)) (lits .u8 (zs.drop len)) : DataW H) := by
      have h1 := bulk_len (lits .u8 (zs.take len) : List (DataW H))
      have h2 : (lits .u8 (zs.take len) : List (DataW H)).length = len := by simp [lits]; omega
      simp only [Rows.uptoBulk]
      omega
    by_cases h0 : len = 0
    · subst h0
      exact ⟨[], .inr (.inr ⟨a, cap, rfl, rfl⟩), (fun _ h => by cases h), fun _ _ _ e => by cases e; exact Nat.zero_le _, .inl rfl, Nat.zero_le _⟩
    · obtain ⟨b, off, rfl, hc⟩ := ints_at hcell (show 0 < zs.length by omega)
      have hw : ∀ j, j < zs.length → 0 ≤ zs.getD j 0 ∧ zs.getD j 0 < 256 := fun j hj => by
        have := bounds_u8 (hwz (zs.getD j 0) (by simp [List.getD, hj]))
        omega
      refine ⟨(zs.take len).map Int.toNat, .inr (.inl ⟨b, off, cap, by rw [hlen], fun j v hv => ?_⟩), fun u hu => ?_, fun _ _ _ e => by cases e; omega, .inr fun g o n c e => ?_, by rw [hlen]; exact hbulk⟩
      · have hj : j < len := by
          have := (List.getElem?_eq_some_iff.1 hv).1
          simp [cellsOf] at this; omega
        rw [hc j (by omega)]
        have hw := hw j (by omega)
        rw [← hv]
        simp [cellsOf, B, hj, show j < zs.length by omega] at hw ⊢
        omega
      · obtain ⟨z, hz1, rfl⟩ := List.mem_map.1 hu
        obtain ⟨j, hj, rfl⟩ := List.getElem_of_mem (List.mem_of_mem_take hz1)
        have := hw j hj
        rw [List.getD, List.getElem?_eq_getElem hj, Option.getD_some] at this
        omega
      · simp only [Value.slice.injEq, Option.some.injEq, Addr.mk.injEq] at e
        have := lt_of_cell (hc 0 (by omega))
        rw [← e.1.1]
        exact this
theorem bulk_eight {H : Type} : ∀ l : List (DataW H), (∀ d ∈ l, 8 ≤ Rows.uptoBulk d) → 8 * l.length ≤ Rows.uptoBulkAll l
  | [], _ => Nat.zero_le _
  | d :: r, h => by
    have h1 := h d (List.mem_cons_self ..)
    have h2 := bulk_eight r (fun x hx => h x (List.mem_cons_of_mem _ hx))
    simp only [Rows.uptoBulkAll, List.length_cons]
    omega
/-- A call that came in. -/
structure Op8 where
  ki : Int
  n : ByteArray
  a : Int
  z : Int
  b : Int
  on : Bool
  l : List Nat
structure Op8.Ok (W : World) (x : Op8) (v : Value) : Prop where
  s : Src W v x.l
  g : x.l = [] ∨ ∀ g o n c, v = .slice (some ⟨g, o, none⟩) n c → g < W.heap.size
  c : ∀ ao n c, v = .slice ao n c → n ≤ c
  l : x.l.length ≤ 1048576
  n : x.n.size ≤ maxLen
  a : -9223372036854775808 ≤ x.a ∧ x.a ≤ 9223372036854775807
  z : -9223372036854775808 ≤ x.z ∧ x.z ≤ 9223372036854775807
  b : 0 ≤ x.b
theorem op8_of_trod {H : Type} {enc : TypeId × Value → H} {W : World} {fuel : Nat} {cs : List Value} {x : DataW H × List MemPlace} (h : DataW.trod enc Try.prog W 0 (fun _ => true) true fuel 38 cs = some x) (hk : Rows.uptoBulk x.1 ≤ 1048576) :
    ∃ (s : Op8) (v : Value), cs = [.int .i64 s.ki, .string s.n, .int .i64 s.a, .int .i64 s.z, .int .u64 s.b, .bool s.on, v] ∧ s.Ok W v := by
  obtain ⟨xs, n, _, rfl, hl, hlen, hf⟩ := DataW.trod_struct Try.underlying38 h
  rw [Try.cellsOp] at hl
  have h0 := hf 0 _ rfl
  have h1 := hf 1 _ rfl
  have h2 := hf 2 _ rfl
  have h3 := hf 3 _ rfl
  have h4 := hf 4 _ rfl
  have h5 := hf 5 _ rfl
  have h6 := hf 6 _ rfl
  match cs, hl with
  | [c0, c1, c2, c3, c4, c5, c6], _ =>
    match xs, hlen with
    | [y0, y1, y2, y3, y4, y5, y6], _ =>
      simp [Try.cellsInt, Try.cellsB, Try.cellsStr, Try.cellsUint, Try.cellsBool] at h0 h1 h2 h3 h4 h5 h6
      obtain ⟨ki, e0, q0, _⟩ := DataW.trod_int Try.underlying3 h0
      obtain ⟨nn, e1, q1, w1⟩ := DataW.trod_string Try.underlying9 h1
      obtain ⟨a, e2, q2, w2⟩ := DataW.trod_int Try.underlying3 h2
      obtain ⟨z, e3, q3, w3⟩ := DataW.trod_int Try.underlying3 h3
      obtain ⟨b, e4, q4, w4⟩ := DataW.trod_int Try.underlying35 h4
      obtain ⟨on, e5, q5⟩ := DataW.trod_bool Try.underlying4 h5
      simp only [List.cons.injEq, and_true] at e0 e1 e2 e3 e4 e5
      subst e0 e1 e2 e3 e4 e5
      obtain ⟨l, s1, _, s3, s4, s5⟩ := src_of_trod (d := y6.1) (p := y6.2) h6
      have b3 : Rows.uptoBulk y6.1 ≤ Rows.uptoBulk (DataW.agg ([y0, y1, y2, y3, y4, y5, y6].map (·.1)) : DataW H) := by
        have := bulk_in ([y0, y1, y2, y3, y4, y5, y6].map (·.1)) y6.1 (by simp)
        simp only [Rows.uptoBulk]
        omega
      simp only at hk
      exact ⟨⟨ki, nn, a, z, b, on, l⟩, c6, rfl, s1, s4, s3, by simp only; omega, w1, bounds_i64 w2, bounds_i64 w3, (bounds_u64 w4).1⟩
theorem bulk_op {H : Type} {enc : TypeId × Value → H} {W : World} {fuel : Nat} {cs : List Value} {x : DataW H × List MemPlace} (h : DataW.trod enc Try.prog W 0 (fun _ => true) true fuel 38 cs = some x) : 8 ≤ Rows.uptoBulk x.1 := by
  obtain ⟨xs, n, _, rfl, hl, hlen, hf⟩ := DataW.trod_struct Try.underlying38 h
  have h1 := bulk_len (xs.map (·.1))
  have h2 : (xs.map (·.1)).length = 7 := by rw [List.length_map]; exact hlen
  simp only [Rows.uptoBulk]
  omega
/-- Calls that came in. -/
def Ops8 (W : World) (v : Value) (A : List Op8) : Prop := (∃ a c, v = .slice a 0 c ∧ A = []) ∨ ∃ g o c, v = .slice (some ⟨g, o, none⟩) A.length c ∧ ∀ (j : Nat) (hj : j < A.length), ∃ x, W.cell? ⟨g, o + j * 7 + 0, none⟩ = some (.int .i64 A[j].ki) ∧ W.cell? ⟨g, o + j * 7 + 1, none⟩ = some (.string A[j].n) ∧ W.cell? ⟨g, o + j * 7 + 2, none⟩ = some (.int .i64 A[j].a) ∧ W.cell? ⟨g, o + j * 7 + 3, none⟩ = some (.int .i64 A[j].z) ∧ W.cell? ⟨g, o + j * 7 + 4, none⟩ = some (.int .u64 A[j].b) ∧ W.cell? ⟨g, o + j * 7 + 5, none⟩ = some (.bool A[j].on) ∧ W.cell? ⟨g, o + j * 7 + 6, none⟩ = some x ∧ A[j].Ok W x
theorem ops8_of_reading {H : Type} {enc : TypeId × Value → H} {W : World} {base : Nat} {v : Value} {d : DataW H} {p : List MemPlace} (hval : Value.okWide Try.prog W .any base 22 v) (h : DataW.Trod enc Try.prog W 0 (fun _ => true) true 22 v d p) (hk : Rows.uptoBulk d ≤ 1048576) :
    ∃ A : List Op8, Ops8 W v A ∧ 8 * A.length + 1 ≤ Rows.uptoBulk d := by
  obtain ⟨a0, len, cap, rfl⟩ := okWide_slice Try.underlying22 hval
  obtain ⟨fuel, hf⟩ := h
  rcases open_slice Try.underlying22 hf with ⟨hcs, hx⟩ | ⟨a, len', cap', m, n, D, Pl, hcs, _, hl, hm, hmm, hx, hel⟩
  · simp [Value.cells] at hcs
    obtain ⟨rfl, rfl, rfl⟩ := hcs
    exact ⟨[], .inl ⟨none, 0, rfl, rfl⟩, bulk_pos _⟩
  · simp [Value.cells] at hcs
    obtain ⟨rfl, rfl, rfl⟩ := hcs
    simp only [Prod.mk.injEq] at hx
    obtain ⟨rfl, -⟩ := hx
    simp only [if_true] at hmm
    subst hmm
    have hbulk := bulk_eight ((List.range len).map D) (fun x hx => by
      obtain ⟨i, hi, rfl⟩ := List.mem_map.1 hx
      obtain ⟨cs', h1, h2⟩ := hel i (by have := List.mem_range.1 hi; omega)
      exact bulk_op h2)
    have hd : Rows.uptoBulkAll ((List.range len).map D) + 1 ≤ Rows.uptoBulk (DataW.slice ((List.range len).map D) ((List.range (m - len)).map fun j => D (len + j)) : DataW H) := by
      simp only [Rows.uptoBulk]; omega
    have hDk : ∀ i, i < len → Rows.uptoBulk (D i) ≤ 1048576 := fun i hi => by
      have := bulk_in ((List.range len).map D) (D i) (List.mem_map.2 ⟨i, List.mem_range.2 hi, rfl⟩)
      omega
    have hp : ∀ i, ∃ (s : Op8) (v : Value), i < len → (s.Ok W v ∧ ∀ j, j < 7 → W.cell? ((a.add (i * 7)).add j) = [Value.int .i64 s.ki, .string s.n, .int .i64 s.a, .int .i64 s.z, .int .u64 s.b, .bool s.on, v][j]?) := fun i => by
      by_cases hi : i < len
      · obtain ⟨cs', h1, h2⟩ := hel i (by omega)
        rw [Try.cellsOp] at h1
        obtain ⟨_, hlen, hcell⟩ := World.cells?_some h1
        obtain ⟨s, v, rfl, hs⟩ := op8_of_trod h2 (hDk i hi)
        exact ⟨s, v, fun _ => ⟨hs, hcell⟩⟩
      · exact ⟨⟨0, ByteArray.empty, 0, 0, 0, false, []⟩, .slice none 0 0, fun h => absurd h hi⟩
    obtain ⟨Q, V, hQ⟩ : ∃ (Q : Nat → Op8) (V : Nat → Value), ∀ i, i < len → ((Q i).Ok W (V i) ∧ ∀ j, j < 7 → W.cell? ((a.add (i * 7)).add j) = [Value.int .i64 (Q i).ki, .string (Q i).n, .int .i64 (Q i).a, .int .i64 (Q i).z, .int .u64 (Q i).b, .bool (Q i).on, V i][j]?) :=
      ⟨fun i => Classical.choose (hp i), fun i => Classical.choose (Classical.choose_spec (hp i)), fun i => Classical.choose_spec (Classical.choose_spec (hp i))⟩
    refine ⟨(List.range len).map Q, ?_, by simp at hbulk ⊢; omega⟩
    by_cases h0 : len = 0
    · subst h0
      exact .inl ⟨some a, m, by simp, by simp⟩
    · have hc0 := (hQ 0 (by omega)).2 0 (by decide)
      obtain ⟨g, o, sp⟩ := a
      have hsp : sp = none := by simpa [Addr.add] using World.cell?_spot hc0
      subst hsp
      refine .inr ⟨g, o, m, by simp, fun j hj => ?_⟩
      have hj' : j < len := by simpa using hj
      have hq := hQ j hj'
      have ad : ∀ o i, (⟨g, o, none⟩ : Addr).add i = ⟨g, o + i, none⟩ := fun o i => by unfold Addr.add; split <;> simp_all
      have e : ∀ i, ((⟨g, o, none⟩ : Addr).add (j * 7)).add i = ⟨g, o + j * 7 + i, none⟩ := fun i => by rw [ad, ad]
      have q0 := hq.2 0 (by decide)
      have q1 := hq.2 1 (by decide)
      have q2 := hq.2 2 (by decide)
      have q3 := hq.2 3 (by decide)
      have q4 := hq.2 4 (by decide)
      have q5 := hq.2 5 (by decide)
      have q6 := hq.2 6 (by decide)
      rw [e] at q0 q1 q2 q3 q4 q5 q6
      simp at q0 q1 q2 q3 q4 q5 q6
      simp only [List.getElem_map, List.getElem_range]
      exact ⟨V j, q0, q1, q2, q3, q4, q5, q6, hq.1⟩
end Go.Proofs.Ytoflkfnmbighaaa
