import Derived.Test.YtficeloegepdkaaPoq
import Derived.Test.YtficeloegepdkaaRows
import Derived.WalkKit
import Derived.ProofKit
import Derived.OpenShut
import Derived.SizedLaws
import Derived.JoinedCond
import Derived.Deep.DeepHandedRow
import Derived.Deep.Slices
namespace Go.Proofs.Ytficeloegepdkaa
open Go.ChangeShapes Go.WideShapes Go.ChangeAt Go.RowKit Go.Deep
set_option maxRecDepth 100000

theorem Try.ownKnob : ownKnob Try.prog.godebug = none := by kernel_rfl
theorem Fr.below {w w' : World} (h : Fr (fun _ => False) w w') : Below w.heap.size w w' := ⟨h.os, h.tape, h.output, h.size, fun k hk => h.block k hk (fun x => x)⟩
theorem nat_u32 {a : Int} (h : (Lit.int .u32 a).wf = true) : ∃ n : Nat, a = n ∧ n < 4294967296 := ⟨a.toNat, by have := bounds_u32 h; omega, by have := bounds_u32 h; omega⟩
theorem nat_u8 {a : Int} (h : (Lit.int .u8 a).wf = true) : ∃ n : Nat, a = n ∧ n < 256 := ⟨a.toNat, by have := bounds_u8 h; omega, by have := bounds_u8 h; omega⟩
theorem bulk_pos {H : Type} (d : DataW H) : 1 ≤ Rows.uptoBulk d := by
  unfold Rows.uptoBulk
  split <;> omega
theorem bulk_len {H : Type} : ∀ l : List (DataW H), l.length ≤ Rows.uptoBulkAll l
  | [] => Nat.zero_le _
  | d :: r => by
    have h1 := bulk_pos d
    have h2 := bulk_len r
    simp only [Rows.uptoBulkAll, List.length_cons]
    omega
theorem bulk_in {H : Type} : ∀ (l : List (DataW H)) (d : DataW H), d ∈ l → Rows.uptoBulk d ≤ Rows.uptoBulkAll l
  | [], d, h => by cases h
  | x :: r, d, h => by
    simp only [Rows.uptoBulkAll]
    rcases List.mem_cons.1 h with rfl | h
    · omega
    · have := bulk_in r d h
      omega
theorem trod_float {H : Type} {enc : TypeId × Value → H} {P : Program} {w : World} {base : Nat} {spare : Nat → Bool} {held : Bool} {fuel : Nat} {t : TypeId} {cs : List Value} {x : DataW H × List MemPlace} {k : FloatKind} (ht : P.underlying t = some (.float k)) (h : DataW.trod enc P w base spare held fuel t cs = some x) : ∃ b, cs = [.float k b] := by
  cases fuel with
  | zero => simp [DataW.trod] at h
  | succ n =>
    unfold DataW.trod at h
    rw [ht] at h
    split at h <;> simp_all
theorem Try.cellsU8 : Try.prog.cellsOf 5 = 1 := by kernel_rfl
theorem Try.cellsU32 : Try.prog.cellsOf 26 = 1 := by kernel_rfl
theorem Try.cellsF32 : Try.prog.cellsOf 33 = 1 := by kernel_rfl
theorem Try.cellsStr : Try.prog.cellsOf 9 = 1 := by kernel_rfl
theorem Try.cellsBool : Try.prog.cellsOf 4 = 1 := by kernel_rfl
theorem Try.cellsSt : Try.prog.cellsOf 40 = 3 := by kernel_rfl
theorem Try.cellsFd : Try.prog.cellsOf 35 = 5 := by kernel_rfl
theorem p3_of_trod {H : Type} {enc : TypeId × Value → H} {W : World} {fuel : Nat} {cs : List Value} {x : DataW H × List MemPlace} (h : DataW.trod enc Try.prog W 0 (fun _ => true) true fuel 40 cs = some x) :
    ∃ s : P3, cs = [.int .u32 (s.a : Nat), .int .u32 (s.r : Nat), .int .u32 (s.w : Nat)] := by
  obtain ⟨xs, n, _, rfl, hl, hlen, hf⟩ := DataW.trod_struct Try.underlying40 h
  rw [Try.cellsSt] at hl
  have h0 := hf 0 _ rfl
  have h1 := hf 1 _ rfl
  have h2 := hf 2 _ rfl
  match cs, hl with
  | [c0, c1, c2], _ =>
    match xs, hlen with
    | [y0, y1, y2], _ =>
      simp [Try.cellsU32] at h0 h1 h2
      obtain ⟨a, e0, rfl, wa⟩ := DataW.trod_int Try.underlying26 h0
      obtain ⟨b, e1, rfl, wb⟩ := DataW.trod_int Try.underlying26 h1
      obtain ⟨c, e2, rfl, wc⟩ := DataW.trod_int Try.underlying26 h2
      simp only [List.cons.injEq, and_true] at e0 e1 e2
      subst e0 e1 e2
      obtain ⟨a, rfl, _⟩ := nat_u32 wa
      obtain ⟨b, rfl, _⟩ := nat_u32 wb
      obtain ⟨c, rfl, _⟩ := nat_u32 wc
      exact ⟨⟨a, b, c⟩, rfl⟩
theorem f5_of_trod {H : Type} {enc : TypeId × Value → H} {W : World} {fuel : Nat} {cs : List Value} {x : DataW H × List MemPlace} (h : DataW.trod enc Try.prog W 0 (fun _ => true) true fuel 35 cs = some x) :
    ∃ s : F5, cs = [.string s.n, .int .u8 (s.k : Nat), .string s.t, .float .f32 s.v, .int .u8 (s.u : Nat)] := by
  obtain ⟨xs, n, _, rfl, hl, hlen, hf⟩ := DataW.trod_struct Try.underlying35 h
  rw [Try.cellsFd] at hl
  have h0 := hf 0 _ rfl
  have h1 := hf 1 _ rfl
  have h2 := hf 2 _ rfl
  have h3 := hf 3 _ rfl
  have h4 := hf 4 _ rfl
  match cs, hl with
  | [c0, c1, c2, c3, c4], _ =>
    match xs, hlen with
    | [y0, y1, y2, y3, y4], _ =>
      simp [Try.cellsU8, Try.cellsStr, Try.cellsF32] at h0 h1 h2 h3 h4
      obtain ⟨a, e0, rfl, _⟩ := DataW.trod_string Try.underlying9 h0
      obtain ⟨b, e1, rfl, wb⟩ := DataW.trod_int Try.underlying5 h1
      obtain ⟨c, e2, rfl, _⟩ := DataW.trod_string Try.underlying9 h2
      obtain ⟨d, e3⟩ := trod_float Try.underlying33 h3
      obtain ⟨e, e4, rfl, we⟩ := DataW.trod_int Try.underlying5 h4
      simp only [List.cons.injEq, and_true] at e0 e1 e2 e3 e4
      subst e0 e1 e2 e3 e4
      obtain ⟨b, rfl, _⟩ := nat_u8 wb
      obtain ⟨e, rfl, _⟩ := nat_u8 we
      exact ⟨⟨a, b, c, d, e⟩, rfl⟩
theorem stf_of_trod {H : Type} {enc : TypeId × Value → H} {W : World} {fuel : Nat} {v : Value} {x : DataW H × List MemPlace} (hf : DataW.trod enc Try.prog W 0 (fun _ => true) true fuel 22 [v] = some x) :
    ∃ A : List P3, Stf W v A ∧ A.length + 1 ≤ Rows.uptoBulk x.1 := by
  rcases open_slice Try.underlying22 hf with ⟨hcs, hx⟩ | ⟨a, len', cap', m, n, D, Pl, hcs, _, hl, hm, hmm, hx, hel⟩
  · simp only [List.cons.injEq, and_true] at hcs
    subst hcs
    exact ⟨[], .inl ⟨none, 0, rfl, rfl⟩, bulk_pos _⟩
  · simp only [List.cons.injEq, and_true] at hcs
    subst hcs
    subst hx
    simp only [if_true] at hmm
    subst hmm
    have hp : ∀ i, ∃ s : P3, i < m → ∀ j, j < 3 → W.cell? ((a.add (i * 3)).add j) = [Value.int .u32 (s.a : Nat), .int .u32 (s.r : Nat), .int .u32 (s.w : Nat)][j]? := fun i => by
      by_cases hi : i < m
      · obtain ⟨cs', h1, h2⟩ := hel i hi
        rw [Try.cellsSt] at h1
        obtain ⟨_, hlen, hcell⟩ := World.cells?_some h1
        obtain ⟨s, rfl⟩ := p3_of_trod h2
        exact ⟨s, fun _ => hcell⟩
      · exact ⟨⟨0, 0, 0⟩, fun h => absurd h hi⟩
    obtain ⟨Q, hQ⟩ : ∃ Q : Nat → P3, ∀ i, i < m → ∀ j, j < 3 → W.cell? ((a.add (i * 3)).add j) = [Value.int .u32 ((Q i).a : Nat), .int .u32 ((Q i).r : Nat), .int .u32 ((Q i).w : Nat)][j]? := ⟨fun i => Classical.choose (hp i), fun i => Classical.choose_spec (hp i)⟩
    have hbulk := bulk_len ((List.range len').map D)
    have hd : Rows.uptoBulkAll ((List.range len').map D) + 1 ≤ Rows.uptoBulk (DataW.slice ((List.range len').map D) ((List.range (m - len')).map fun j => D (len' + j)) : DataW H) := by
      simp only [Rows.uptoBulk]; omega
    refine ⟨(List.range len').map Q, ?_, by simp at hbulk ⊢; omega⟩
    by_cases h0 : len' = 0
    · subst h0
      exact .inl ⟨some a, m, by simp, by simp⟩
    · have hc0 := hQ 0 (by omega) 0 (by decide)
      obtain ⟨g, o, sp⟩ := a
      have hsp : sp = none := by simpa [Addr.add] using World.cell?_spot hc0
      subst hsp
      refine .inr ⟨g, o, m, by simp, fun j hj => ?_⟩
      have hj' : j < len' := by simpa using hj
      have hq := hQ j (by omega)
      have e : ∀ i, ((⟨g, o, none⟩ : Addr).add (j * 3)).add i = ⟨g, o + j * 3 + i, none⟩ := fun i => by rw [addr_add, addr_add]
      have q0 := hq 0 (by decide)
      have q1 := hq 1 (by decide)
      have q2 := hq 2 (by decide)
      rw [e] at q0 q1 q2
      simp at q0 q1 q2
      simp only [List.getElem_map, List.getElem_range]
      exact ⟨q0, q1, q2⟩
theorem fds_of_trod {H : Type} {enc : TypeId × Value → H} {W : World} {fuel : Nat} {v : Value} {x : DataW H × List MemPlace} (hf : DataW.trod enc Try.prog W 0 (fun _ => true) true fuel 36 [v] = some x) :
    ∃ A : List F5, Fds W v A ∧ A.length + 1 ≤ Rows.uptoBulk x.1 := by
  rcases open_slice Try.underlying36 hf with ⟨hcs, hx⟩ | ⟨a, len', cap', m, n, D, Pl, hcs, _, hl, hm, hmm, hx, hel⟩
  · simp only [List.cons.injEq, and_true] at hcs
    subst hcs
    exact ⟨[], .inl ⟨none, 0, rfl, rfl⟩, bulk_pos _⟩
  · simp only [List.cons.injEq, and_true] at hcs
    subst hcs
    subst hx
    simp only [if_true] at hmm
    subst hmm
    have hp : ∀ i, ∃ s : F5, i < m → ∀ j, j < 5 → W.cell? ((a.add (i * 5)).add j) = [Value.string s.n, .int .u8 (s.k : Nat), .string s.t, .float .f32 s.v, .int .u8 (s.u : Nat)][j]? := fun i => by
      by_cases hi : i < m
      · obtain ⟨cs', h1, h2⟩ := hel i hi
        rw [Try.cellsFd] at h1
        obtain ⟨_, hlen, hcell⟩ := World.cells?_some h1
        obtain ⟨s, rfl⟩ := f5_of_trod h2
        exact ⟨s, fun _ => hcell⟩
      · exact ⟨⟨ByteArray.empty, 0, ByteArray.empty, 0, 0⟩, fun h => absurd h hi⟩
    obtain ⟨Q, hQ⟩ : ∃ Q : Nat → F5, ∀ i, i < m → ∀ j, j < 5 → W.cell? ((a.add (i * 5)).add j) = [Value.string (Q i).n, .int .u8 ((Q i).k : Nat), .string (Q i).t, .float .f32 (Q i).v, .int .u8 ((Q i).u : Nat)][j]? := ⟨fun i => Classical.choose (hp i), fun i => Classical.choose_spec (hp i)⟩
    have hbulk := bulk_len ((List.range len').map D)
    have hd : Rows.uptoBulkAll ((List.range len').map D) + 1 ≤ Rows.uptoBulk (DataW.slice ((List.range len').map D) ((List.range (m - len')).map fun j => D (len' + j)) : DataW H) := by
      simp only [Rows.uptoBulk]; omega
    refine ⟨(List.range len').map Q, ?_, by simp at hbulk ⊢; omega⟩
    by_cases h0 : len' = 0
    · subst h0
      exact .inl ⟨some a, m, by simp, by simp⟩
    · have hc0 := hQ 0 (by omega) 0 (by decide)
      obtain ⟨g, o, sp⟩ := a
      have hsp : sp = none := by simpa [Addr.add] using World.cell?_spot hc0
      subst hsp
      refine .inr ⟨g, o, m, by simp, fun j hj => ?_⟩
      have hj' : j < len' := by simpa using hj
      have hq := hQ j (by omega)
      have e : ∀ i, ((⟨g, o, none⟩ : Addr).add (j * 5)).add i = ⟨g, o + j * 5 + i, none⟩ := fun i => by rw [addr_add, addr_add]
      have q0 := hq 0 (by decide)
      have q1 := hq 1 (by decide)
      have q2 := hq 2 (by decide)
      have q3 := hq 3 (by decide)
      have q4 := hq 4 (by decide)
      rw [e] at q0 q1 q2 q3 q4
      simp at q0 q1 q2 q3 q4
      simp only [List.getElem_map, List.getElem_range]
      exact ⟨q0, q1, q2, q3, q4⟩
theorem us_of_trod {H : Type} {enc : TypeId × Value → H} {W : World} {fuel : Nat} {v : Value} {x : DataW H × List MemPlace} (hf : DataW.trod enc Try.prog W 0 (fun _ => true) true fuel 27 [v] = some x) :
    ∃ l : List Nat, Us W v l ∧ l.length + 1 ≤ Rows.uptoBulk x.1 := by
  rcases open_ints Try.underlying27 Try.underlying26 Try.cellsU32 hf with ⟨hcs, hx⟩ | ⟨a, len, cap, zs, hcs, _, hl, hm, hz, hx, hcell, hwz⟩
  · simp only [List.cons.injEq, and_true] at hcs
    subst hcs
    exact ⟨[], .inl ⟨none, 0, rfl, rfl⟩, bulk_pos _⟩
  · simp only [List.cons.injEq, and_true] at hcs
    subst hcs
    subst hx
    simp only [if_true] at hz
    have hlen : ((zs.take len).map Int.toNat).length = len := by simp; omega
    have hbulk : len + 1 ≤ Rows.uptoBulk (DataW.slice (lits .u32 (zs.take len)) (lits .u32 (zs.drop len)) : DataW H) := by
      have h1 := bulk_len (lits .u32 (zs.take len) : List (DataW H))
      have h2 : (lits .u32 (zs.take len) : List (DataW H)).length = len := by simp [lits]; omega
      simp only [Rows.uptoBulk]
      omega
    by_cases h0 : len = 0
    · subst h0
      exact ⟨[], .inl ⟨some a, cap, rfl, rfl⟩, bulk_pos _⟩
    · obtain ⟨b, off, rfl, hc⟩ := ints_at hcell (show 0 < zs.length by omega)
      refine ⟨(zs.take len).map Int.toNat, .inr ⟨b, off, cap, by rw [hlen], fun j hj => ?_⟩, by rw [hlen]; exact hbulk⟩
      have hj' : j < len := by rw [hlen] at hj; exact hj
      rw [hc j (by omega)]
      have hw := bounds_u32 (hwz (zs.getD j 0) (by simp [List.getD, show j < zs.length by omega]))
      simp [show j < zs.length by omega] at hw ⊢
      omega
end Go.Proofs.Ytficeloegepdkaa
