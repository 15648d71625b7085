import Derived.Test.YtkiepcdncegniaaBase
import Derived.Test.YtkiepcdncegniaaRows
import Derived.WalkKit
import Derived.ProofKit
import Derived.OpenShut
import Derived.SizedLaws
import Derived.JoinedCond
import Derived.Deep.DeepHandedRow
import Derived.Test.YtkiepcdncegniaaZai
import Derived.Deep.Slices
import Derived.Test.YtkiepcdncegniaaPk3
namespace Go.Proofs.Ytkiepcdncegniaa
open Go.ChangeShapes Go.WideShapes Go.ChangeAt Go.RowKit
set_option maxRecDepth 100000

theorem Try.ownKnob : ownKnob Try.prog.godebug = none := by kernel_rfl
theorem Fr.below {w w' : World} (h : Fr (fun _ => False) w w') : Below w.heap.size w w' := ⟨h.os, h.tape, h.output, h.size, fun k hk => h.block k hk (fun x => x)⟩
end Go.Proofs.Ytkiepcdncegniaa

namespace Go.Proofs.Ytkiepcdncegniaa
open Go.ChangeShapes Go.WideShapes Go.ChangeAt Go.RowKit Go.Deep
set_option maxRecDepth 100000

theorem nat_u32 {a : Int} (h : (Lit.int .u32 a).wf = true) : ∃ n : Nat, a = n ∧ n < 4294967296 := ⟨a.toNat, by have := bounds_u32 h; omega, by have := bounds_u32 h; omega⟩
theorem nat_u8 {a : Int} (h : (Lit.int .u8 a).wf = true) : ∃ n : Nat, a = n ∧ n < 256 := ⟨a.toNat, by have := bounds_u8 h; omega, by have := bounds_u8 h; omega⟩
theorem bulk_pos {H : Type} (d : DataW H) : 1 ≤ Rows.uptoBulk d := by
  unfold Rows.uptoBulk
  split <;> omega
theorem bulk_len {H : Type} : ∀ l : List (DataW H), l.length ≤ Rows.uptoBulkAll l
  | [] => Nat.zero_le _
  | d :: r => by
    have h1 := bulk_pos d
    have h2 := bulk_len r
    simp only [Rows.uptoBulkAll, List.length_cons]
    omega
theorem bulk_in {H : Type} : ∀ (l : List (DataW H)) (d : DataW H), d ∈ l → Rows.uptoBulk d ≤ Rows.uptoBulkAll l
  | [], d, h => by cases h
  | x :: r, d, h => by
    simp only [Rows.uptoBulkAll]
    rcases List.mem_cons.1 h with rfl | h
    · omega
    · have := bulk_in r d h
      omega
theorem Try.zclU32 : Try.prog.cellsOf 26 = 1 := by kernel_rfl
theorem Try.zclU8 : Try.prog.cellsOf 5 = 1 := by kernel_rfl
theorem Try.zclF32 : Try.prog.cellsOf 77 = 1 := by kernel_rfl
theorem Try.zclStr : Try.prog.cellsOf 9 = 1 := by kernel_rfl
theorem Try.zclBool : Try.prog.cellsOf 4 = 1 := by kernel_rfl
theorem Try.zclFd : Try.prog.cellsOf 79 = 5 := by kernel_rfl
theorem Try.zclSm : Try.prog.cellsOf 81 = 4 := by kernel_rfl
theorem Try.zclId : Try.prog.cellsOf 29 = 2 := by kernel_rfl
theorem Try.zclSlf : Try.prog.cellsOf 32 = 1 := by kernel_rfl
theorem Try.zclSlm : Try.prog.cellsOf 42 = 1 := by kernel_rfl
theorem Try.zclSlb : Try.prog.cellsOf 45 = 1 := by kernel_rfl
theorem Try.zclRq : Try.prog.cellsOf 34 = 10 := by kernel_rfl
theorem Try.zclAn : Try.prog.cellsOf 44 = 7 := by kernel_rfl
theorem Try.zclEv : Try.prog.cellsOf 47 = 13 := by kernel_rfl
theorem Try.zclMs : Try.prog.cellsOf 49 = 35 := by kernel_rfl
theorem trod_floatw {H : Type} {enc : TypeId × Value → H} {P : Program} {w : World} {base : Nat} {spare : Nat → Bool} {held : Bool} {fuel : Nat} {t : TypeId} {cs : List Value} {x : DataW H × List MemPlace} (ht : P.underlying t = some (.float .f32)) (h : DataW.trod enc P w base spare held fuel t cs = some x) : ∃ b, cs = [.float .f32 b] ∧ b < 4294967296 := by
  cases fuel with
  | zero => simp [DataW.trod] at h
  | succ n =>
    unfold DataW.trod at h
    rw [ht] at h
    split at h <;> simp_all [Lit.wf]
    rename_i k' b hk
    subst hk
    by_cases hh : k' = FloatKind.f32 ∧ decide (b < 4294967296) = true
    · exact ⟨_, ⟨hh.1, rfl⟩, of_decide_eq_true hh.2⟩
    · exact absurd ((if_neg hh).symm.trans h) (by simp)
theorem trod_boolw {H : Type} {enc : TypeId × Value → H} {P : Program} {w : World} {base : Nat} {spare : Nat → Bool} {held : Bool} {fuel : Nat} {t : TypeId} {cs : List Value} {x : DataW H × List MemPlace} (ht : P.underlying t = some .bool) (h : DataW.trod enc P w base spare held fuel t cs = some x) : ∃ b, cs = [.bool b] := by
  cases fuel with
  | zero => simp [DataW.trod] at h
  | succ n =>
    unfold DataW.trod at h
    rw [ht] at h
    split at h <;> simp_all
/-- A row's cells, one element behind the other. -/
theorem rows_at {W : World} {a : Addr} {z : Nat} (f : Nat → List Value) : ∀ len, (∀ i, i < len → (f i).length = z) → (∀ i, i < len → ∀ j, j < z → W.cell? ((a.add (i * z)).add j) = (f i)[j]?) → ((List.range len).flatMap f).length = len * z ∧ ∀ k u, ((List.range len).flatMap f)[k]? = some u → W.cell? (a.add k) = some u
  | 0, _, _ => by simp
  | n + 1, hl, hc => by
    obtain ⟨ih1, ih2⟩ := rows_at f n (fun i hi => hl i (by omega)) (fun i hi => hc i (by omega))
    rw [List.range_succ, List.flatMap_append]
    have e : [n].flatMap f = f n := by simp
    rw [e]
    refine ⟨by rw [List.length_append, ih1, hl n (by omega), Nat.succ_mul], fun k u hk => ?_⟩
    by_cases h : k < n * z
    · rw [List.getElem?_append_left (by omega)] at hk
      exact ih2 k u hk
    · rw [List.getElem?_append_right (by omega), ih1] at hk
      have hj : k - n * z < z := by have := (List.getElem?_eq_some_iff.1 hk).1; rw [hl n (by omega)] at this; exact this
      have := hc n (by omega) (k - n * z) hj
      rw [hk] at this
      rw [← this]
      congr 1
      have e2 : n * z + (k - n * z) = k := by omega
      rw [Addr.add_add, e2]
theorem f5_of_trod {H : Type} {enc : TypeId × Value → H} {W : World} {fuel : Nat} {cs : List Value} {x : DataW H × List MemPlace} (h : DataW.trod enc Try.prog W 0 (fun _ => true) true fuel 79 cs = some x) :
    ∃ s : F5, cs = [.string s.n, .int .u8 (s.k : Nat), .string s.t, .float .f32 s.v, .int .u8 (s.u : Nat)] := by
  obtain ⟨xs, n, _, rfl, hl, hlen, hf⟩ := DataW.trod_struct Try.underlying79 h
  rw [Try.zclFd] at hl
  have h0 := hf 0 _ rfl
  have h1 := hf 1 _ rfl
  have h2 := hf 2 _ rfl
  have h3 := hf 3 _ rfl
  have h4 := hf 4 _ rfl
  match cs, hl with
  | [c0, c1, c2, c3, c4], _ =>
    match xs, hlen with
    | [y0, y1, y2, y3, y4], _ =>
      simp [Try.zclU8, Try.zclStr, Try.zclF32] at h0 h1 h2 h3 h4
      obtain ⟨a, e0, _, _⟩ := DataW.trod_string Try.underlying9 h0
      obtain ⟨b, e1, _, wb⟩ := DataW.trod_int Try.underlying5 h1
      obtain ⟨c, e2, _, _⟩ := DataW.trod_string Try.underlying9 h2
      obtain ⟨d, e3, wd⟩ := trod_floatw Try.underlying77 h3
      obtain ⟨e, e4, _, we⟩ := DataW.trod_int Try.underlying5 h4
      simp only [List.cons.injEq, and_true] at e0 e1 e2 e3 e4
      subst e0 e1 e2 e3 e4
      obtain ⟨b, rfl, _⟩ := nat_u8 wb
      obtain ⟨e, rfl, _⟩ := nat_u8 we
      exact ⟨⟨a, b, c, d, e⟩, rfl⟩
theorem sm_of_trod {H : Type} {enc : TypeId × Value → H} {W : World} {fuel : Nat} {cs : List Value} {x : DataW H × List MemPlace} (h : DataW.trod enc Try.prog W 0 (fun _ => true) true fuel 81 cs = some x) :
    ∃ s : SM, cs = [.int .u32 (s.au : Nat), .int .u32 (s.ev : Nat), .int .u32 (s.nf : Nat), .bool s.rd] := by
  obtain ⟨xs, n, _, rfl, hl, hlen, hf⟩ := DataW.trod_struct Try.underlying81 h
  rw [Try.zclSm] at hl
  have h0 := hf 0 _ rfl
  have h1 := hf 1 _ rfl
  have h2 := hf 2 _ rfl
  have h3 := hf 3 _ rfl
  match cs, hl with
  | [c0, c1, c2, c3], _ =>
    match xs, hlen with
    | [y0, y1, y2, y3], _ =>
      simp [Try.zclU32, Try.zclBool] at h0 h1 h2 h3
      obtain ⟨a, e0, _, wa⟩ := DataW.trod_int Try.underlying26 h0
      obtain ⟨b, e1, _, wb⟩ := DataW.trod_int Try.underlying26 h1
      obtain ⟨c, e2, _, wc⟩ := DataW.trod_int Try.underlying26 h2
      obtain ⟨d, e3⟩ := trod_boolw Try.underlying4 h3
      simp only [List.cons.injEq, and_true] at e0 e1 e2 e3
      subst e0 e1 e2 e3
      obtain ⟨a, rfl, _⟩ := nat_u32 wa
      obtain ⟨b, rfl, _⟩ := nat_u32 wb
      obtain ⟨c, rfl, _⟩ := nat_u32 wc
      exact ⟨⟨a, b, c, d⟩, rfl⟩
/-- A list that came in. -/
theorem rdField_of_trod {H : Type} {enc : TypeId × Value → H} {W : World} {fuel : Nat} {v : Value} {x : DataW H × List MemPlace} (hf : DataW.trod enc Try.prog W 0 (fun _ => true) true fuel 32 [v] = some x) :
    ∃ A : List F5, Rd W v A.length 5 (fcells A) ∧ A.length + 1 ≤ Rows.uptoBulk x.1 := by
  rcases open_slice Try.underlying32 hf with ⟨hcs, hx⟩ | ⟨a, len', cap', m, n, D, Pl, hcs, _, hl, hm, hmm, hx, hel⟩
  · simp only [List.cons.injEq, and_true] at hcs
    subst hcs
    exact ⟨[], Rd.nil W 5, bulk_pos _⟩
  · simp only [List.cons.injEq, and_true] at hcs
    subst hcs
    subst hx
    simp only [if_true] at hmm
    subst hmm
    have hp : ∀ i, ∃ s : F5, i < m → ∀ j, j < 5 → W.cell? ((a.add (i * 5)).add j) = [Value.string (s).n, .int .u8 ((s).k : Nat), .string (s).t, .float .f32 (s).v, .int .u8 ((s).u : Nat)][j]? := fun i => by
      by_cases hi : i < m
      · obtain ⟨cs', h1, h2⟩ := hel i hi
        rw [Try.zclFd] at h1
        obtain ⟨_, hlen, hcell⟩ := World.cells?_some h1
        obtain ⟨s, rfl⟩ := f5_of_trod h2
        exact ⟨s, fun _ => hcell⟩
      · exact ⟨⟨ByteArray.empty, 0, ByteArray.empty, 0, 0⟩, fun h => absurd h hi⟩
    obtain ⟨Q, hQ⟩ : ∃ Q : Nat → F5, ∀ i, i < m → ∀ j, j < 5 → W.cell? ((a.add (i * 5)).add j) = ((fun s : F5 => [Value.string (s).n, .int .u8 ((s).k : Nat), .string (s).t, .float .f32 (s).v, .int .u8 ((s).u : Nat)]) (Q i))[j]? := ⟨fun i => Classical.choose (hp i), fun i => Classical.choose_spec (hp i)⟩
    have hbulk := bulk_len ((List.range len').map D)
    have hd : Rows.uptoBulkAll ((List.range len').map D) + 1 ≤ Rows.uptoBulk (DataW.slice ((List.range len').map D) ((List.range (m - len')).map fun j => D (len' + j)) : DataW H) := by
      simp only [Rows.uptoBulk]; omega
    obtain ⟨hr1, hr2⟩ := rows_at (W := W) (a := a) (z := 5) (fun i => (fun s : F5 => [Value.string (s).n, .int .u8 ((s).k : Nat), .string (s).t, .float .f32 (s).v, .int .u8 ((s).u : Nat)]) (Q i)) len' (fun i _ => rfl) (fun i hi => hQ i (by omega))
    have hce : fcells ((List.range len').map Q) = (List.range len').flatMap (fun i => (fun s : F5 => [Value.string (s).n, .int .u8 ((s).k : Nat), .string (s).t, .float .f32 (s).v, .int .u8 ((s).u : Nat)]) (Q i)) := by
      unfold fcells
      rw [List.flatMap_map]
    have hll : ((List.range len').map Q).length = len' := by simp
    refine ⟨(List.range len').map Q, ⟨⟨some a, m, by rw [hll], by rw [hll]; exact hl, fun e => (by cases e), fun j u hu => ?_⟩, by rw [hll, hce, hr1], fcells_one _⟩, by simp at hbulk ⊢; omega⟩
    rw [hce] at hu
    have h1 := hr2 j u hu
    have h0 := hr2 0 _ (List.getElem?_eq_getElem (by have := (List.getElem?_eq_some_iff.1 hu).1; omega))
    obtain ⟨g, o, sp⟩ := a
    have hsp : sp = none := by simpa [Addr.add] using World.cell?_spot h0
    subst hsp
    exact ⟨g, o, rfl, by rw [Addr.add_mid] at h1; exact h1⟩
/-- A list that came in. -/
theorem rdSummary_of_trod {H : Type} {enc : TypeId × Value → H} {W : World} {fuel : Nat} {v : Value} {x : DataW H × List MemPlace} (hf : DataW.trod enc Try.prog W 0 (fun _ => true) true fuel 42 [v] = some x) :
    ∃ A : List SM, Rd W v A.length 4 (scells A) ∧ A.length + 1 ≤ Rows.uptoBulk x.1 := by
  rcases open_slice Try.underlying42 hf with ⟨hcs, hx⟩ | ⟨a, len', cap', m, n, D, Pl, hcs, _, hl, hm, hmm, hx, hel⟩
  · simp only [List.cons.injEq, and_true] at hcs
    subst hcs
    exact ⟨[], Rd.nil W 4, bulk_pos _⟩
  · simp only [List.cons.injEq, and_true] at hcs
    subst hcs
    subst hx
    simp only [if_true] at hmm
    subst hmm
    have hp : ∀ i, ∃ s : SM, i < m → ∀ j, j < 4 → W.cell? ((a.add (i * 4)).add j) = [Value.int .u32 ((s).au : Nat), .int .u32 ((s).ev : Nat), .int .u32 ((s).nf : Nat), .bool (s).rd][j]? := fun i => by
      by_cases hi : i < m
      · obtain ⟨cs', h1, h2⟩ := hel i hi
        rw [Try.zclSm] at h1
        obtain ⟨_, hlen, hcell⟩ := World.cells?_some h1
        obtain ⟨s, rfl⟩ := sm_of_trod h2
        exact ⟨s, fun _ => hcell⟩
      · exact ⟨⟨0, 0, 0, false⟩, fun h => absurd h hi⟩
    obtain ⟨Q, hQ⟩ : ∃ Q : Nat → SM, ∀ i, i < m → ∀ j, j < 4 → W.cell? ((a.add (i * 4)).add j) = ((fun s : SM => [Value.int .u32 ((s).au : Nat), .int .u32 ((s).ev : Nat), .int .u32 ((s).nf : Nat), .bool (s).rd]) (Q i))[j]? := ⟨fun i => Classical.choose (hp i), fun i => Classical.choose_spec (hp i)⟩
    have hbulk := bulk_len ((List.range len').map D)
    have hd : Rows.uptoBulkAll ((List.range len').map D) + 1 ≤ Rows.uptoBulk (DataW.slice ((List.range len').map D) ((List.range (m - len')).map fun j => D (len' + j)) : DataW H) := by
      simp only [Rows.uptoBulk]; omega
    obtain ⟨hr1, hr2⟩ := rows_at (W := W) (a := a) (z := 4) (fun i => (fun s : SM => [Value.int .u32 ((s).au : Nat), .int .u32 ((s).ev : Nat), .int .u32 ((s).nf : Nat), .bool (s).rd]) (Q i)) len' (fun i _ => rfl) (fun i hi => hQ i (by omega))
    have hce : scells ((List.range len').map Q) = (List.range len').flatMap (fun i => (fun s : SM => [Value.int .u32 ((s).au : Nat), .int .u32 ((s).ev : Nat), .int .u32 ((s).nf : Nat), .bool (s).rd]) (Q i)) := by
      unfold scells
      rw [List.flatMap_map]
    have hll : ((List.range len').map Q).length = len' := by simp
    refine ⟨(List.range len').map Q, ⟨⟨some a, m, by rw [hll], by rw [hll]; exact hl, fun e => (by cases e), fun j u hu => ?_⟩, by rw [hll, hce, hr1], scells_one _⟩, by simp at hbulk ⊢; omega⟩
    rw [hce] at hu
    have h1 := hr2 j u hu
    have h0 := hr2 0 _ (List.getElem?_eq_getElem (by have := (List.getElem?_eq_some_iff.1 hu).1; omega))
    obtain ⟨g, o, sp⟩ := a
    have hsp : sp = none := by simpa [Addr.add] using World.cell?_spot h0
    subst hsp
    exact ⟨g, o, rfl, by rw [Addr.add_mid] at h1; exact h1⟩
theorem id_of_trod {H : Type} {enc : TypeId × Value → H} {W : World} {fuel : Nat} {cs : List Value} {x : DataW H × List MemPlace} (h : DataW.trod enc Try.prog W 0 (fun _ => true) true fuel 29 cs = some x) :
    ∃ c k : Nat, cs = [.int .u32 (c : Nat), .int .u32 (k : Nat)] ∧ c < 4294967296 ∧ k < 4294967296 := by
  obtain ⟨xs, n, _, rfl, hl, hlen, hf⟩ := DataW.trod_struct Try.underlying29 h
  rw [Try.zclId] at hl
  have h0 := hf 0 _ rfl
  have h1 := hf 1 _ rfl
  match cs, hl with
  | [c0, c1], _ =>
    match xs, hlen with
    | [y0, y1], _ =>
      simp [Try.zclU32] at h0 h1
      obtain ⟨a, e0, _, wa⟩ := DataW.trod_int Try.underlying26 h0
      obtain ⟨b, e1, _, wb⟩ := DataW.trod_int Try.underlying26 h1
      simp only [List.cons.injEq, and_true] at e0 e1
      subst e0 e1
      obtain ⟨a, rfl, ha⟩ := nat_u32 wa
      obtain ⟨b, rfl, hb⟩ := nat_u32 wb
      exact ⟨a, b, rfl, ha, hb⟩
theorem sl_of_trod {H : Type} {enc : TypeId × Value → H} {P : Program} {W : World} {fuel : Nat} {t e : TypeId} {v : Value} {x : DataW H × List MemPlace} (ht : P.underlying t = some (.slice e)) (hf : DataW.trod enc P W 0 (fun _ => true) true fuel t [v] = some x) : ∃ a n c, v = .slice a n c := by
  rcases open_slice ht hf with ⟨hcs, hx⟩ | ⟨a, len', cap', m, n, D, Pl, hcs, _⟩
  · simp only [List.cons.injEq, and_true] at hcs
    exact ⟨_, _, _, hcs⟩
  · simp only [List.cons.injEq, and_true] at hcs
    exact ⟨_, _, _, hcs⟩
/-- A request that came in: cells, whatever they hold. -/
theorem rq_one {H : Type} {enc : TypeId × Value → H} {W : World} {fuel : Nat} {cs : List Value} {x : DataW H × List MemPlace} (h : DataW.trod enc Try.prog W 0 (fun _ => true) true fuel 34 cs = some x) : cs.length = 10 ∧ ∀ v ∈ cs, v.oneCell' = true := by
  obtain ⟨xs, n, _, rfl, hl, hlen, hf⟩ := DataW.trod_struct Try.underlying34 h
  rw [Try.zclRq] at hl
  have h0 := hf 0 _ rfl
  have h1 := hf 1 _ rfl
  have h2 := hf 2 _ rfl
  have h3 := hf 3 _ rfl
  have h4 := hf 4 _ rfl
  have h5 := hf 5 _ rfl
  have h6 := hf 6 _ rfl
  have h7 := hf 7 _ rfl
  have h8 := hf 8 _ rfl
  match cs, hl with
  | [c0, c1, c2, c3, c4, c5, c6, c7, c8, c9], _ =>
    match xs, hlen with
    | [y0, y1, y2, y3, y4, y5, y6, y7, y8], _ =>
      simp [Try.zclU32, Try.zclU8, Try.zclId, Try.zclSlf, Try.zclStr] at h0 h1 h2 h3 h4 h5 h6 h7 h8
      obtain ⟨cl, nu, e0, _⟩ := id_of_trod h0
      obtain ⟨ac, e1, q1, w1⟩ := DataW.trod_int Try.underlying26 h1
      obtain ⟨op, e2, q2, w2⟩ := DataW.trod_int Try.underlying5 h2
      obtain ⟨rc, e3, q3, w3⟩ := DataW.trod_int Try.underlying26 h3
      obtain ⟨ve, e4, q4, w4⟩ := DataW.trod_int Try.underlying26 h4
      obtain ⟨wa, e5, q5, w5⟩ := DataW.trod_int Try.underlying26 h5
      obtain ⟨ow, e6, q6, w6⟩ := DataW.trod_int Try.underlying26 h6
      obtain ⟨a7, n7, k7, e7⟩ := sl_of_trod Try.underlying32 h7
      obtain ⟨rs, e8, q8, _⟩ := DataW.trod_string Try.underlying9 h8
      simp only [List.cons.injEq, and_true] at e0 e1 e2 e3 e4 e5 e6 e8
      obtain ⟨rfl, rfl⟩ := e0
      subst e1 e2 e3 e4 e5 e6 e7 e8
      exact ⟨rfl, fun v hv => by
        simp only [List.mem_cons, List.not_mem_nil, or_false] at hv
        rcases hv with rfl | rfl | rfl | rfl | rfl | rfl | rfl | rfl | rfl | rfl <;> rfl⟩
theorem ev_one {H : Type} {enc : TypeId × Value → H} {W : World} {fuel : Nat} {cs : List Value} {x : DataW H × List MemPlace} (h : DataW.trod enc Try.prog W 0 (fun _ => true) true fuel 47 cs = some x) : cs.length = 13 ∧ ∀ v ∈ cs, v.oneCell' = true := by
  obtain ⟨xs, n, _, rfl, hl, hlen, hf⟩ := DataW.trod_struct Try.underlying47 h
  rw [Try.zclEv] at hl
  have h0 := hf 0 _ rfl
  have h1 := hf 1 _ rfl
  have h2 := hf 2 _ rfl
  have h3 := hf 3 _ rfl
  match cs, hl with
  | [c0, c1, c2, c3, c4, c5, c6, c7, c8, c9, c10, c11, c12], _ =>
    match xs, hlen with
    | [y0, y1, y2, y3], _ =>
      simp [Try.zclU32, Try.zclU8, Try.zclRq, Try.zclSlb] at h0 h1 h2 h3
      obtain ⟨pl, e0, _, _⟩ := DataW.trod_int Try.underlying26 h0
      obtain ⟨_, hr⟩ := rq_one h1
      obtain ⟨co, e2, _, _⟩ := DataW.trod_int Try.underlying5 h2
      obtain ⟨a3, n3, k3, e3⟩ := sl_of_trod Try.underlying45 h3
      simp only [List.cons.injEq, and_true] at e0 e2
      subst e0 e2 e3
      exact ⟨rfl, fun v hv => by
        simp only [List.mem_cons, List.not_mem_nil, or_false] at hv
        rcases hv with rfl | h | h | h | h | h | h | h | h | h | h | rfl | rfl
        · rfl
        iterate 10 (first | exact hr v (by simp [h]) | skip)
        · rfl
        · rfl⟩
/-- An answer that came in. -/
theorem an_of_trod {H : Type} {enc : TypeId × Value → H} {W : World} {fuel : Nat} {cs : List Value} {x : DataW H × List MemPlace} (h : DataW.trod enc Try.prog W 0 (fun _ => true) true fuel 44 cs = some x) :
    ∃ (a : AN) (F : List F5) (K : List SM), cs = a.cs ∧ a.cl < 4294967296 ∧ a.nu < 4294967296 ∧ Rd W a.fv F.length 5 (fcells F) ∧ Rd W a.hv K.length 4 (scells K) ∧ F.length + 1 ≤ Rows.uptoBulk x.1 ∧ K.length + 1 ≤ Rows.uptoBulk x.1 := by
  obtain ⟨xs, n, _, rfl, hl, hlen, hf⟩ := DataW.trod_struct Try.underlying44 h
  rw [Try.zclAn] at hl
  have h0 := hf 0 _ rfl
  have h1 := hf 1 _ rfl
  have h2 := hf 2 _ rfl
  have h3 := hf 3 _ rfl
  have h4 := hf 4 _ rfl
  have h5 := hf 5 _ rfl
  match cs, hl with
  | [c0, c1, c2, c3, c4, c5, c6], _ =>
    match xs, hlen with
    | [y0, y1, y2, y3, y4, y5], _ =>
      simp [Try.zclU32, Try.zclU8, Try.zclId, Try.zclSlf, Try.zclSlm] at h0 h1 h2 h3 h4 h5
      obtain ⟨cl, nu, e0, b0, b1⟩ := id_of_trod h0
      obtain ⟨co, e1, _, w1⟩ := DataW.trod_int Try.underlying5 h1
      obtain ⟨rc, e2, _, w2⟩ := DataW.trod_int Try.underlying26 h2
      obtain ⟨ve, e3, _, w3⟩ := DataW.trod_int Try.underlying26 h3
      obtain ⟨F, hF, bF⟩ := rdField_of_trod h4
      obtain ⟨K, hK, bK⟩ := rdSummary_of_trod h5
      simp only [List.cons.injEq, and_true] at e0 e1 e2 e3
      obtain ⟨rfl, rfl⟩ := e0
      subst e1 e2 e3
      obtain ⟨co, rfl, _⟩ := nat_u8 w1
      obtain ⟨rc, rfl, _⟩ := nat_u32 w2
      obtain ⟨ve, rfl, _⟩ := nat_u32 w3
      have k4 := bulk_in ([y0, y1, y2, y3, y4, y5].map (·.1)) y4.1 (by simp)
      have k5 := bulk_in ([y0, y1, y2, y3, y4, y5].map (·.1)) y5.1 (by simp)
      exact ⟨⟨cl, nu, co, rc, ve, c5, c6⟩, F, K, rfl, b0, b1, hF, hK, by simp only [Rows.uptoBulk]; omega, by simp only [Rows.uptoBulk]; omega⟩
end Go.Proofs.Ytkiepcdncegniaa

namespace Go.Proofs.Ytkiepcdncegniaa
open Go.ChangeShapes Go.WideShapes Go.ChangeAt Go.RowKit Go.Deep
set_option maxRecDepth 100000

theorem piece {cs l : List Value} {o n : Nat} (h : (cs.drop o).take n = l) {j : Nat} (hj : j < n) : cs[o + j]? = l[j]? := by
  rw [← h, List.getElem?_take_of_lt hj, List.getElem?_drop]
/-- A message that came in. -/
theorem ms_of_trod {H : Type} {enc : TypeId × Value → H} {W : World} {fuel : Nat} {cs : List Value} {x : DataW H × List MemPlace} (h : DataW.trod enc Try.prog W 0 (fun _ => true) true fuel 49 cs = some x) (hk : Rows.uptoBulk x.1 ≤ 1048576) :
    ∃ m : MG, cs = m.xs ∧ m.Ok W := by
  obtain ⟨xs, n, _, rfl, hl, hlen, hf⟩ := DataW.trod_struct Try.underlying49 h
  rw [Try.zclMs] at hl
  have h0 := hf 0 _ rfl
  have h1 := hf 1 _ rfl
  have h2 := hf 2 _ rfl
  have h3 := hf 3 _ rfl
  have h4 := hf 4 _ rfl
  have h5 := hf 5 _ rfl
  have h6 := hf 6 _ rfl
  match xs, hlen with
  | [y0, y1, y2, y3, y4, y5, y6], _ =>
    simp [Try.zclU32, Try.zclU8, Try.zclId, Try.zclRq, Try.zclAn, Try.zclEv, -List.drop_one] at h0 h1 h2 h3 h4 h5 h6
    change DataW.trod _ _ _ _ _ _ _ _ ((cs.drop 0).take 1) = _ at h0
    change DataW.trod _ _ _ _ _ _ _ _ ((cs.drop 1).take 10) = _ at h1
    change DataW.trod _ _ _ _ _ _ _ _ ((cs.drop 11).take 2) = _ at h2
    change DataW.trod _ _ _ _ _ _ _ _ ((cs.drop 13).take 7) = _ at h3
    change DataW.trod _ _ _ _ _ _ _ _ ((cs.drop 20).take 1) = _ at h4
    change DataW.trod _ _ _ _ _ _ _ _ ((cs.drop 21).take 13) = _ at h5
    change DataW.trod _ _ _ _ _ _ _ _ ((cs.drop 34).take 1) = _ at h6
    obtain ⟨ki, e0, _, w0⟩ := DataW.trod_int Try.underlying5 h0
    obtain ⟨_, hr⟩ := rq_one h1
    obtain ⟨icl, inu, e2, b0, b1⟩ := id_of_trod h2
    obtain ⟨a, F, K, e3, ba, bn, hF, hK, bF, bK⟩ := an_of_trod h3
    obtain ⟨co, e4, _, w4⟩ := DataW.trod_int Try.underlying5 h4
    obtain ⟨_, hv⟩ := ev_one h5
    obtain ⟨le, e6, _, w6⟩ := DataW.trod_int Try.underlying26 h6
    obtain ⟨ki, rfl, bk⟩ := nat_u8 w0
    obtain ⟨co, rfl, bc⟩ := nat_u8 w4
    have k3 := bulk_in ([y0, y1, y2, y3, y4, y5, y6].map (·.1)) y3.1 (by simp)
    have hk' : Rows.uptoBulkAll ([y0, y1, y2, y3, y4, y5, y6].map (·.1)) ≤ 1048576 := by simp only [Rows.uptoBulk] at hk; omega
    obtain ⟨fo, fn, fc, ef⟩ : ∃ fo fn fc, a.fv = .slice fo fn fc := by obtain ⟨xo, c, e, _⟩ := hF.f; exact ⟨_, _, _, e⟩
    obtain ⟨ho, hn, hc, eh⟩ : ∃ fo fn fc, a.hv = .slice fo fn fc := by obtain ⟨xo, c, e, _⟩ := hK.f; exact ⟨_, _, _, e⟩
    have han : ∀ v ∈ a.cs, v.oneCell' = true := fun v hv => by
      simp only [AN.cs, List.mem_cons, List.not_mem_nil, or_false] at hv
      rcases hv with rfl | rfl | rfl | rfl | rfl | rfl | rfl
      · rfl
      · rfl
      · rfl
      · rfl
      · rfl
      · rw [ef]; rfl
      · rw [eh]; rfl
    have hin : ∀ {o n : Nat} {l : List Value} {v : Value} {j : Nat}, (cs.drop o).take n = l → cs[j]? = some v → o ≤ j → j < o + n → v ∈ l := fun {o n l v j} h hj h1 h2 => by
      have := piece h (j := j - o) (by omega)
      rw [show o + (j - o) = j by omega, hj] at this
      exact List.mem_of_getElem? this.symm
    refine ⟨⟨cs, ki, icl, inu, co, a, F, K⟩, rfl, ⟨piece e0 (j := 0) (by decide), piece e2 (j := 0) (by decide), piece e2 (j := 1) (by decide), fun j v hj => ?_, piece e4 (j := 0) (by decide)⟩, hl, fun v hm => ?_, bk, b0, b1, bc, ba, bn, hF, hK, by simp only; omega, by simp only; omega⟩
    · have hj7 : j < 7 := (List.getElem?_eq_some_iff.1 hj).1
      exact (piece e3 hj7).trans hj
    · obtain ⟨j, hj⟩ := List.getElem?_of_mem hm
      have hj35 : j < 35 := by have := (List.getElem?_eq_some_iff.1 hj).1; simp only at this; omega
      by_cases j1 : j < 1
      · have := hin e0 hj (by omega) (by omega)
        simp only [List.mem_cons, List.not_mem_nil, or_false] at this; subst this; rfl
      by_cases j2 : j < 11
      · exact hr v (hin rfl hj (by omega) (by omega))
      by_cases j3 : j < 13
      · have := hin e2 hj (by omega) (by omega)
        simp only [List.mem_cons, List.not_mem_nil, or_false] at this; rcases this with rfl | rfl <;> rfl
      by_cases j4 : j < 20
      · exact han v (hin e3 hj (by omega) (by omega))
      by_cases j5 : j < 21
      · have := hin e4 hj (by omega) (by omega)
        simp only [List.mem_cons, List.not_mem_nil, or_false] at this; subst this; rfl
      by_cases j6 : j < 34
      · exact hv v (hin rfl hj (by omega) (by omega))
      · have := hin e6 hj (by omega) (by omega)
        simp only [List.mem_cons, List.not_mem_nil, or_false] at this; subst this; rfl
/-- Messages that came in. -/
theorem ms_of_reading {H : Type} {enc : TypeId × Value → H} {W : World} {base : Nat} {v : Value} {d : DataW H} {p : List MemPlace} (hval : Value.okWide Try.prog W .any base 39 v) (h : DataW.Trod enc Try.prog W 0 (fun _ => true) true 39 v d p) (hk : Rows.uptoBulk d ≤ 1048576) :
    ∃ l : List MG, MgR W v l := by
  obtain ⟨a0, len, cap, rfl⟩ := okWide_slice Try.underlying39 hval
  obtain ⟨fuel, hf⟩ := h
  rcases open_slice Try.underlying39 hf with ⟨hcs, hx⟩ | ⟨a, len', cap', m, n, D, Pl, hcs, _, hl, hm, hmm, hx, hel⟩
  · simp [Value.cells] at hcs
    obtain ⟨rfl, rfl, rfl⟩ := hcs
    exact ⟨[], ⟨none, 0, rfl, fun j m hj => by simp at hj⟩, by simp⟩
  · simp [Value.cells] at hcs
    obtain ⟨rfl, rfl, rfl⟩ := hcs
    simp only [Prod.mk.injEq] at hx
    obtain ⟨rfl, -⟩ := hx
    simp only [if_true] at hmm
    subst hmm
    have hbl : Rows.uptoBulkAll ((List.range len).map D) + 1 ≤ 1048576 := by simp only [Rows.uptoBulk] at hk; omega
    have hp : ∀ i, ∃ s : MG, i < len → (∀ j, j < 35 → W.cell? ((a.add (i * 35)).add j) = s.xs[j]?) ∧ s.Ok W := fun i => by
      by_cases hi : i < len
      · obtain ⟨cs', h1, h2⟩ := hel i (by omega)
        rw [Try.zclMs] at h1
        obtain ⟨_, hlen, hcell⟩ := World.cells?_some h1
        have := bulk_in ((List.range len).map D) (D i) (List.mem_map.2 ⟨i, by simpa using hi, rfl⟩)
        obtain ⟨s, rfl, hs⟩ := ms_of_trod h2 (by simp only; omega)
        exact ⟨s, fun _ => ⟨hcell, hs⟩⟩
      · exact ⟨⟨[], 0, 0, 0, 0, ⟨0, 0, 0, 0, 0, .slice none 0 0, .slice none 0 0⟩, [], []⟩, fun h => absurd h hi⟩
    obtain ⟨Q, hQ⟩ : ∃ Q : Nat → MG, ∀ i, i < len → (∀ j, j < 35 → W.cell? ((a.add (i * 35)).add j) = (Q i).xs[j]?) ∧ (Q i).Ok W := ⟨fun i => Classical.choose (hp i), fun i => Classical.choose_spec (hp i)⟩
    have hbulk := bulk_len ((List.range len).map D)
    have hll : ((List.range len).map Q).length = len := by simp
    refine ⟨(List.range len).map Q, ⟨some a, _, by rw [hll], fun j mm hj => ?_⟩, by rw [hll]; simp at hbulk; omega⟩
    have hjl : j < len := by have := (List.getElem?_eq_some_iff.1 hj).1; rwa [hll] at this
    obtain rfl : Q j = mm := by simpa [hjl] using hj
    obtain ⟨q1, q2⟩ := hQ j hjl
    have hx0 := (hQ 0 (by omega)).1 0 (by decide)
    rw [(hQ 0 (by omega)).2.x.k] at hx0
    obtain ⟨g, o, sp⟩ := a
    have hsp : sp = none := by simpa [Addr.add] using World.cell?_spot hx0
    subst hsp
    refine ⟨q2, g, o, rfl, fun t u hu => ?_⟩
    have ht : t < 35 := by have := (List.getElem?_eq_some_iff.1 hu).1; rw [q2.len] at this; exact this
    have := q1 t ht
    rw [hu, Addr.add_mid, Addr.add_mid] at this
    exact this
end Go.Proofs.Ytkiepcdncegniaa

namespace Go.Proofs.Ytkiepcdncegniaa
open Go.ChangeShapes Go.WideShapes Go.ChangeAt Go.RowKit Go.Deep
set_option maxRecDepth 100000

theorem f5b_of_trod {H : Type} {enc : TypeId × Value → H} {W : World} {fuel : Nat} {cs : List Value} {x : DataW H × List MemPlace} (h : DataW.trod enc Try.prog W 0 (fun _ => true) true fuel 79 cs = some x) :
    ∃ s : F5, (s.v < 4294967296 ∧ s.u < 256) ∧ cs = [.string s.n, .int .u8 (s.k : Nat), .string s.t, .float .f32 s.v, .int .u8 (s.u : Nat)] := by
  obtain ⟨xs, n, _, rfl, hl, hlen, hf⟩ := DataW.trod_struct Try.underlying79 h
  rw [Try.zclFd] at hl
  have h0 := hf 0 _ rfl
  have h1 := hf 1 _ rfl
  have h2 := hf 2 _ rfl
  have h3 := hf 3 _ rfl
  have h4 := hf 4 _ rfl
  match cs, hl with
  | [c0, c1, c2, c3, c4], _ =>
    match xs, hlen with
    | [y0, y1, y2, y3, y4], _ =>
      simp [Try.zclU8, Try.zclStr, Try.zclF32] at h0 h1 h2 h3 h4
      obtain ⟨a, e0, _, _⟩ := DataW.trod_string Try.underlying9 h0
      obtain ⟨b, e1, _, wb⟩ := DataW.trod_int Try.underlying5 h1
      obtain ⟨c, e2, _, _⟩ := DataW.trod_string Try.underlying9 h2
      obtain ⟨d, e3, wd⟩ := trod_floatw Try.underlying77 h3
      obtain ⟨e, e4, _, we⟩ := DataW.trod_int Try.underlying5 h4
      simp only [List.cons.injEq, and_true] at e0 e1 e2 e3 e4
      subst e0 e1 e2 e3 e4
      obtain ⟨b, rfl, _⟩ := nat_u8 wb
      obtain ⟨e, rfl, he⟩ := nat_u8 we
      exact ⟨⟨a, b, c, d, e⟩, ⟨wd, he⟩, rfl⟩
/-- Fields that came in. -/
theorem rdB_of_trod {H : Type} {enc : TypeId × Value → H} {W : World} {fuel : Nat} {v : Value} {x : DataW H × List MemPlace} (hf : DataW.trod enc Try.prog W 0 (fun _ => true) true fuel 32 [v] = some x) :
    ∃ A : List F5, Rd W v A.length 5 (fcells A) ∧ (∀ f ∈ A, f.v < 4294967296 ∧ f.u < 256) ∧ A.length + 1 ≤ Rows.uptoBulk x.1 := by
  rcases open_slice Try.underlying32 hf with ⟨hcs, hx⟩ | ⟨a, len', cap', m, n, D, Pl, hcs, _, hl, hm, hmm, hx, hel⟩
  · simp only [List.cons.injEq, and_true] at hcs
    subst hcs
    exact ⟨[], Rd.nil W 5, fun f hf => (by cases hf), bulk_pos _⟩
  · simp only [List.cons.injEq, and_true] at hcs
    subst hcs
    subst hx
    simp only [if_true] at hmm
    subst hmm
    have hp : ∀ i, ∃ s : F5, (s.v < 4294967296 ∧ s.u < 256) ∧ (i < m → ∀ j, j < 5 → W.cell? ((a.add (i * 5)).add j) = [Value.string (s).n, .int .u8 ((s).k : Nat), .string (s).t, .float .f32 (s).v, .int .u8 ((s).u : Nat)][j]?) := fun i => by
      by_cases hi : i < m
      · obtain ⟨cs', h1, h2⟩ := hel i hi
        rw [Try.zclFd] at h1
        obtain ⟨_, hlen, hcell⟩ := World.cells?_some h1
        obtain ⟨s, hs, rfl⟩ := f5b_of_trod h2
        exact ⟨s, hs, fun _ => hcell⟩
      · exact ⟨⟨ByteArray.empty, 0, ByteArray.empty, 0, 0⟩, ⟨by decide, by decide⟩, fun h => absurd h hi⟩
    obtain ⟨Q, hQb, hQ⟩ : ∃ Q : Nat → F5, (∀ i, (Q i).v < 4294967296 ∧ (Q i).u < 256) ∧ ∀ i, i < m → ∀ j, j < 5 → W.cell? ((a.add (i * 5)).add j) = ((fun s : F5 => [Value.string (s).n, .int .u8 ((s).k : Nat), .string (s).t, .float .f32 (s).v, .int .u8 ((s).u : Nat)]) (Q i))[j]? := ⟨fun i => Classical.choose (hp i), fun i => (Classical.choose_spec (hp i)).1, fun i => (Classical.choose_spec (hp i)).2⟩
    have hbulk := bulk_len ((List.range len').map D)
    have hd : Rows.uptoBulkAll ((List.range len').map D) + 1 ≤ Rows.uptoBulk (DataW.slice ((List.range len').map D) ((List.range (m - len')).map fun j => D (len' + j)) : DataW H) := by
      simp only [Rows.uptoBulk]; omega
    obtain ⟨hr1, hr2⟩ := rows_at (W := W) (a := a) (z := 5) (fun i => (fun s : F5 => [Value.string (s).n, .int .u8 ((s).k : Nat), .string (s).t, .float .f32 (s).v, .int .u8 ((s).u : Nat)]) (Q i)) len' (fun i _ => rfl) (fun i hi => hQ i (by omega))
    have hce : fcells ((List.range len').map Q) = (List.range len').flatMap (fun i => (fun s : F5 => [Value.string (s).n, .int .u8 ((s).k : Nat), .string (s).t, .float .f32 (s).v, .int .u8 ((s).u : Nat)]) (Q i)) := by
      unfold fcells
      rw [List.flatMap_map]
    have hll : ((List.range len').map Q).length = len' := by simp
    refine ⟨(List.range len').map Q, ⟨⟨some a, m, by rw [hll], by rw [hll]; exact hl, fun e => (by cases e), fun j u hu => ?_⟩, by rw [hll, hce, hr1], fcells_one _⟩, fun f hf => ?_, by simp at hbulk ⊢; omega⟩
    · rw [hce] at hu
      have h1 := hr2 j u hu
      have h0 := hr2 0 _ (List.getElem?_eq_getElem (by have := (List.getElem?_eq_some_iff.1 hu).1; omega))
      obtain ⟨g, o, sp⟩ := a
      have hsp : sp = none := by simpa [Addr.add] using World.cell?_spot h0
      subst hsp
      exact ⟨g, o, rfl, by rw [Addr.add_mid] at h1; exact h1⟩
    · obtain ⟨i, _, rfl⟩ := List.mem_map.1 hf
      exact hQb i
theorem rqb_of_trod {H : Type} {enc : TypeId × Value → H} {W : World} {fuel : Nat} {cs : List Value} {x : DataW H × List MemPlace} (h : DataW.trod enc Try.prog W 0 (fun _ => true) true fuel 34 cs = some x) : 
    ∃ (r : RQ) (F : List F5), cs = r.cs ∧ Rd W r.fv F.length 5 (fcells F) ∧ (∀ f ∈ F, f.v < 4294967296 ∧ f.u < 256) ∧ F.length + 1 ≤ Rows.uptoBulk x.1 := by
  obtain ⟨xs, n, _, rfl, hl, hlen, hf⟩ := DataW.trod_struct Try.underlying34 h
  rw [Try.zclRq] at hl
  have h0 := hf 0 _ rfl
  have h1 := hf 1 _ rfl
  have h2 := hf 2 _ rfl
  have h3 := hf 3 _ rfl
  have h4 := hf 4 _ rfl
  have h5 := hf 5 _ rfl
  have h6 := hf 6 _ rfl
  have h7 := hf 7 _ rfl
  have h8 := hf 8 _ rfl
  match cs, hl with
  | [c0, c1, c2, c3, c4, c5, c6, c7, c8, c9], _ =>
    match xs, hlen with
    | [y0, y1, y2, y3, y4, y5, y6, y7, y8], _ =>
      simp [Try.zclU32, Try.zclU8, Try.zclId, Try.zclSlf, Try.zclStr] at h0 h1 h2 h3 h4 h5 h6 h7 h8
      obtain ⟨cl, nu, e0, _⟩ := id_of_trod h0
      obtain ⟨ac, e1, q1, w1⟩ := DataW.trod_int Try.underlying26 h1
      obtain ⟨op, e2, q2, w2⟩ := DataW.trod_int Try.underlying5 h2
      obtain ⟨rc, e3, q3, w3⟩ := DataW.trod_int Try.underlying26 h3
      obtain ⟨ve, e4, q4, w4⟩ := DataW.trod_int Try.underlying26 h4
      obtain ⟨wa, e5, q5, w5⟩ := DataW.trod_int Try.underlying26 h5
      obtain ⟨ow, e6, q6, w6⟩ := DataW.trod_int Try.underlying26 h6
      obtain ⟨F, hF, hFb, bF⟩ := rdB_of_trod h7
      obtain ⟨rs, e8, q8, _⟩ := DataW.trod_string Try.underlying9 h8
      simp only [List.cons.injEq, and_true] at e0 e1 e2 e3 e4 e5 e6 e8
      obtain ⟨rfl, rfl⟩ := e0
      subst e1 e2 e3 e4 e5 e6 e8
      obtain ⟨ac, rfl, _⟩ := nat_u32 w1
      obtain ⟨op, rfl, _⟩ := nat_u8 w2
      obtain ⟨rc, rfl, _⟩ := nat_u32 w3
      obtain ⟨ve, rfl, _⟩ := nat_u32 w4
      obtain ⟨wa, rfl, _⟩ := nat_u32 w5
      obtain ⟨ow, rfl, _⟩ := nat_u32 w6
      have k7 := bulk_in ([y0, y1, y2, y3, y4, y5, y6, y7, y8].map (·.1)) y7.1 (by simp)
      exact ⟨⟨cl, nu, ac, op, rc, ve, wa, ow, c8, rs⟩, F, rfl, hF, hFb, by simp only [Rows.uptoBulk]; omega⟩
theorem Try.zclI : Try.prog.cellsOf 3 = 1 := by kernel_rfl
theorem Try.zclOp : Try.prog.cellsOf 62 = 46 := by kernel_rfl
/-- A step that came in. -/
structure OG where
  ki : Int
  r : RQ
  F : List F5
  m : MG
def OG.xs (o : OG) : List Value := .int .i64 o.ki :: (o.r.cs ++ o.m.xs)
structure OG.Ok (w : World) (o : OG) : Prop where
  f : Rd w o.r.fv o.F.length 5 (fcells o.F)
  b : ∀ f ∈ o.F, f.v < 4294967296 ∧ f.u < 256
  l : o.F.length ≤ 1048576
  m : o.m.Ok w
/-- Steps that came in. -/
structure OgR (w : World) (v : Value) (l : List OG) : Prop where
  f : ∃ vo c, v = .slice vo l.length c ∧ ∀ j o, l[j]? = some o → o.Ok w ∧ ∃ g a, vo = some ⟨g, a, none⟩ ∧ w.rangeAt g (a + j * 46) o.xs
  l : l.length ≤ 1048575
theorem og_of_trod {H : Type} {enc : TypeId × Value → H} {W : World} {fuel : Nat} {cs : List Value} {x : DataW H × List MemPlace} (h : DataW.trod enc Try.prog W 0 (fun _ => true) true fuel 62 cs = some x) (hk : Rows.uptoBulk x.1 ≤ 1048576) :
    ∃ o : OG, cs = o.xs ∧ o.Ok W := by
  obtain ⟨xs, n, _, rfl, hl, hlen, hf⟩ := DataW.trod_struct Try.underlying62 h
  rw [Try.zclOp] at hl
  have h0 := hf 0 _ rfl
  have h1 := hf 1 _ rfl
  have h2 := hf 2 _ rfl
  match xs, hlen with
  | [y0, y1, y2], _ =>
    simp [Try.zclI, Try.zclRq, Try.zclMs, -List.drop_one] at h0 h1 h2
    change DataW.trod _ _ _ _ _ _ _ _ ((cs.drop 0).take 1) = _ at h0
    change DataW.trod _ _ _ _ _ _ _ _ ((cs.drop 1).take 10) = _ at h1
    change DataW.trod _ _ _ _ _ _ _ _ ((cs.drop 11).take 35) = _ at h2
    have k1 := bulk_in ([y0, y1, y2].map (·.1)) y1.1 (by simp)
    have k2 := bulk_in ([y0, y1, y2].map (·.1)) y2.1 (by simp)
    have hk' : Rows.uptoBulkAll ([y0, y1, y2].map (·.1)) ≤ 1048576 := by simp only [Rows.uptoBulk] at hk; omega
    obtain ⟨ki, e0, _, w0⟩ := DataW.trod_int Try.underlying3 h0
    obtain ⟨r, F, e1, hF, hFb, bF⟩ := rqb_of_trod h1
    obtain ⟨m, e2, hm⟩ := ms_of_trod h2 (by omega)
    refine ⟨⟨ki, r, F, m⟩, ?_, ⟨hF, hFb, by simp only; omega, hm⟩⟩
    have s1 : cs = (cs.drop 0).take 1 ++ ((cs.drop 1).take 10 ++ (cs.drop 11).take 35) := by
      rw [List.take_of_length_le (l := cs.drop 11) (by rw [List.length_drop, hl]; omega)]
      rw [show cs.drop 11 = (cs.drop 1).drop 10 by rw [List.drop_drop], List.take_append_drop]
      exact (List.take_append_drop 1 cs).symm
    rw [e0, e1, e2] at s1
    exact s1
/-- Steps that came in, as a parameter. -/
theorem og_of_reading {H : Type} {enc : TypeId × Value → H} {W : World} {base : Nat} {v : Value} {d : DataW H} {p : List MemPlace} (hval : Value.okWide Try.prog W .any base 57 v) (h : DataW.Trod enc Try.prog W 0 (fun _ => true) true 57 v d p) (hk : Rows.uptoBulk d ≤ 1048576) :
    ∃ l : List OG, OgR W v l := by
  obtain ⟨a0, len, cap, rfl⟩ := okWide_slice Try.underlying57 hval
  obtain ⟨fuel, hf⟩ := h
  rcases open_slice Try.underlying57 hf with ⟨hcs, hx⟩ | ⟨a, len', cap', m, n, D, Pl, hcs, _, hl, hm, hmm, hx, hel⟩
  · simp [Value.cells] at hcs
    obtain ⟨rfl, rfl, rfl⟩ := hcs
    exact ⟨[], ⟨none, 0, rfl, fun j m hj => by simp at hj⟩, by simp⟩
  · simp [Value.cells] at hcs
    obtain ⟨rfl, rfl, rfl⟩ := hcs
    simp only [Prod.mk.injEq] at hx
    obtain ⟨rfl, -⟩ := hx
    simp only [if_true] at hmm
    subst hmm
    have hbl : Rows.uptoBulkAll ((List.range len).map D) + 1 ≤ 1048576 := by simp only [Rows.uptoBulk] at hk; omega
    have hp : ∀ i, ∃ s : OG, i < len → (∀ j, j < 46 → W.cell? ((a.add (i * 46)).add j) = s.xs[j]?) ∧ s.Ok W := fun i => by
      by_cases hi : i < len
      · obtain ⟨cs', h1, h2⟩ := hel i (by omega)
        rw [Try.zclOp] at h1
        obtain ⟨_, hlen, hcell⟩ := World.cells?_some h1
        have := bulk_in ((List.range len).map D) (D i) (List.mem_map.2 ⟨i, by simpa using hi, rfl⟩)
        obtain ⟨s, rfl, hs⟩ := og_of_trod h2 (by simp only; omega)
        exact ⟨s, fun _ => ⟨hcell, hs⟩⟩
      · exact ⟨⟨0, ⟨0, 0, 0, 0, 0, 0, 0, 0, .slice none 0 0, ByteArray.empty⟩, [], ⟨[], 0, 0, 0, 0, ⟨0, 0, 0, 0, 0, .slice none 0 0, .slice none 0 0⟩, [], []⟩⟩, fun h => absurd h hi⟩
    obtain ⟨Q, hQ⟩ : ∃ Q : Nat → OG, ∀ i, i < len → (∀ j, j < 46 → W.cell? ((a.add (i * 46)).add j) = (Q i).xs[j]?) ∧ (Q i).Ok W := ⟨fun i => Classical.choose (hp i), fun i => Classical.choose_spec (hp i)⟩
    have hbulk := bulk_len ((List.range len).map D)
    have hll : ((List.range len).map Q).length = len := by simp
    refine ⟨(List.range len).map Q, ⟨some a, _, by rw [hll], fun j mm hj => ?_⟩, by rw [hll]; simp at hbulk; omega⟩
    have hjl : j < len := by have := (List.getElem?_eq_some_iff.1 hj).1; rwa [hll] at this
    obtain rfl : Q j = mm := by simpa [hjl] using hj
    obtain ⟨q1, q2⟩ := hQ j hjl
    have hx0 := (hQ 0 (by omega)).1 0 (by decide)
    have hx0' : W.cell? ((a.add (0 * 46)).add 0) = some (.int .i64 (Q 0).ki) := hx0
    obtain ⟨g, o, sp⟩ := a
    have hsp : sp = none := by simpa [Addr.add] using World.cell?_spot hx0'
    subst hsp
    refine ⟨q2, g, o, rfl, fun t u hu => ?_⟩
    have ht : t < 46 := by
      have := (List.getElem?_eq_some_iff.1 hu).1
      have h35 := q2.m.len
      simp only [OG.xs, List.length_cons, List.length_append, h35, RQ.cs, List.length_nil] at this
      omega
    have := q1 t ht
    rw [hu, Addr.add_mid, Addr.add_mid] at this
    exact this
end Go.Proofs.Ytkiepcdncegniaa

