import Derived.Test.YtikolmpgnpkdbaaGreatDoorPk1
import Derived.Deep.RegionHeld3
import Derived.Test.YtikolmpgnpkdbaaGreatDoorLai
namespace Go.Proofs.YtikolmpgnpkdbaaGreatDoor
open Go.RowKit

/-- What the ref's Write tells of the calls that are left: the bytes, and the fault. -/
def writeM : List Pt → ByteArray → List Nat → List Nat × ByteArray × Nat × Int
  | [], _, b => (b, ⟨#[]⟩, 0, 0)
  | p :: r, nm, b => if p.k = 10 then writeM r p.s b else if wrongN p = 0 then writeM r nm (b ++ lz p) else ([], nm, b.length, wrongN p)
theorem lz_len (p : Pt) : (lz p).length ≤ 12 + p.s.size := by
  unfold lz
  repeat' split
  all_goals simp [be_length, bytesOf_length]
  all_goals omega

theorem weight_snoc (l : List Pt) (k : Nat) (h : k < l.length) : weight (l.take (k + 1)) = weight (l.take k) + (12 + l[k].s.size) := by
  rw [List.take_add_one, List.getElem?_eq_getElem h, Option.toList_some]
  simp only [weight, List.map_append, List.sum_append, List.map_cons, List.map_nil, List.sum_cons, List.sum_nil, Nat.add_zero]

theorem box_set {wr : World} {g : Nat} {a0 a1 a2 o0 o1 o2 : Value} (r0 : wr.cell? ⟨g, 0, none⟩ = some o0) (r1 : wr.cell? ⟨g, 1, none⟩ = some o1) (r2 : wr.cell? ⟨g, 2, none⟩ = some o2) :
    (((wr.setCell ⟨g, 0, none⟩ a0).setCell ⟨g, 1, none⟩ a1).setCell ⟨g, 2, none⟩ a2).cell? ⟨g, 0, none⟩ = some a0 ∧ (((wr.setCell ⟨g, 0, none⟩ a0).setCell ⟨g, 1, none⟩ a1).setCell ⟨g, 2, none⟩ a2).cell? ⟨g, 1, none⟩ = some a1 ∧
      (((wr.setCell ⟨g, 0, none⟩ a0).setCell ⟨g, 1, none⟩ a1).setCell ⟨g, 2, none⟩ a2).cell? ⟨g, 2, none⟩ = some a2 ∧ Fr (fun k => k = g) wr (((wr.setCell ⟨g, 0, none⟩ a0).setCell ⟨g, 1, none⟩ a1).setCell ⟨g, 2, none⟩ a2) := by
  have ne : ∀ i j : Nat, i ≠ j → (⟨g, i, none⟩ : Addr) ≠ ⟨g, j, none⟩ := fun i j h e => by injection e with _ h2 _; exact h h2
  refine ⟨?_, ?_, ?_, ?_⟩
  · rw [World.cell?_setCell_other _ _ _ _ (ne 2 0 (by decide)), World.cell?_setCell_other _ _ _ _ (ne 1 0 (by decide)), World.cell?_setCell_same _ _ _ r0]
  · rw [World.cell?_setCell_other _ _ _ _ (ne 2 1 (by decide)), World.cell?_setCell_same _ _ _ ((World.cell?_setCell_other _ _ _ _ (ne 0 1 (by decide))).trans r1)]
  · rw [World.cell?_setCell_same _ _ _ ((World.cell?_setCell_other _ _ _ _ (ne 1 2 (by decide))).trans ((World.cell?_setCell_other _ _ _ _ (ne 0 2 (by decide))).trans r2))]
  · exact Fr.setCell (S := fun k => k = g) (Fr.setCell (S := fun k => k = g) (Fr.setCell (S := fun k => k = g) (Fr.refl _ _) (.inl rfl) _) (.inl rfl) _) (.inl rfl) _

set_option maxRecDepth 1000000 in
set_option maxHeartbeats 2000000 in
theorem gwrite_any (x : Value) (L : List Pt) (w : World) (hx : PSrc w x L) (hL : L.length ≤ 16777216) (hk : ∀ p ∈ L, p.k ∈ kinds ∧ p.ok) (hwt : weight L ≤ 16777216) :
    Calls Tryz.prog 20 #[x] w fun e w' => ∃ v, e = .returned (.tuple #[v, .agg #[.string (writeM L ⟨#[]⟩ []).2.1, .int .i64 (writeM L ⟨#[]⟩ []).2.2.1, .int .i64 (writeM L ⟨#[]⟩ []).2.2.2]]) ∧ Src w' v (writeM L ⟨#[]⟩ []).1 ∧ Fr (fun _ => False) w w' := by
  obtain ⟨xo, xc, rfl⟩ := hx.form
  have HX := hide (And.intro hx hk)
  clear hx hk
  go_enter Tryz.func20, Tryz.ntmps20
  go_wp2_with fail
  generalize hwB : w.alloc (.cells #[.string ⟨#[]⟩, .int .i64 0, .int .i64 0] 50) = wB
  have hwBs : wB.heap.size = w.heap.size + 1 := by rw [← hwB]; simp
  have hFB : Fr (fun _ => False) w wB := by rw [← hwB]; exact box1 w _
  have k0 : wB.cell? ⟨w.heap.size, 0, none⟩ = some (.string ⟨#[]⟩) := by rw [← hwB]; simp
  have k1 : wB.cell? ⟨w.heap.size, 1, none⟩ = some (.int .i64 0) := by rw [← hwB]; simp
  have k2 : wB.cell? ⟨w.heap.size, 2, none⟩ = some (.int .i64 0) := by rw [← hwB]; simp
  have kz : ∀ i, wB.frozen? ⟨w.heap.size, i, none⟩ = false := fun i => by rw [← hwB]; simp
  have HB := hide (And.intro hFB (And.intro k0 (And.intro k1 (And.intro k2 kz))))
  clear hwB hFB k0 k1 k2 kz
  go_loopw [4, 5, 6] (fun bv nv i wr => ∃ (k : Nat) (nm : ByteArray) (b : List Nat), k ≤ L.length ∧ i = .int .i64 k ∧ nv = .string nm ∧ writeM L ⟨#[]⟩ [] = writeM (L.drop k) nm b ∧ b.length ≤ weight (L.take k) ∧ wr.ownsRow (w.heap.size + 1) 5 1 bv b.length (cellsOf b) ∧ Fr (fun _ => False) wB wr) (fun _ _ i _ => L.length - (intOf i).toNat)
  case atStart => exact ⟨0, ⟨#[]⟩, [], Nat.zero_le _, rfl, rfl, rfl, Nat.zero_le _, World.ownsRow_nil _ _ _ _, Fr.refl _ _⟩
  case round =>
    obtain ⟨k, nm, b, hk, rfl, rfl, hM, hbl, ho, hf⟩ := hrel
    rename World => wr
    have hfw := (unhide HB).1.trans hf (fun _ _ h => h)
    have r0 := (hf.cell (p := ⟨w.heap.size, 0, none⟩) (by show w.heap.size < wB.heap.size; omega) (fun h => h)).trans (unhide HB).2.1
    have r1 := (hf.cell (p := ⟨w.heap.size, 1, none⟩) (by show w.heap.size < wB.heap.size; omega) (fun h => h)).trans (unhide HB).2.2.1
    have r2 := (hf.cell (p := ⟨w.heap.size, 2, none⟩) (by show w.heap.size < wB.heap.size; omega) (fun h => h)).trans (unhide HB).2.2.2.1
    have rz : ∀ i, wr.frozen? ⟨w.heap.size, i, none⟩ = false := fun i => (hf.frozen (p := ⟨w.heap.size, i, none⟩) (by show w.heap.size < wB.heap.size; omega) (fun h => h)).trans ((unhide HB).2.2.2.2 i)
    obtain ⟨ao, ac, rfl⟩ := own_form ho
    have HI := hide (And.intro hM (And.intro ho (And.intro hf hfw)))
    by_cases hlt : k < L.length
    · obtain ⟨g, o, rfl, c0, c1, c2, c3, c4⟩ := (unhide HX).1.at_ hfw k hlt
      have hmem := (unhide HX).2 L[k] (List.getElem_mem _)
      have hd : L.drop k = L[k] :: L.drop (k + 1) := List.drop_eq_getElem_cons hlt
      have hws := weight_snoc L k hlt
      have hwm := weight_mem (List.getElem_mem hlt)
      have hlz := lz_len L[k]
      have htk := weight_take L (k + 1)
      generalize L[k] = P at *
      rw [hd] at hM
      have HM := hide (And.intro hM hmem)
      clear hM hd
      by_cases h10 : P.k = 10
      · have b10 : (P.k == 10) = true := by simp [h10]
        have HM2 : Hid (writeM L ⟨#[]⟩ [] = writeM (L.drop (k + 1)) P.s b) := hide ((unhide HM).1.trans (by rw [writeM, if_pos h10]))
        clear ho hf hfw
        go_wp2_with fail
        refine ⟨⟨k + 1, P.s, b, by omega, by go_num, rfl, unhide HM2, by omega, (unhide HI).2.1, (unhide HI).2.2.1⟩, by simp [intOf]; omega⟩
      · have b10 : (P.k == 10) = false := by simp [h10]
        clear ho hf hfw
        go_wp2_with fail
        refine (gwrong_any P wr (unhide HM).2.1 (unhide HM).2.2.1).mono ?_
        rintro e w4 ⟨rfl, hf4⟩
        have fc : ∀ {p : Addr} {v : Value}, wr.cell? p = some v → w4.cell? p = some v := fun h => (hf4.cell (lt_of_cell h) (fun h => h)).trans h
        have d0 := fc c0
        have d1 := fc c1
        have d2 := fc c2
        have d3 := fc c3
        have d4 := fc c4
        have s0 := fc r0
        have s1 := fc r1
        have s2 := fc r2
        have hws2 : w.heap.size < wr.heap.size := lt_of_cell r0
        have sz : ∀ i, w4.frozen? ⟨w.heap.size, i, none⟩ = false := fun i => (hf4.frozen (p := ⟨w.heap.size, i, none⟩) hws2 (fun h => h)).trans (rz i)
        have z0 := sz 0
        have z1 := sz 1
        have z2 := sz 2
        have ho4 := ownsRow_of_block (unhide HI).2.1 (fun g hg => hf4.block g ((unhide HI).2.1.lt g hg).2 (fun h => h))
        have hB4 := (unhide HI).2.2.1.trans hf4 (fun _ _ h => h)
        have hW4 := (unhide HI).2.2.2.trans hf4 (fun _ _ h => h)
        have H4 := hide (And.intro ho4 (And.intro hB4 hW4))
        clear c0 c1 c2 c3 c4 r0 r1 r2 rz fc ho4 hB4 hW4 hf4 sz
        by_cases hw0 : wrongN P = 0
        · rw [hw0]
          have HM2 : Hid (writeM L ⟨#[]⟩ [] = writeM (L.drop (k + 1)) nm (b ++ lz P)) := hide ((unhide HM).1.trans (by rw [writeM, if_neg h10, if_pos hw0]))
          go_wp2_with fail
          refine (glaid_any P w4 (unhide HM).2.1 h10 (unhide HM).2.2.1 (unhide HM).2.2.2.1 (by omega) hw0).mono ?_
          rintro e w5 ⟨v, rfl, hsv, hf5⟩
          have ho5 := ownsRow_of_block (unhide H4).1 (fun g hg => hf5.block g ((unhide H4).1.lt g hg).2 (fun h => h))
          have hB5 := (unhide H4).2.1.trans hf5 (fun _ _ h => h)
          have sB5 := hB5.size
          obtain ⟨ao2, c2', w6, hr6, hown6, hgrow6, hat6⟩ := run_app_sl w5 28 (w.heap.size + 1) b.length _ v _ (lz P) ho5 hsv (by omega) (by omega)
          have hB6 : Fr (fun _ => False) wB w6 := hB5.grown hgrow6 (fun g hg => .inr (by have := (ho5.lt g hg).1; omega))
          have HR := hide hr6
          have H6 := hide (And.intro (And.intro hown6 hB6) (unhide HM2))
          clear hr6 hown6 hgrow6 hat6 hB6 hB5 ho5 hsv hf5
          go_wp2_with (at_builtin; refine wpList_app rfl (.tmp 37) (.tmp 42) 28 28 rfl _ _ _ rfl rfl (unhide HR) ?_)
          go_roundw
          case rel => exact ⟨k + 1, nm, b ++ lz P, by omega, by go_num, rfl, (unhide H6).2, by rw [List.length_append]; omega, by rw [List.length_append, cellsOf_append]; exact (unhide H6).1.1, (unhide H6).1.2⟩
          case measure => simp [intOf]; omega
        · have bw : (wrongN P != 0) = true := by rw [bne_iff_ne]; exact hw0
          have HM2 : Hid (writeM L ⟨#[]⟩ [] = ([], nm, b.length, wrongN P)) := hide ((unhide HM).1.trans (by rw [writeM, if_neg h10, if_neg hw0]))
          go_wp2_with fail
          obtain ⟨q0, q1, q2, qf⟩ := box_set (a0 := .string nm) (a1 := .int .i64 b.length) (a2 := .int .i64 (wrongN P)) s0 s1 s2
          have HQ := hide qf
          clear qf
          generalize ((w4.setCell ⟨w.heap.size, 0, none⟩ (.string nm)).setCell ⟨w.heap.size, 1, none⟩ (.int .i64 b.length)).setCell ⟨w.heap.size, 2, none⟩ (.int .i64 (wrongN P)) = w5 at *
          refine bodyPost_ret (v := .tuple #[.slice none 0 0, .agg #[.string nm, .int .i64 b.length, .int .i64 (wrongN P)]]) (by simp [results, Tryz.results20, go_sem, q0, q1, q2]) rfl ⟨.slice none 0 0, ?_, ?_, ?_⟩
          · rw [unhide HM2]
          · rw [unhide HM2]; exact .inl ⟨rfl, rfl⟩
          · exact (unhide H4).2.2.trans (unhide HQ) (fun i hi h => by have h' : i = w.heap.size := h; omega)
    · have hkn : L.drop k = [] := List.drop_of_length_le (by omega)
      rw [hkn] at hM
      clear hkn HI
      have HE := hide (And.intro hM (And.intro ho hfw))
      clear hM ho hfw hf
      go_wp2_with fail
      obtain ⟨q0, q1, q2, qf⟩ := box_set (a0 := .string ⟨#[]⟩) (a1 := .int .i64 0) (a2 := .int .i64 0) r0 r1 r2
      have e1 : writeM [] nm b = (b, ⟨#[]⟩, 0, 0) := rfl
      have HQ := hide qf
      clear qf
      generalize ((wr.setCell ⟨w.heap.size, 0, none⟩ (.string ⟨#[]⟩)).setCell ⟨w.heap.size, 1, none⟩ (.int .i64 0)).setCell ⟨w.heap.size, 2, none⟩ (.int .i64 0) = w5 at *
      refine bodyPost_ret (v := .tuple #[.slice ao b.length ac, .agg #[.string ⟨#[]⟩, .int .i64 0, .int .i64 0]]) (by simp [results, Tryz.results20, go_sem, q0, q1, q2]) rfl ⟨.slice ao b.length ac, ?_, ?_, ?_⟩
      · rw [(unhide HE).1, e1]; rfl
      · rw [(unhide HE).1, e1]
        exact (own_src (unhide HE).2.1).fr (unhide HQ) (fun g o m c e h => by have h' : g = w.heap.size := h; have := ((unhide HE).2.1.lt g (by rw [e]; rfl)).1; omega)
      · exact (unhide HE).2.2.trans (unhide HQ) (fun i hi h => by have h' : i = w.heap.size := h; omega)
end Go.Proofs.YtikolmpgnpkdbaaGreatDoor

namespace Go.Proofs.YtikolmpgnpkdbaaGreatDoor
open Go.RowKit

/-- What any call makes of a writer. -/
def Wst.layW (st : Wst) (p : Pt) (E : Nat → Addr) : Wst := if p.k = 9 then st.failN E p.n.toNat else st.layA p (E 2) (E 4)
/-- A call that is fitted, small. -/
def Pt.fitted (p : Pt) : Prop := p.k ∈ kinds ∧ (p.k = 9 → 0 ≤ p.n ∧ p.n ≤ 7) ∧ p.s.size < 4294967296

theorem putB_f {st : Wst} {x : List Nat} (h : st.f ≠ none) : st.putB x = st := if_neg h
theorem fail_f {st : Wst} {a : Addr} (h : st.f ≠ none) : st.fail a = st := if_neg h
theorem layW_f {st : Wst} {p : Pt} {E : Nat → Addr} (h : st.f ≠ none) : (st.layW p E).f = st.f := by
  unfold Wst.layW Wst.failN Wst.layA Wst.flt Wst.lay Wst.txt Wst.cnt
  simp only [putB_f h, fail_f h]
  repeat' split
  all_goals rfl
theorem foldW_f (L : List Pt) (E : Nat → Addr) : ∀ st : Wst, st.f ≠ none → (L.foldl (fun st p => st.layW p E) st).f = st.f := by
  induction L with
  | nil => intro st _; rfl
  | cons p r ih =>
    intro st h
    rw [List.foldl_cons, ih _ (by rw [layW_f h]; exact h), layW_f h]

theorem layW_ok {st : Wst} {p : Pt} {E : Nat → Addr} (hn : st.f = none) (hp : p.fitted) (h10 : p.k ≠ 10) (hw : wrongN p = 0) : st.layW p E = { st with l := st.l ++ encA p } := by
  obtain ⟨k, u, s, n, m⟩ := p
  obtain ⟨hk, h9, hs⟩ := hp
  simp only [kinds, List.mem_cons, List.not_mem_nil, or_false] at hk h9 hs h10
  rcases hk with rfl | rfl | rfl | rfl | rfl | rfl | rfl | rfl | rfl
  · simp [Wst.layW, Wst.layA, Wst.lay, Wst.putB, encA, enc, hn]
  · simp [Wst.layW, Wst.layA, Wst.lay, Wst.putB, encA, enc, hn]
  · simp [Wst.layW, Wst.layA, Wst.lay, Wst.putB, encA, enc, hn]
  · simp [Wst.layW, Wst.layA, Wst.lay, Wst.putB, encA, enc, hn]
  · have hq : quantB (u % 4294967296) = true := by
      cases h : quantB (u % 4294967296)
      · simp [wrongN, h] at hw
      · rfl
    simp [Wst.layW, Wst.layA, Wst.flt, Wst.putB, encA, hn, hq]
  · have hq : (s.size : Int) ≤ m := by
      rcases Int.lt_or_le m s.size with h | h
      · simp [wrongN, h] at hw
      · exact h
    simp [Wst.layW, Wst.layA, Wst.lay, Wst.txt, Wst.putB, encA, enc, hn, hq, hs]
  · have h0 : ¬ n < 0 := fun h => by simp [wrongN, h] at hw
    have h1 : n ≤ m ∧ n < 4294967296 := by
      by_cases h : m < n ∨ 4294967295 < n
      · simp [wrongN, h0, h] at hw
      · omega
    simp [Wst.layW, Wst.layA, Wst.lay, Wst.cnt, Wst.putB, encA, enc, hn, h0, h1]
  · have h0 : n = 0 := by simpa [wrongN] using hw
    subst h0
    simp [Wst.layW, Wst.failN, encA, enc]
  · exact absurd rfl h10

theorem layW_bad {st : Wst} {p : Pt} {E : Nat → Addr} (hn : st.f = none) (hp : p.fitted) (hw : wrongN p ≠ 0) : (st.layW p E).f = some (st.nm, st.l.length, E (wrongN p).toNat) ∧ 1 ≤ wrongN p ∧ wrongN p ≤ 7 := by
  obtain ⟨k, u, s, n, m⟩ := p
  obtain ⟨hk, h9, hs⟩ := hp
  simp only [kinds, List.mem_cons, List.not_mem_nil, or_false] at hk h9 hs
  rcases hk with rfl | rfl | rfl | rfl | rfl | rfl | rfl | rfl | rfl
  · simp [wrongN] at hw
  · simp [wrongN] at hw
  · simp [wrongN] at hw
  · simp [wrongN] at hw
  · have hq : quantB (u % 4294967296) = false := by
      cases h : quantB (u % 4294967296)
      · rfl
      · simp [wrongN, h] at hw
    simp [Wst.layW, Wst.layA, Wst.flt, Wst.fail, hn, hq, wrongN]
  · have hq : m < s.size := by
      rcases Int.lt_or_le m s.size with h | h
      · exact h
      · have h' : ¬ m < s.size := by omega
        simp [wrongN, h'] at hw
    have h' : ¬ (s.size : Int) ≤ m := by omega
    simp [Wst.layW, Wst.layA, Wst.lay, Wst.txt, Wst.fail, hn, hq, h', wrongN]
  · by_cases h0 : n < 0
    · simp [Wst.layW, Wst.layA, Wst.lay, Wst.cnt, Wst.fail, hn, h0, wrongN]
    · by_cases h : m < n ∨ 4294967295 < n
      · have h' : ¬ (n ≤ m ∧ n < 4294967296) := by omega
        simp [Wst.layW, Wst.layA, Wst.lay, Wst.cnt, Wst.fail, hn, h0, h, h', wrongN]
      · simp [wrongN, h0, h] at hw
  · have e : wrongN ⟨9, u, s, n, m⟩ = n := by simp [wrongN]
    rw [e] at hw ⊢
    obtain ⟨a, b⟩ := h9 rfl
    have h0 : n.toNat ≠ 0 := by omega
    refine ⟨?_, by omega, b⟩
    simp only [Wst.layW, Wst.failN, Wst.fail, hn, if_true, if_neg h0]
  · simp [wrongN] at hw

/-- The writer and the ref's Write. -/
theorem write_agrees (L : List Pt) (E : Nat → Addr) : ∀ (st : Wst) (b : List Nat), st.f = none → norm b = norm st.l → (∀ p ∈ L, p.fitted) →
    ((writeM L st.nm b).2.2.2 = 0 ∧ (L.foldl (fun st p => st.layW p E) st).f = none ∧ norm (writeM L st.nm b).1 = norm (L.foldl (fun st p => st.layW p E) st).l) ∨
    (1 ≤ (writeM L st.nm b).2.2.2 ∧ (writeM L st.nm b).2.2.2 ≤ 7 ∧ (writeM L st.nm b).1 = [] ∧ (L.foldl (fun st p => st.layW p E) st).f = some ((writeM L st.nm b).2.1, (writeM L st.nm b).2.2.1, E (writeM L st.nm b).2.2.2.toNat)) := by
  induction L with
  | nil => intro st b hn hb _; exact .inl ⟨rfl, hn, hb⟩
  | cons p r ih =>
    intro st b hn hb hp
    have hp0 := hp p (List.mem_cons_self ..)
    have hpr := fun q hq => hp q (List.mem_cons_of_mem _ hq)
    rw [List.foldl_cons]
    by_cases h10 : p.k = 10
    · have e : st.layW p E = { st with nm := p.s } := by simp [Wst.layW, Wst.layA, h10]
      rw [e, writeM, if_pos h10]
      exact ih { st with nm := p.s } b hn hb hpr
    by_cases hw : wrongN p = 0
    · rw [layW_ok hn hp0 h10 hw, writeM, if_neg h10, if_pos hw]
      exact ih { st with l := st.l ++ encA p } (b ++ lz p) hn (by rw [norm_append, norm_append, hb, norm_lz p hp0.1]) hpr
    · obtain ⟨hf, h1, h7⟩ := layW_bad (E := E) hn hp0 hw
      have hl : b.length = st.l.length := by have := congrArg List.length hb; simpa [norm_length] using this
      rw [writeM, if_neg h10, if_neg hw]
      refine .inr ⟨h1, h7, rfl, ?_⟩
      rw [foldW_f r E _ (by rw [hf]; simp), hf, hl]
end Go.Proofs.YtikolmpgnpkdbaaGreatDoor

namespace Go.Proofs.YtikolmpgnpkdbaaGreatDoor
open Go.RowKit

/-- The cells of calls. -/
def pcells (L : List Pt) : List Value := (L.map fun p => [.int .i64 p.k, .int .u64 p.u, .string p.s, .int .i64 p.n, .int .i64 p.m]).flatten
theorem Tryz.infoPart : (Tryz.prog.info? 26).map (fun i => (i.zero, i.size, i.bytes)) = some (some (.agg #[.int .i64 0, .int .u64 0, .string ⟨#[]⟩, .int .i64 0, .int .i64 0]), 5, 48) := by kernel_rfl

theorem app_part (w : World) (base : Nat) (v : Value) (L : List Pt) (p : Pt) (hown : w.ownsRow base 26 5 v L.length (pcells L)) (hb : L.length + 1 ≤ 16777216) (hbase : base ≤ w.heap.size) :
    ∃ v' w', (Builtin.append_ #[27, 27] 27 #[v, .slice (some ⟨w.heap.size, 0, none⟩) 1 1]).run Tryz.prog (w.alloc (.cells #[.int .i64 p.k, .int .u64 p.u, .string p.s, .int .i64 p.n, .int .i64 p.m] 26)) = .ok v' w' ∧
      w'.ownsRow base 26 5 v' (L.length + 1) (pcells (L ++ [p])) ∧ (w.alloc (.cells #[.int .i64 p.k, .int .u64 p.u, .string p.s, .int .i64 p.n, .int .i64 p.m] 26)).grownBy w' v.ownBlock ∧ (v'.ownBlock = v.ownBlock ∨ v'.ownBlock = some (w.heap.size + 1)) := by
  obtain ⟨i0, hi, hz⟩ := Option.map_eq_some_iff.1 Tryz.infoPart
  simp only [Prod.mk.injEq] at hz
  obtain ⟨hz0, hz1, hz2⟩ := hz
  have h1 : (w.alloc (.cells #[.int .i64 p.k, .int .u64 p.u, .string p.s, .int .i64 p.n, .int .i64 p.m] 26)).ownsRow base 26 5 v L.length (pcells L) := ownsRow_of_block hown (fun g hg => Below.heap_alloc _ _ _ (hown.lt g hg).2)
  obtain ⟨v', w', hr, h2, h3, _, h5⟩ := run_append_own_at (P := Tryz.prog) (w.alloc (.cells #[.int .i64 p.k, .int .u64 p.u, .string p.s, .int .i64 p.n, .int .i64 p.m] 26)) base 27 27 26 i0 (.agg #[.int .i64 0, .int .u64 0, .string ⟨#[]⟩, .int .i64 0, .int .i64 0]) 5 48 Tryz.underlying27 hi hz0 hz1 hz2 rfl (by decide) v L.length _ h1 ⟨w.heap.size, 0, none⟩ 1 1 [.int .i64 p.k, .int .u64 p.u, .string p.s, .int .i64 p.n, .int .i64 p.m] rfl (fun j u hu => by
      match j, hu with
      | 0, hu => simp at hu; subst hu; simp [Addr.add]
      | 1, hu => simp at hu; subst hu; simp [Addr.add]
      | 2, hu => simp at hu; subst hu; simp [Addr.add]
      | 3, hu => simp at hu; subst hu; simp [Addr.add]
      | 4, hu => simp at hu; subst hu; simp [Addr.add]) (fun u hu => by simp at hu; rcases hu with rfl | rfl | rfl | rfl | rfl <;> rfl) (by simp only [maxLen]; omega) (by omega) (by simp; omega)
  refine ⟨v', w', hr, ?_, h3, by simpa using h5⟩
  have e : pcells (L ++ [p]) = pcells L ++ [.int .i64 p.k, .int .u64 p.u, .string p.s, .int .i64 p.n, .int .i64 p.m] := by simp [pcells]
  rw [e]
  exact h2
end Go.Proofs.YtikolmpgnpkdbaaGreatDoor

namespace Go.Proofs.YtikolmpgnpkdbaaGreatDoor
open Go.RowKit

theorem pcells_at (L : List Pt) : ∀ (j : Nat) (h : j < L.length), (pcells L)[j * 5]? = some (.int .i64 L[j].k) ∧ (pcells L)[j * 5 + 1]? = some (.int .u64 L[j].u) ∧ (pcells L)[j * 5 + 2]? = some (.string L[j].s) ∧ (pcells L)[j * 5 + 3]? = some (.int .i64 L[j].n) ∧ (pcells L)[j * 5 + 4]? = some (.int .i64 L[j].m) := by
  induction L with
  | nil => intro j h; simp at h
  | cons p r ih =>
    intro j h
    have e : pcells (p :: r) = .int .i64 p.k :: .int .u64 p.u :: .string p.s :: .int .i64 p.n :: .int .i64 p.m :: pcells r := by simp [pcells]
    cases j with
    | zero => simp [e]
    | succ j =>
      have hj : j < r.length := by simpa using h
      obtain ⟨h0, h1, h2, h3, h4⟩ := ih j hj
      have e5 : (j + 1) * 5 = j * 5 + 5 := by omega
      rw [e, e5]
      simp only [List.getElem_cons_succ]
      exact ⟨by simpa using h0, by simpa using h1, by simpa using h2, by simpa using h3, by simpa using h4⟩
theorem own_psrc {w : World} {base : Nat} {v : Value} {L : List Pt} (h : w.ownsRow base 26 5 v L.length (pcells L)) : PSrc w v L := by
  rcases h.2 with ⟨rfl, e⟩ | ⟨g, cap, cur, rfl, _⟩
  · exact .inl ⟨none, 0, rfl, List.eq_nil_of_length_eq_zero e⟩
  · refine .inr ⟨g, 0, cap, rfl, fun j hj => ?_⟩
    have key : ∀ i u, (pcells L)[i]? = some u → w.cell? ⟨g, 0 + i, none⟩ = some u := fun i u hu => by
      have := h.cells (g := g) rfl i u hu
      have e : (⟨g, 0, none⟩ : Addr).add i = ⟨g, 0 + i, none⟩ := by unfold Addr.add; split <;> simp_all
      rw [e] at this; exact this
    obtain ⟨h0, h1, h2, h3, h4⟩ := pcells_at L j hj
    exact ⟨key _ _ h0, by simpa [Nat.add_assoc] using key _ _ h1, by simpa [Nat.add_assoc] using key _ _ h2, by simpa [Nat.add_assoc] using key _ _ h3, by simpa [Nat.add_assoc] using key _ _ h4⟩

theorem layW_any (p : Pt) (b : Nat) (F : Nat → Prop) (st : Wst) (E : Nat → Addr) (w : World) (hp : p.fitted) (hu : p.u < 18446744073709551616) (hn : p.n < 9223372036854775808) (hg : G7 w E) (h : W w b F st) (hl : st.l.length + 8 + p.s.size ≤ 140737488355328) :
    Calls Tryz.prog 19 #[.pointer (some ⟨b, 0, none⟩), .agg #[.int .i64 p.k, .int .u64 p.u, .string p.s, .int .i64 p.n, .int .i64 p.m]] w fun e w' => e = .returned (.tuple #[]) ∧ ∃ F', W w' b F' (st.layW p E) ∧ Ch w w' F F' := by
  by_cases h9 : p.k = 9
  · obtain ⟨a, c⟩ := hp.2.1 h9
    obtain ⟨q, hq⟩ := Int.eq_ofNat_of_zero_le a
    rw [Wst.layW, if_pos h9, h9, hq, Int.toNat_natCast]
    exact lay9_any b p.u q p.s p.m F st E w (by omega) hg h
  · rw [Wst.layW, if_neg h9]
    exact layA_any p b F st E (E 4) w hp.1 h9 hu hn hg.gl hg.e4 h (by have := hp.2.2; omega) hl
theorem fit_fitted (p : Pt) (h : p.s.size < 4294967296) : p.fit.fitted := by
  refine ⟨fk_mem p.k, fun h9 => ?_, h⟩
  have h9' : fk p.k = 9 := h9
  show 0 ≤ fn p.k p.n ∧ fn p.k p.n ≤ 7
  unfold fn
  split <;> omega
end Go.Proofs.YtikolmpgnpkdbaaGreatDoor

namespace Go.Proofs.YtikolmpgnpkdbaaGreatDoor
open Go.RowKit

def runW (L : List Pt) (E : Nat → Addr) : Wst := L.foldl (fun st p => st.layW p E) start
def fits (A : List Pt) (k : Nat) : List Pt := (A.take k).map Pt.fit
theorem fits_snoc (A : List Pt) (k : Nat) (h : k < A.length) : fits A (k + 1) = fits A k ++ [A[k].fit] := by
  unfold fits
  rw [List.take_add_one, List.getElem?_eq_getElem h, Option.toList_some, List.map_append]
  rfl
theorem runW_snoc (L : List Pt) (p : Pt) (E : Nat → Addr) : runW (L ++ [p]) E = (runW L E).layW p E := by
  unfold runW; rw [List.foldl_append]; rfl
theorem layW_len (st : Wst) (p : Pt) (E : Nat → Addr) : (st.layW p E).l.length ≤ st.l.length + (12 + p.s.size) := by
  unfold Wst.layW
  split
  · unfold Wst.failN
    split
    · omega
    · rw [fail_len]; omega
  · have := lay9_len st p (E 2) (E 4)
    rename_i h
    rwa [Wst.lay9, if_neg h] at this
theorem runW_len (A : List Pt) (E : Nat → Addr) : ∀ k, k ≤ A.length → (runW (fits A k) E).l.length ≤ weight (A.take k) := by
  intro k
  induction k with
  | zero => intro _; simp [fits, runW, start, weight]
  | succ k ih =>
    intro hk
    have h1 := ih (by omega)
    have h2 := layW_len (runW (fits A k) E) (A[k]'(by omega)).fit E
    have h3 : (A[k]'(by omega)).fit.s = (A[k]'(by omega)).s := rfl
    rw [h3] at h2
    rw [fits_snoc A k (by omega), runW_snoc, weight_snoc A k (by omega)]
    omega
/-- The writer and the list of calls, k done. -/
def InvW (w wr : World) (av : Value) (A : List Pt) (k : Nat) (E : Nat → Addr) : Prop :=
  ∃ F1, W wr w.heap.size F1 (runW (fits A k) E) ∧ wr.ownsRow (w.heap.size + 1) 26 5 av (fits A k).length (pcells (fits A k)) ∧ Fr (fun _ => False) w wr ∧ (∀ i, F1 i → w.heap.size ≤ i) ∧ ∀ g, av.ownBlock = some g → ¬ F1 g


theorem weight_fits (A : List Pt) (k : Nat) : weight (fits A k) = weight (A.take k) := by
  unfold fits weight
  rw [List.map_map]
  rfl
theorem fits_len (A : List Pt) (k : Nat) (h : k ≤ A.length) : (fits A k).length = k := by
  simp [fits]; omega
theorem invw_step {w wr w4 w6 w7 : World} {av v' : Value} {A : List Pt} {k : Nat} {E : Nat → Addr} {p : Pt} {F1 F1' : Nat → Prop} (hlt : k < A.length) (hp : A[k].fit = p) (hc : Fr (fun _ => False) wr w4)
    (hV : W wr w.heap.size F1 (runW (fits A k) E)) (hn1 : ∀ i, F1 i → w.heap.size ≤ i) (hdj : ∀ g, av.ownBlock = some g → ¬ F1 g)
    (hown6 : w6.ownsRow (w.heap.size + 1) 26 5 v' ((fits A k).length + 1) (pcells (fits A k ++ [p]))) (hat : v'.ownBlock = av.ownBlock ∨ v'.ownBlock = some (w4.heap.size + 1)) (hA6 : Fr (fun _ => False) w w6)
    (hW7 : W w7 w.heap.size F1' ((runW (fits A k) E).layW p E)) (hc7 : Ch w6 w7 F1 F1') : InvW w w7 v' A (k + 1) E := by
  have hs := hc.size
  have hnF : ∀ g, v'.ownBlock = some g → ¬ F1 g := fun g hg h1 => by
    rcases hat with e | e
    · exact hdj g (e ▸ hg) h1
    · rw [e] at hg
      have := hV.lt g h1
      have := Option.some.inj hg
      omega
  refine ⟨F1', ?_, ?_, hA6.soak hc7.fr hn1, fun i hi => ?_, fun g hg h1 => ?_⟩
  · rw [fits_snoc A k hlt, runW_snoc, hp]; exact hW7
  · rw [fits_snoc A k hlt, hp, List.length_append]
    exact ownsRow_of_block hown6 (fun g hg => hc7.fr.block g (hown6.lt g hg).2 (hnF g hg))
  · rcases hc7.new i hi with hx | hx
    · exact hn1 i hx
    · have := hA6.size; omega
  · rcases hc7.new g h1 with hx | hx
    · exact hnF g hg hx
    · have := (hown6.lt g hg).2; omega
theorem own_form5 {w : World} {base e size n : Nat} {v : Value} {xs : List Value} (h : w.ownsRow base e size v n xs) : ∃ ao cap, v = .slice ao n cap := by
  rcases h.2 with ⟨rfl, e⟩ | ⟨g, cap, cur, rfl, _⟩
  · rw [e]; exact ⟨none, 0, rfl⟩
  · exact ⟨_, cap, rfl⟩
theorem lt_of_heap {w : World} {k : Nat} {o : Obj} (h : w.heap[k]? = some o) : k < w.heap.size := by
  rcases Nat.lt_or_ge k w.heap.size with hx | hx
  · exact hx
  · rw [Array.getElem?_eq_none hx] at h; cases h
theorem told_box (w : World) (o f : Obj) : (∀ i, (((w.alloc o).alloc f).alloc f).cell? ⟨w.heap.size, i, none⟩ = (w.alloc o).cell? ⟨w.heap.size, i, none⟩) ∧ (((w.alloc o).alloc f).alloc f).heap[w.heap.size + 1]? = some f ∧ (((w.alloc o).alloc f).alloc f).heap[w.heap.size + 1 + 1]? = some f := by
  have h1 : (w.alloc o).heap.size = w.heap.size + 1 := by simp
  have h2 : ((w.alloc o).alloc f).heap.size = w.heap.size + 1 + 1 := by simp
  refine ⟨fun i => (box2 (w.alloc o) f f).cell (by show w.heap.size < (w.alloc o).heap.size; omega) (fun h => h), ?_, ?_⟩
  · rw [Below.heap_alloc _ _ _ (by omega), ← h1]; exact heap_alloc_new _ _
  · rw [← h2]; exact heap_alloc_new _ _
theorem fits_mem {A : List Pt} {k : Nat} {p : Pt} (h : p ∈ fits A k) : ∃ q ∈ A, p = q.fit := by
  unfold fits at h
  obtain ⟨q, hq, rfl⟩ := List.mem_map.1 h
  exact ⟨q, List.mem_of_mem_take hq, rfl⟩

set_option maxRecDepth 1000000 in
set_option maxHeartbeats 2000000 in
theorem writes_any (x0 : Value) (A : List Pt) (E : Nat → Addr) (w : World) (hg : G7 w E) (hw : 9 ≤ w.heap.size) (h0 : PSrc w x0 A) (hA : weight A ≤ 16777216) (oA : ∀ p ∈ A, p.ok) (hAl : A.length < 16777216) :
    Calls Tryz.prog 5 #[x0] w fun e w' => e = .returned (.bool true) ∧ Fr (fun _ => False) w w' := by
  obtain ⟨ao0, ac0, rfl⟩ := h0.form
  have HG := hide (And.intro hg h0)
  have HO := hide oA
  clear hg h0 oA
  go_enter Tryz.func5, Tryz.ntmps5
  go_wp2_with fail
  refine (newWriter_any w hw).mono ?_
  rintro e w2 ⟨rfl, hW2, hf2⟩
  have H2 := hide (And.intro hW2 hf2)
  clear hW2 hf2
  go_wp2_with fail
  go_loopw [4, 5] (fun av i wr => ∃ k : Nat, k ≤ A.length ∧ i = .int .i64 k ∧ InvW w wr av A k E) (fun _ i _ => A.length - (intOf i).toNat)
  case atStart => exact ⟨0, Nat.zero_le _, rfl, _, (unhide H2).1, ⟨rfl, .inl ⟨rfl, rfl⟩⟩, (unhide H2).2, fun i h1 => by have e1 : i = w.heap.size := h1; omega, fun g hg => by cases hg⟩
  case round =>
    obtain ⟨k, hk, rfl, F1, hV, hown, hA4, hn1, hdj⟩ := hrel
    rename World => wr
    obtain ⟨vo, vc, rfl⟩ := own_form5 hown
    by_cases hlt : k < A.length
    · obtain ⟨g, o, rfl, c0, c1, c2, c3, c4⟩ := (unhide HG).2.at_ hA4 k hlt
      generalize hP : A[k] = P at *
      have HP := hide hP
      clear hP
      have HV := hide (And.intro hV (And.intro hown (And.intro hA4 (And.intro hn1 hdj))))
      clear hV hown hA4 hn1 hdj
      go_wp2_with fail
      refine (fit_any P wr).mono ?_
      rintro e w4 ⟨rfl, hf4⟩
      have hfit : A[k].fit = ⟨fk P.k, P.u, P.s, fn P.k P.n, P.m⟩ := by rw [Pt.fit, unhide HP]
      have hm : P ∈ A := by rw [← unhide HP]; exact List.getElem_mem _
      have ok := (unhide HO) P hm
      have wt := weight_mem hm
      have hfd := fit_fitted P (by omega)
      rw [Pt.fit] at hfd
      have npl := fn_lt (k := P.k) ok.2.1
      generalize hkp : fk P.k = kp at *
      generalize hnp : fn P.k P.n = np at *
      clear c0 c1 c2 c3 c4 hkp hnp
      obtain ⟨hV, hown, hA4, hn1, hdj⟩ := unhide HV
      have hfC : Fr (fun _ => False) wr (w4.alloc (.cells #[.int .i64 kp, .int .u64 P.u, .string P.s, .int .i64 np, .int .i64 P.m] 26)) := hf4.alloc _
      have hAC := hA4.trans hfC (fun _ _ h => h)
      have flen := fits_len A k (by omega)
      have hlw := runW_len A E k (by omega)
      have tA := weight_take A k
      have hownC : (w4.alloc (.cells #[.int .i64 kp, .int .u64 P.u, .string P.s, .int .i64 np, .int .i64 P.m] 26)).ownsRow (w.heap.size + 1) 26 5 (.slice vo (fits A k).length vc) (fits A k).length (pcells (fits A k)) := ownsRow_of_block hown (fun g hg => hfC.block g (hown.lt g hg).2 (fun h => h))
      have s4 := hf4.size
      have sA := hA4.size
      have hVlt := hV.lt _ hV.fb
      obtain ⟨v', w6, hr, hown6, hgrow, hat⟩ := app_part _ _ _ _ ⟨kp, P.u, P.s, np, P.m⟩ hownC (by omega) (by simp; omega)
      have hF6 : Fr (fun j => (Value.slice vo (fits A k).length vc).ownBlock = some j) (w4.alloc (.cells #[.int .i64 kp, .int .u64 P.u, .string P.s, .int .i64 np, .int .i64 P.m] 26)) w6 := ((Fr.refl _ _).alloc _).grown hgrow (fun g hg => .inl hg)
      have hA6 := hAC.soak hF6 (fun i hi => by have := (hown.lt i hi).1; omega)
      have hW6 := (hV.frame hfC (fun _ _ h => h)).frame hF6 (fun i hi h => hdj i h hi)
      have b6 : Box w6 w4.heap.size ⟨kp, P.u, P.s, np, P.m⟩ := Box.fr (box_new w4 ⟨kp, P.u, P.s, np, P.m⟩) hF6 (fun h => by have := (hown.lt _ h).2; omega)
      have HL := hide (layW_any ⟨kp, P.u, P.s, np, P.m⟩ w.heap.size F1 _ E w6 hfd ok.1 npl ((unhide HG).1.fr hA6 (fun _ h => h.elim)) hW6 (by show _ + 8 + P.s.size ≤ _; omega))
      have HX := hide (fun (w7 : World) (F1' : Nat → Prop) (hW7 : W w7 w.heap.size F1' ((runW (fits A k) E).layW ⟨kp, P.u, P.s, np, P.m⟩ E)) (hc7 : Ch w6 w7 F1 F1') => invw_step hlt hfit hfC hV hn1 hdj hown6 (by simpa using hat) hA6 hW7 hc7)
      have hsz : (w4.alloc (.cells #[.int .i64 kp, .int .u64 P.u, .string P.s, .int .i64 np, .int .i64 P.m] 26)).heap.size = w4.heap.size + 1 := by simp
      dsimp only at hr
      rw [hsz] at hr
      have HR := hide hr
      clear hsz
      clear hfit hm ok wt hfd npl hV hown hA4 hn1 hdj hfC hAC flen hlw tA hownC s4 sA hVlt hown6 hgrow hat hF6 hA6 hW6 hr hf4
      obtain ⟨p0, p1, p2, p3, p4⟩ := b6
      generalize (fits A k).length = fl at *
      go_wp2_with (at_builtin; refine wpList_app rfl (.tmp 25) (.tmp 27) 27 27 rfl _ _ _ rfl rfl (unhide HR) ?_)
      refine (unhide HL).mono ?_
      rintro e w7 ⟨rfl, F1', hW7, hc7⟩
      have HI := hide (unhide HX w7 F1' hW7 hc7)
      clear hW7 hc7 HX HL HR p0 p1 p2 p3 p4
      go_wp2_with fail
      exact ⟨⟨k + 1, by omega, by go_num, unhide HI⟩, by simp [intOf]; omega⟩
    · have hkA : k = A.length := by omega
      have flen := fits_len A k (by omega)
      have hwt := weight_fits A k
      have hlw := runW_len A E k (by omega)
      have tA := weight_take A k
      have hmem : ∀ p ∈ fits A k, (p.k ∈ kinds ∧ p.ok) ∧ p.fitted := fun p hp => by
        obtain ⟨q, hq, rfl⟩ := fits_mem hp
        have ok := (unhide HO) q hq
        have wt := weight_mem hq
        exact ⟨⟨fk_mem q.k, ok.1, fn_lt (k := q.k) ok.2.1, ok.2.2⟩, fit_fitted q (by omega)⟩
      have hag := write_agrees (fits A k) E start [] rfl rfl (fun p hp => (hmem p hp).2)
      have hst : start.nm = ⟨#[]⟩ := rfl
      rw [hst] at hag
      have hru : (fits A k).foldl (fun st p => st.layW p E) start = runW (fits A k) E := rfl
      rw [hru] at hag
      clear hst hru
      generalize hL : fits A k = L at *
      clear hL
      generalize runW L E = st at *
      have HGW := hide (gwrite_any _ L wr (own_psrc hown) (by omega) (fun p hp => (hmem p hp).1) (by omega))
      obtain ⟨bs, what, place, why, hM⟩ : ∃ bs what place why, writeM L ⟨#[]⟩ [] = (bs, what, place, why) := ⟨_, _, _, _, rfl⟩
      rw [hM] at HGW hag
      dsimp only at HGW hag
      have HV := hide (And.intro hV hA4)
      have HAG := hide hag
      have hln : L.length ≤ 16777216 := by omega
      clear hV hA4 hown hn1 hdj hmem hwt hag hM flen hkA
      generalize L.length = ln at *
      go_wp2_with fail
      refine (unhide HGW).mono ?_
      rintro e w4 ⟨v, rfl, hsrc, hf4⟩
      obtain ⟨bo, bc, rfl⟩ := hsrc.form
      have HV4 := hide (And.intro hsrc (And.intro ((unhide HV).1.frame hf4 (fun _ _ h => h)) ((unhide HV).2.trans hf4 (fun _ _ h => h))))
      clear hsrc hf4 HGW
      rcases (unhide HAG) with ⟨rfl, hfn, hnorm⟩ | ⟨h1, h7, rfl, hfs⟩
      · have hs : sameB st.l bs = true := by simp [sameB, hnorm]
        have hFB : Fr (fun _ => False) w4 (w4.alloc (.cells #[.string what, .int .i64 place, .int .i64 0] 50)) := box1 w4 _
        have HFN := hide (And.intro hfn hFB)
        clear hnorm hfn HAG hFB
        go_wp2_with fail
        have hW5 := (unhide HV4).2.1.frame (unhide HFN).2 (fun _ _ h => h)
        refine (wDone_ok _ _ _ _ hW5 (unhide HFN).1 (by omega)).mono ?_
        rintro e w5 ⟨g1, rfl, ho1, hf5⟩
        obtain ⟨o1, q1, rfl⟩ := own_form ho1
        have H5 := hide (And.intro ho1 (And.intro hf5 (hW5.frame hf5 (fun _ _ h => h))))
        clear ho1 hf5 hW5
        go_wp2_with fail
        refine (wDone_ok _ _ _ w5 (unhide H5).2.2 (unhide HFN).1 (by omega)).mono ?_
        rintro e w6 ⟨g2, rfl, ho2, hf6⟩
        obtain ⟨o2, q2, rfl⟩ := own_form ho2
        have hf46 := (unhide H5).2.1.trans hf6 (fun _ _ h => h)
        have k0 := (hf46.cell (p := ⟨w4.heap.size, 0, none⟩) (by simp) (fun h => h)).trans (show _ = some (.string what) by simp)
        have k1 := (hf46.cell (p := ⟨w4.heap.size, 1, none⟩) (by simp) (fun h => h)).trans (show _ = some (.int .i64 place) by simp)
        have k2 := (hf46.cell (p := ⟨w4.heap.size, 2, none⟩) (by simp) (fun h => h)).trans (show _ = some (.int .i64 0) by simp)
        have hS1 := (own_src (unhide H5).1).fr hf6 (fun _ _ _ _ _ h => h)
        have hSb := ((unhide HV4).1.fr (unhide HFN).2 (fun _ _ _ _ _ h => h)).fr hf46 (fun _ _ _ _ _ h => h)
        have hA6 := ((unhide HV4).2.2.trans (unhide HFN).2 (fun _ _ h => h)).trans hf46 (fun _ _ h => h)
        have H6 := hide (And.intro hS1 (And.intro (own_src ho2) (And.intro hSb hA6)))
        clear ho2 hf6 hf46 hS1 hSb hA6 H5 HFN HV4 HV
        go_wp2_with fail
        refine (same_any _ _ st.l bs w6 (unhide H6).1 (unhide H6).2.2.1 (by omega)).mono ?_
        rintro e w7 ⟨rfl, n7, rfl⟩
        rw [hs]
        go_wp2_with fail
        refine (told_nil what place _).mono ?_
        rintro e w8 ⟨rfl, hf8⟩
        have hf68 := ((Fr.refl (fun _ => False) w6).drewN n7).trans hf8 (fun _ _ h => h)
        have l0 := (hf68.cell (lt_of_cell k0) (fun h => h)).trans k0
        have l1 := (hf68.cell (lt_of_cell k1) (fun h => h)).trans k1
        have l2 := (hf68.cell (lt_of_cell k2) (fun h => h)).trans k2
        have H8 := hide (And.intro ((unhide H6).2.1.fr hf68 (fun _ _ _ _ _ h => h)) (And.intro ((unhide H6).2.2.1.fr hf68 (fun _ _ _ _ _ h => h)) ((unhide H6).2.2.2.trans hf68 (fun _ _ h => h))))
        clear hf8 hf68 k0 k1 k2
        go_wp2_with fail
        refine (same_any _ _ st.l bs w8 (unhide H8).1 (unhide H8).2.1 (by omega)).mono ?_
        rintro e w9 ⟨rfl, n9, rfl⟩
        rw [hs]
        go_wp2_with fail
        refine (told_nil what place _).mono ?_
        rintro e w10 ⟨rfl, hf10⟩
        have H10 := hide ((unhide H8).2.2.trans (((Fr.refl (fun _ => False) w8).drewN n9).trans hf10 (fun _ _ h => h)) (fun _ _ h => h))
        clear hf10
        go_wp2_with fail
        go_ret
        exact ⟨rfl, unhide H10⟩
      · obtain ⟨n, rfl⟩ := Int.eq_ofNat_of_zero_le (show 0 ≤ why by omega)
        have hs : sameB [] [] = true := by simp [sameB]
        rw [Int.toNat_natCast] at hfs
        have hFB : Fr (fun _ => False) w4 (w4.alloc (.cells #[.string what, .int .i64 place, .int .i64 n] 50)) := box1 w4 _
        have HFN := hide (And.intro hfs hFB)
        have HNN : Hid (1 ≤ n ∧ n ≤ 7) := hide ⟨by omega, by omega⟩
        clear hfs HAG hFB h1 h7
        go_wp2_with fail
        refine (wDone_bad _ _ _ what place (E n) _ ((unhide HV4).2.1.frame (unhide HFN).2 (fun _ _ h => h)) (unhide HFN).1).mono ?_
        rintro e w5 ⟨rfl, rfl⟩
        have hF5 := (unhide HFN).2.alloc (faultObj what place (E n))
        have H5 := hide hF5
        clear hF5
        go_wp2_with fail
        refine (wDone_bad _ _ _ what place (E n) _ ((unhide HV4).2.1.frame (unhide H5) (fun _ _ h => h)) (unhide HFN).1).mono ?_
        rintro e w6 ⟨rfl, rfl⟩
        have hf46 := (unhide H5).alloc (faultObj what place (E n))
        generalize hw6 : ((w4.alloc (.cells #[.string what, .int .i64 place, .int .i64 n] 50)).alloc (faultObj what place (E n))).alloc (faultObj what place (E n)) = w6 at *
        have hz6 : ((w4.alloc (.cells #[.string what, .int .i64 place, .int .i64 n] 50)).alloc (faultObj what place (E n))).heap.size = w4.heap.size + 1 + 1 := by simp
        have hbb := told_box w4 (.cells #[.string what, .int .i64 place, .int .i64 n] 50) (faultObj what place (E n))
        rw [hw6] at hbb
        obtain ⟨hbc, hb1, hb2⟩ := hbb
        have k0 : w6.cell? ⟨w4.heap.size, 0, none⟩ = some (.string what) := (hbc 0).trans (by simp)
        have k1 : w6.cell? ⟨w4.heap.size, 1, none⟩ = some (.int .i64 place) := (hbc 1).trans (by simp)
        have k2 : w6.cell? ⟨w4.heap.size, 2, none⟩ = some (.int .i64 n) := (hbc 2).trans (by simp)
        rw [hz6]
        have hSb := (unhide HV4).1.fr hf46 (fun _ _ _ _ _ h => h)
        have hA6 := (unhide HV4).2.2.trans hf46 (fun _ _ h => h)
        have H6 := hide (And.intro hSb (And.intro hA6 (And.intro hb1 hb2)))
        clear hw6 hz6 hbc hb1 hb2 hSb hA6 hf46 H5 HFN HV4 HV
        have hs0 : ∀ u, Src u (.slice none 0 0) [] := fun _ => .inl ⟨rfl, rfl⟩
        go_wp2_with fail
        refine (same_any _ _ [] [] w6 (hs0 _) (unhide H6).1 (by simp)).mono ?_
        rintro e w7 ⟨rfl, n7, rfl⟩
        rw [hs]
        go_wp2_with fail
        refine (told_fault n (w4.heap.size + 1) place what E _ ((unhide HG).1.fr ((unhide H6).2.1.drewN n7) (fun _ h => h.elim)) (unhide HNN).1 (unhide HNN).2 (unhide H6).2.2.1).mono ?_
        rintro e w8 ⟨rfl, hf8⟩
        have hf68 := ((Fr.refl (fun _ => False) w6).drewN n7).trans hf8 (fun _ _ h => h)
        have l0 := (hf68.cell (lt_of_cell k0) (fun h => h)).trans k0
        have l1 := (hf68.cell (lt_of_cell k1) (fun h => h)).trans k1
        have l2 := (hf68.cell (lt_of_cell k2) (fun h => h)).trans k2
        have hb8 := (hf68.block _ (lt_of_heap (unhide H6).2.2.2) (fun h => h)).trans (unhide H6).2.2.2
        have H8 := hide (And.intro ((unhide H6).1.fr hf68 (fun _ _ _ _ _ h => h)) (And.intro ((unhide H6).2.1.trans hf68 (fun _ _ h => h)) hb8))
        clear hf8 hf68 k0 k1 k2 hb8
        go_wp2_with fail
        refine (same_any _ _ [] [] w8 (hs0 _) (unhide H8).1 (by simp)).mono ?_
        rintro e w9 ⟨rfl, n9, rfl⟩
        rw [hs]
        go_wp2_with fail
        refine (told_fault n (w4.heap.size + 1 + 1) place what E _ ((unhide HG).1.fr ((unhide H8).2.1.drewN n9) (fun _ h => h.elim)) (unhide HNN).1 (unhide HNN).2 (unhide H8).2.2).mono ?_
        rintro e w10 ⟨rfl, hf10⟩
        have H10 := hide ((unhide H8).2.1.trans (((Fr.refl (fun _ => False) w8).drewN n9).trans hf10 (fun _ _ h => h)) (fun _ _ h => h))
        clear hf10
        go_wp2_with fail
        go_ret
        exact ⟨rfl, unhide H10⟩
end Go.Proofs.YtikolmpgnpkdbaaGreatDoor

namespace Go.Proofs.YtikolmpgnpkdbaaGreatDoor
open Go.RowKit

/-- The reader and the ref's reader, beside one another. -/
def InvQ (w wr : World) (b g : Nat) (xo : Option Addr) (xc : Nat) (l : List Nat) (E : Nat → Addr) : Prop :=
  ∃ (q : Q) (F : Nat → Prop) (last : Nat), R wr b F (q.rst E) ∧ C7 wr g (.slice xo l.length xc) (.int .i64 q.at_) (.int .i64 last) (.string q.nm) (.string (ftV q.f).1) (.int .i64 ((ftV q.f).2.1 : Nat)) (.int .i64 ((ftV q.f).2.2 : Nat)) ∧
    (q.f = none → last = q.part) ∧ q.ok ∧ q.all = l ∧ Fr (fun _ => False) w wr ∧ (∀ i, F i → w.heap.size ≤ i) ∧ ¬ F g

theorem Q.step_len (q : Q) (p : Pt) : (q.step p).2.2.length ≤ q.all.length := by
  unfold Q.step Q.fail
  repeat' split
  all_goals simp
  all_goals omega
theorem set7_other {w : World} {g : Nat} {a0 a1 a2 a3 a4 a5 a6 : Value} {p : Addr} (h : p.block ≠ g ∨ 7 ≤ p.off) :
    (((((((w.setCell ⟨g, 0, none⟩ a0).setCell ⟨g, 1, none⟩ a1).setCell ⟨g, 2, none⟩ a2).setCell ⟨g, 3, none⟩ a3).setCell ⟨g, 4, none⟩ a4).setCell ⟨g, 5, none⟩ a5).setCell ⟨g, 6, none⟩ a6).cell? p = w.cell? p := by
  have ne : ∀ i, i < 7 → (⟨g, i, none⟩ : Addr) ≠ p := fun i hi e => by
    rw [← e] at h
    rcases h with h | h
    · exact h rfl
    · have h' : 7 ≤ i := h
      omega
  rw [World.cell?_setCell_other _ _ _ _ (ne 6 (by decide)), World.cell?_setCell_other _ _ _ _ (ne 5 (by decide)), World.cell?_setCell_other _ _ _ _ (ne 4 (by decide)), World.cell?_setCell_other _ _ _ _ (ne 3 (by decide)), World.cell?_setCell_other _ _ _ _ (ne 2 (by decide)), World.cell?_setCell_other _ _ _ _ (ne 1 (by decide)), World.cell?_setCell_other _ _ _ _ (ne 0 (by decide))]
/-- Bytes do not lie where a reader lies. -/
theorem Src.set7 {w : World} {g m c : Nat} {xo : Option Addr} {n1 n2 n5 n6 : Int} {s3 s4 : ByteArray} {a0 a1 a2 a3 a4 a5 a6 x : Value} {l : List Nat} (h : Src w x l) (hC : C7 w g (.slice xo m c) (.int .i64 n1) (.int .i64 n2) (.string s3) (.string s4) (.int .i64 n5) (.int .i64 n6)) :
    Src (((((((w.setCell ⟨g, 0, none⟩ a0).setCell ⟨g, 1, none⟩ a1).setCell ⟨g, 2, none⟩ a2).setCell ⟨g, 3, none⟩ a3).setCell ⟨g, 4, none⟩ a4).setCell ⟨g, 5, none⟩ a5).setCell ⟨g, 6, none⟩ a6) x l := by
  rcases h with h | ⟨gb, o, cp, hx, hc⟩ | h
  · exact .inl h
  · refine .inr (.inl ⟨gb, o, cp, hx, fun j v hv => ?_⟩)
    have h1 := hc j v hv
    rw [set7_other, h1]
    by_cases e : gb = g
    · refine .inr ?_
      subst e
      obtain ⟨u, hu⟩ : ∃ u, v = .int .u8 u := by
        have := List.mem_of_getElem? hv
        simp only [cellsOf, List.mem_map] at this
        obtain ⟨y, _, rfl⟩ := this
        exact ⟨_, rfl⟩
      subst hu
      obtain ⟨q0, q1, q2, q3, q4, q5, q6, _⟩ := hC
      rcases Nat.lt_or_ge (o + j) 7 with hlt | hge
      · exfalso
        have : o + j = 0 ∨ o + j = 1 ∨ o + j = 2 ∨ o + j = 3 ∨ o + j = 4 ∨ o + j = 5 ∨ o + j = 6 := by omega
        rcases this with e | e | e | e | e | e | e <;> rw [e] at h1
        · rw [q0] at h1; cases h1
        · rw [q1] at h1; cases h1
        · rw [q2] at h1; cases h1
        · rw [q3] at h1; cases h1
        · rw [q4] at h1; cases h1
        · rw [q5] at h1; cases h1
        · rw [q6] at h1; cases h1
      · exact hge
    · exact .inl e
  · exact .inr (.inr h)

set_option maxRecDepth 1000000 in
set_option maxHeartbeats 2000000 in
theorem reads_any (x0 x1 : Value) (l : List Nat) (A : List Pt) (E : Nat → Addr) (w : World) (hg : G7 w E) (hw : 9 ≤ w.heap.size) (hx0 : Src w x0 l) (hcap : ∀ xo n xc, x0 = .slice xo n xc → n ≤ xc) (hl : l.length ≤ 16777216) (h1 : PSrc w x1 A) (hA : weight A ≤ 16777216) (oA : ∀ p ∈ A, p.ok) (hAl : A.length < 16777216) :
    Calls Tryz.prog 6 #[x0, x1] w fun e w' => e = .returned (.bool true) ∧ Fr (fun _ => False) w w' := by
  obtain ⟨xo, xc, rfl⟩ := hx0.form
  obtain ⟨ao, ac, rfl⟩ := h1.form
  have hlc := hcap xo _ xc rfl
  have HG := hide (And.intro hg (And.intro hx0 h1))
  have HO := hide oA
  clear hg hx0 h1 oA hcap
  go_enter Tryz.func6, Tryz.ntmps6
  go_wp2_with fail
  refine (newReader_any _ l w hw (unhide HG).2.1 (by omega)).mono ?_
  rintro e w1 ⟨b, F0, rfl, hR, hf1, hF0⟩
  have hb1 := hR.lt b hR.fb
  have s1 := hf1.size
  have H1 := hide (And.intro hR (And.intro hf1 hF0))
  clear hR hf1 hF0
  go_wp2_with fail
  go_loopw [7] (fun i wr => ∃ k : Nat, k ≤ A.length ∧ i = .int .i64 k ∧ InvQ w wr b w1.heap.size xo xc l E) (fun i _ => A.length - (intOf i).toNat)
  case atStart =>
    refine ⟨0, Nat.zero_le _, rfl, ⟨ByteArray.empty, l, 0, 0, none⟩, F0, 0, (unhide H1).1.frame (box1 w1 _) (fun _ _ h => h), c7_new w1 _ _ _ _ _ _ _ _, fun _ => rfl, ⟨Nat.zero_le _, Nat.zero_le _, fun _ h => by cases h⟩, rfl, (unhide H1).2.1.trans (box1 w1 _) (fun _ _ h => h), (unhide H1).2.2, fun h => by have := (unhide H1).1.lt _ h; omega⟩
  case round =>
    obtain ⟨k, hk, rfl, q, F, last, hR, hC, hla, hq, hqa, hAr, hn1, hnF⟩ := hrel
    rename World => wr
    have HI := hide (And.intro hR (And.intro hC (And.intro hla (And.intro hq (And.intro hqa (And.intro hAr (And.intro hn1 hnF)))))))
    obtain ⟨t0, t1, t2, t3, t4, t5, t6, tz⟩ := hC
    by_cases hlt : k < A.length
    · obtain ⟨g, o, rfl, c0, c1, c2, c3, c4⟩ := (unhide HG).2.2.at_ hAr k hlt
      generalize hP : A[k] = P at *
      have HP := hide hP
      clear hP hR hla hq hqa hAr hn1 hnF
      go_wp2_with fail
      refine (fit_any P wr).mono ?_
      rintro e w4 ⟨rfl, hf4⟩
      have hm : P ∈ A := by rw [← unhide HP]; exact List.getElem_mem _
      have ok := (unhide HO) P hm
      have wt := weight_mem hm
      have hfd := fit_fitted P (by omega)
      rw [Pt.fit] at hfd
      have npl := fn_lt (k := P.k) ok.2.1
      generalize hkp : fk P.k = kp at *
      generalize hnp : fn P.k P.n = np at *
      clear c0 c1 c2 c3 c4 hkp hnp t0 t1 t2 t3 t4 t5 t6 tz
      obtain ⟨hR, hC, hla, hq, hqa, hAr, hn1, hnF⟩ := unhide HI
      have hfC : Fr (fun _ => False) wr (w4.alloc (.cells #[.int .i64 kp, .int .u64 P.u, .string P.s, .int .i64 np, .int .i64 P.m] 26)) := hf4.alloc _
      have hC4 := hC.fr hfC (fun h => h)
      have hR4 := hR.frame hfC (fun _ _ h => h)
      have hA4 := hAr.trans hfC (fun _ _ h => h)
      have hg1 : w1.heap.size < wr.heap.size := lt_of_cell hC.1
      have hgr := gread_any q ⟨kp, P.u, P.s, np, P.m⟩ xo xc last _ hq (by rw [hqa]; exact (unhide HG).2.1.fr hA4 (fun _ _ _ _ _ h => h)) (by rw [hqa]; exact hlc) (by rw [hqa]; exact hl) hfd.1 hfd.2.1 ok.2.2 hla
      rw [Q.ref, rdV, hqa] at hgr
      dsimp only at hgr
      have HGR := hide hgr
      have H4 := hide (And.intro hR4 (And.intro hA4 (And.intro hfd (And.intro ok (And.intro hn1 (And.intro hnF (And.intro hC4 (And.intro hq hqa))))))))
      obtain ⟨t0, t1, t2, t3, t4, t5, t6, tz⟩ := hC4
      have s4 := hf4.size
      clear hgr hm wt hfd npl hR hC hla hq hqa hAr hn1 hnF hfC hR4 hA4 ok hf4 HI tz
      go_wp2_with fail
      refine (unhide HGR).mono ?_
      rintro e w5 ⟨last', c, rfl, hsc, hcl, hla', hf5⟩
      clear HGR t0 t1 t2 t3 t4 t5 t6
      obtain ⟨hR4, hA4, hfd, ok, hn1, hnF, hC4, hq, hqa⟩ := unhide H4
      have hq' := Q.step_ok hq ⟨kp, P.u, P.s, np, P.m⟩ hfd.2.1
      have hqa' := (Q.step_all q ⟨kp, P.u, P.s, np, P.m⟩).trans hqa
      have hgs : w1.heap.size < w4.heap.size := by omega
      have hrd := fun (wk : World) (hf : Fr (fun _ => False) (w4.alloc (.cells #[.int .i64 kp, .int .u64 P.u, .string P.s, .int .i64 np, .int .i64 P.m] 26)) wk) => read_any q ⟨kp, P.u, P.s, np, P.m⟩ b F E wk ((unhide HG).1.fr (hA4.trans hf (fun _ _ h => h)) (fun _ h => h.elim)) (hR4.frame hf (fun _ _ h => h)) hfd.1 hfd.2.1 ok.2.2 (by rw [hqa]; omega)
      obtain ⟨q', v, cb, hstep⟩ : ∃ q' v cb, q.step ⟨kp, P.u, P.s, np, P.m⟩ = (q', v, cb) := ⟨_, _, _, rfl⟩
      rw [hstep] at hq' hqa' hsc hla' ⊢
      have HCL := hide hcl
      clear hcl
      simp only [hstep] at hrd
      dsimp only at hq' hqa' hsc hla' hrd ⊢
      have HCB : Hid (cb.length ≤ 140737488355328) := hide (by
        have h := Q.step_len q ⟨kp, P.u, P.s, np, P.m⟩
        rw [hstep, hqa] at h
        exact Nat.le_trans h (by omega))
      clear hstep
      rw [Q.ref, rdV, hqa']
      have b5 : Box w5 w4.heap.size ⟨kp, P.u, P.s, np, P.m⟩ := Box.fr (box_new w4 ⟨kp, P.u, P.s, np, P.m⟩) hf5 (fun h => h)
      have hb5 := lt_of_cell b5.1
      have H5 := hide (And.intro hR4 (And.intro hA4 (And.intro hn1 (And.intro hnF (And.intro hC4 (And.intro hq' (And.intro hqa' (And.intro hsc (And.intro hla' (And.intro hf5 hrd))))))))))
      have s5 := hf5.size
      clear hR4 hA4 hfd ok hn1 hnF hC4 hq hqa hq' hqa' hsc hla' hf5 hrd H4
      obtain ⟨p0, p1, p2, p3, p4⟩ := b5
      go_wp2_with fail
      obtain ⟨hR4, hA4, hn1, hnF, hC4, hq', hqa', hsc, hla', hf5, hrd⟩ := unhide H5
      have hfu : Fr (fun _ => False) w5 (w5.alloc (.cells #[.slice xo l.length xc, .int .i64 q'.at_, .int .i64 last', .string q'.nm, .string (ftV q'.f).1, .int .i64 ((ftV q'.f).2.1 : Nat), .int .i64 ((ftV q'.f).2.2 : Nat)] 55)) := box1 w5 _
      refine (hrd _ (hf5.trans hfu (fun _ _ h => h))).mono ?_
      rintro e w6 ⟨d, l', rfl, hsd, hnorm, F', hR6, hc6⟩
      have hU := (c7_new w5 (.slice xo l.length xc) (.int .i64 q'.at_) (.int .i64 last') (.string q'.nm) (.string (ftV q'.f).1) (.int .i64 ((ftV q'.f).2.1 : Nat)) (.int .i64 ((ftV q'.f).2.2 : Nat)) 55).fr hc6.fr (fun h => by have := hR4.lt _ h; simp at this; omega)
      have hT := ((hC4.fr hf5 (fun h => h)).fr hfu (fun h => h)).fr hc6.fr hnF
      have hnF' : ¬ F' w1.heap.size := fun h => by
        rcases hc6.new _ h with hx | hx
        · exact hnF hx
        · simp at hx; omega
      have hA6 := ((hA4.trans hf5 (fun _ _ h => h)).trans hfu (fun _ _ h => h)).soak hc6.fr hn1
      have hn1' : ∀ i, F' i → w.heap.size ≤ i := fun i hi => by
        rcases hc6.new i hi with hx | hx
        · exact hn1 i hx
        · have := hA4.size; simp at hx this; omega
      have hsc6 := (hsc.fr hfu (fun _ _ _ _ _ h => h)).fr hc6.fr (fun g o m cc e h => by have h1 := unhide HCL g o m cc e; have h2 := hR4.lt g h; omega)
      have H6 := hide (And.intro hR6 (And.intro hA6 (And.intro hn1' (And.intro hnF' (And.intro hT (And.intro hq' (And.intro hqa' (And.intro hsd (And.intro hla' (And.intro hnorm hsc6))))))))))
      obtain ⟨u0, u1, u2, u3, u4', u5, u6, uz⟩ := hU
      obtain ⟨t0, t1, t2, t3, t4, t5, t6, tz⟩ := hT
      have z0 := tz 0
      have z1 := tz 1
      have z2 := tz 2
      have z3 := tz 3
      have z4 := tz 4
      have z5 := tz 5
      have z6 := tz 6
      clear hR4 hA4 hn1 hnF hC4 hq' hqa' hsc hla' hf5 hrd hfu hsd hnorm hR6 hc6 hnF' hA6 hn1' hsc6 uz tz H5 p0 p1 p2 p3 p4
      go_wp2_with fail
      clear u0 u1 u2 u3 u4' u5 u6 t0 t1 t2 t3 t4 t5 t6 z0 z1 z2 z3 z4 z5 z6
      obtain ⟨hR6, hA6, hn1', hnF', hT, hq', hqa', hsd, hla', hnorm, hsc6⟩ := unhide H6
      obtain ⟨hC7, hF7⟩ := set7 (.slice xo l.length xc) (.int .i64 q'.at_) (.int .i64 last') (.string q'.nm) (.string (ftV q'.f).1) (.int .i64 ((ftV q'.f).2.1 : Nat)) (.int .i64 ((ftV q'.f).2.2 : Nat)) hT
      have hR7 := hR6.frame hF7 (fun i hi e => by have e' : i = w1.heap.size := e; rw [e'] at hi; exact hnF' hi)
      have hA7 := hA6.soak hF7 (fun i e => by have e' : i = w1.heap.size := e; omega)
      have hd7 := Src.set7 (a0 := .slice xo l.length xc) (a1 := .int .i64 q'.at_) (a2 := .int .i64 last') (a3 := .string q'.nm) (a4 := .string (ftV q'.f).1) (a5 := .int .i64 ((ftV q'.f).2.1 : Nat)) (a6 := .int .i64 ((ftV q'.f).2.2 : Nat)) hsd hT
      have hc7 := Src.set7 (a0 := .slice xo l.length xc) (a1 := .int .i64 q'.at_) (a2 := .int .i64 last') (a3 := .string q'.nm) (a4 := .string (ftV q'.f).1) (a5 := .int .i64 ((ftV q'.f).2.1 : Nat)) (a6 := .int .i64 ((ftV q'.f).2.2 : Nat)) hsc6 hT
      generalize hw7 : ((((((w6.setCell ⟨w1.heap.size, 0, none⟩ (.slice xo l.length xc)).setCell ⟨w1.heap.size, 1, none⟩ (.int .i64 q'.at_)).setCell ⟨w1.heap.size, 2, none⟩ (.int .i64 last')).setCell ⟨w1.heap.size, 3, none⟩ (.string q'.nm)).setCell ⟨w1.heap.size, 4, none⟩ (.string (ftV q'.f).1)).setCell ⟨w1.heap.size, 5, none⟩ (.int .i64 ((ftV q'.f).2.1 : Nat))).setCell ⟨w1.heap.size, 6, none⟩ (.int .i64 ((ftV q'.f).2.2 : Nat)) = w7 at *
      have hg7 := (unhide HG).1.fr hA7 (fun _ h => h.elim)
      obtain ⟨co, cc, rfl⟩ := hc7.form
      obtain ⟨do', dc, rfl⟩ := hd7.form
      have hcl := unhide HCB
      have H7 := hide (And.intro hR7 (And.intro hA7 (And.intro hn1' (And.intro hnF' (And.intro hC7 (And.intro hq' (And.intro hqa' (And.intro hla' (And.intro hc7 (And.intro hd7 (And.intro hnorm.symm (And.intro hg7 hcl))))))))))))
      have hS : TS w7 w1.heap.size (.slice xo l.length xc) (.int .i64 q'.at_) (.int .i64 last') (.string q'.nm) (.string (ftV q'.f).1) (.int .i64 ((ftV q'.f).2.1 : Nat)) (.int .i64 ((ftV q'.f).2.2 : Nat)) w7.drew := TS.next (w := w7) ⟨hC7.1, hC7.2.1, hC7.2.2.1, hC7.2.2.2.1, hC7.2.2.2.2.1, hC7.2.2.2.2.2.1, hC7.2.2.2.2.2.2.1, Fr.refl _ _⟩ ((Fr.refl _ _).drew)
      clear hR6 hA6 hn1' hnF' hT hq' hqa' hsd hla' hnorm hsc6 hC7 hF7 hR7 hA7 hd7 hc7 hw7 hg7 hcl H6 HCL HCB
      have hbn : (((q'.at_ : Nat) : Int) != ((q'.at_ : Nat) : Int)) = false := by simp
      go_region_held3 (fun w' => w'.cell? ⟨w1.heap.size, 0, none⟩ = some (.slice xo l.length xc) ∧ w'.cell? ⟨w1.heap.size, 1, none⟩ = some (.int .i64 q'.at_) ∧ w'.cell? ⟨w1.heap.size, 2, none⟩ = some (.int .i64 last') ∧ w'.cell? ⟨w1.heap.size, 3, none⟩ = some (.string q'.nm) ∧ w'.cell? ⟨w1.heap.size, 4, none⟩ = some (.string (ftV q'.f).1) ∧ w'.cell? ⟨w1.heap.size, 5, none⟩ = some (.int .i64 ((ftV q'.f).2.1 : Nat)) ∧ w'.cell? ⟨w1.heap.size, 6, none⟩ = some (.int .i64 ((ftV q'.f).2.2 : Nat)) ∧ Fr (fun _ => False) w7 w') (assumption)
        (first
          | (go_at_call 12; refine (same_S (by assumption) (unhide H7).2.2.2.2.2.2.2.2.1 (unhide H7).2.2.2.2.2.2.2.2.2.1 (unhide H7).2.2.2.2.2.2.2.2.2.2.1 (unhide H7).2.2.2.2.2.2.2.2.2.2.2.2).mono ?_; rintro e w' ⟨rfl, hS⟩)
          | (go_at_call 15; refine (at_S (q := q') (by assumption) (unhide H7).1).mono ?_; rintro e w' ⟨rfl, hS⟩)
          | (go_at_call 16; refine (err_S (q := q') (by assumption) (unhide H7).1 (unhide H7).2.2.2.2.2.1).mono ?_; rintro e w' ⟨v1, rfl, hE, hf, hS⟩)
          | (go_at_call 17; refine (done_S (q := q') (by assumption) (unhide H7).1 (unhide H7).2.2.2.2.2.1 (unhide H7).2.2.2.2.2.2.2.2.2.2.2.1).mono ?_; rintro e w' ⟨v2, rfl, hD, hf, hS⟩)
          | (go_at_call 24; rw [← (unhide H7).2.2.2.2.2.2.1]; refine (ended_S (q := q') (by assumption) (unhide H7).2.2.2.2.2.1).mono ?_; rintro e w' ⟨rfl, hf, hS⟩; replace hD := hD.fr hf)
          | (go_at_call 21; refine (told_S (by assumption) hE (unhide H7).2.2.2.2.2.2.2.2.2.2.2.1).mono ?_; rintro e w' ⟨rfl, hf, hS⟩; clear hE)
          | (go_at_call 21; refine (told_S (by assumption) hD (unhide H7).2.2.2.2.2.2.2.2.2.2.2.1).mono ?_; rintro e w' ⟨rfl, hf, hS⟩))
      rw [(unhide H7).2.2.2.2.2.2.1]
      have hfin := hS.2.2.2.2.2.2.2
      obtain ⟨hR7, hA7, hn1', hnF', hC7, hq', hqa', hla', -⟩ := unhide H7
      have HI := hide (show InvQ w _ b w1.heap.size xo xc l E from ⟨q', F', last', hR7.frame hfin (fun _ _ h => h), hC7.fr hfin (fun h => h), hla', hq', hqa', hA7.trans hfin (fun _ _ h => h), hn1', hnF'⟩)
      clear hfin hR7 hA7 hn1' hnF' hC7 hq' hqa' hla' hS H7
      go_wp2_with fail
      exact ⟨⟨k + 1, by omega, by go_num, unhide HI⟩, by simp [intOf]; omega⟩
    · clear tz
      have hS : TS wr w1.heap.size (.slice xo l.length xc) (.int .i64 q.at_) (.int .i64 last) (.string q.nm) (.string (ftV q.f).1) (.int .i64 ((ftV q.f).2.1 : Nat)) (.int .i64 ((ftV q.f).2.2 : Nat)) wr.drew := TS.next (w := wr) ⟨t0, t1, t2, t3, t4, t5, t6, Fr.refl _ _⟩ ((Fr.refl _ _).drew)
      have hgr := (unhide HG).1.fr hAr (fun _ h => h.elim)
      have H7 := hide (And.intro hR (And.intro hq (And.intro hgr (And.intro hqa hAr))))
      clear hR hla hq hqa hAr hn1 hnF hgr HI
      go_wp2_with fail
      go_region_held3 (fun w' => w'.cell? ⟨w1.heap.size, 0, none⟩ = some (.slice xo l.length xc) ∧ w'.cell? ⟨w1.heap.size, 1, none⟩ = some (.int .i64 q.at_) ∧ w'.cell? ⟨w1.heap.size, 2, none⟩ = some (.int .i64 last) ∧ w'.cell? ⟨w1.heap.size, 3, none⟩ = some (.string q.nm) ∧ w'.cell? ⟨w1.heap.size, 4, none⟩ = some (.string (ftV q.f).1) ∧ w'.cell? ⟨w1.heap.size, 5, none⟩ = some (.int .i64 ((ftV q.f).2.1 : Nat)) ∧ w'.cell? ⟨w1.heap.size, 6, none⟩ = some (.int .i64 ((ftV q.f).2.2 : Nat)) ∧ Fr (fun _ => False) wr w') (assumption)
        (first
          | (go_at_call 16; refine (err_S (q := q) (by assumption) (unhide H7).1 (unhide H7).2.1).mono ?_; rintro e w' ⟨v1, rfl, hE, hf, hS⟩)
          | (go_at_call 17; refine (done_S (q := q) (by assumption) (unhide H7).1 (unhide H7).2.1 (unhide H7).2.2.1).mono ?_; rintro e w' ⟨v2, rfl, hD, hf, hS⟩)
          | (go_at_call 24; rw [← (unhide H7).2.2.2.1]; refine (ended_S (q := q) (by assumption) (unhide H7).2.1).mono ?_; rintro e w' ⟨rfl, hf, hS⟩; replace hD := hD.fr hf)
          | (go_at_call 21; refine (told_S (by assumption) hD (unhide H7).2.2.1).mono ?_; rintro e w' ⟨rfl, hf, hS⟩; clear hD)
          | (go_at_call 21; refine (told_S (by assumption) hE (unhide H7).2.2.1).mono ?_; rintro e w' ⟨rfl, hf, hS⟩; clear hE))
      have hfin := hS.2.2.2.2.2.2.2
      have HF := hide ((unhide H7).2.2.2.2.trans hfin (fun _ _ h => h))
      clear hfin hS H7
      go_wp2_with fail
      go_ret
      exact ⟨rfl, unhide HF⟩
end Go.Proofs.YtikolmpgnpkdbaaGreatDoor

namespace Go.Proofs.YtikolmpgnpkdbaaGreatDoor
open Go.RowKit

instance (p : Pt) : Decidable p.ok := by unfold Pt.ok; infer_instance
theorem lit_psrc (w : World) (L : List Pt) (cs : Array Value) (n c : Nat) (hn : L.length = n) (h : cs.toList = pcells L) : PSrc (w.alloc (.cells cs 26)) (.slice (some ⟨w.heap.size, 0, none⟩) n c) L := by
  subst hn
  refine .inr ⟨w.heap.size, 0, c, rfl, fun j hj => ?_⟩
  have key : ∀ i u, (pcells L)[i]? = some u → (w.alloc (.cells cs 26)).cell? ⟨w.heap.size, 0 + i, none⟩ = some u := fun i u hu => by
    rw [← h] at hu
    rw [Nat.zero_add, World.cell?_alloc_at _ _ _ _ rfl]
    simpa using hu
  obtain ⟨h0, h1, h2, h3, h4⟩ := pcells_at L j hj
  exact ⟨key _ _ h0, by simpa [Nat.add_assoc] using key _ _ h1, by simpa [Nat.add_assoc] using key _ _ h2, by simpa [Nat.add_assoc] using key _ _ h3, by simpa [Nat.add_assoc] using key _ _ h4⟩
theorem writes_lit (L : List Pt) (cs : Array Value) (n : Nat) (E : Nat → Addr) (w wk : World) (hf : Fr (fun _ => False) w wk) (hg : G7 w E) (hw : 9 ≤ w.heap.size) (hn : L.length = n) (h : cs.toList = pcells L) (hA : weight L ≤ 16777216) (oA : ∀ p ∈ L, p.ok) (hl : L.length < 16777216) :
    Calls Tryz.prog 5 #[.slice (some ⟨wk.heap.size, 0, none⟩) n n] (wk.alloc (.cells cs 26)) fun e w' => e = .returned (.bool true) ∧ Fr (fun _ => False) w w' := by
  refine (writes_any _ L E _ (hg.fr (hf.alloc _) (fun _ h => h.elim)) (Nat.le_trans hw (hf.alloc _).size) (lit_psrc wk L cs n n hn h) hA oA hl).mono ?_
  rintro e w' ⟨rfl, hf'⟩
  exact ⟨rfl, (hf.alloc _).trans hf' (fun _ _ h => h)⟩
theorem reads_lit (x : Value) (l : List Nat) (L : List Pt) (cs : Array Value) (n : Nat) (E : Nat → Addr) (w wk : World) (z : Nat) (hz : wk.heap.size = z) (hf : Fr (fun _ => False) w wk) (hg : G7 w E) (hw : 9 ≤ w.heap.size) (hx : Src wk x l) (hcap : ∀ xo n xc, x = .slice xo n xc → n ≤ xc) (hll : l.length ≤ 16777216) (hn : L.length = n) (h : cs.toList = pcells L) (hA : weight L ≤ 16777216) (oA : ∀ p ∈ L, p.ok) (hl : L.length < 16777216) :
    Calls Tryz.prog 6 #[x, .slice (some ⟨z, 0, none⟩) n n] (wk.alloc (.cells cs 26)) fun e w' => e = .returned (.bool true) ∧ Fr (fun _ => False) w w' ∧ Fr (fun _ => False) wk w' := by
  subst hz
  refine (reads_any x _ l L E _ (hg.fr (hf.alloc _) (fun _ h => h.elim)) (Nat.le_trans hw (hf.alloc _).size) (hx.fr (box1 wk _) (fun _ _ _ _ _ h => h)) hcap hll (lit_psrc wk L cs n n hn h) hA oA hl).mono ?_
  rintro e w' ⟨rfl, hf'⟩
  exact ⟨rfl, (hf.alloc _).trans hf' (fun _ _ h => h), (box1 wk _).trans hf' (fun _ _ h => h)⟩
theorem cap_lit (a : Addr) (n : Nat) : ∀ xo m xc, (Value.slice (some a) n n) = .slice xo m xc → m ≤ xc := fun xo m xc e => by
  simp only [Value.slice.injEq] at e
  obtain ⟨_, rfl, rfl⟩ := e
  exact Nat.le_refl _

set_option maxRecDepth 1000000 in
set_option maxHeartbeats 2000000 in
theorem known_any (E : Nat → Addr) (w : World) (hg : G7 w E) (hw : 9 ≤ w.heap.size) :
    Calls Tryz.prog 3 #[] w fun e w' => e = .returned (.bool true) ∧ Fr (fun _ => False) w w' := by
  have HG := hide hg
  clear hg
  go_enter Tryz.func3, Tryz.ntmps3
  go_wp2_with fail
  refine (awake_any E w (unhide HG).gl hw).mono ?_
  rintro e w0 ⟨rfl, hf⟩
  have H0 := hide hf
  clear hf
  go_wp2_with fail
  refine (writes_lit [⟨2, 258, ⟨#[]⟩, 0, 0⟩, ⟨6, 0, ⟨#[97, 98]⟩, 0, 2⟩, ⟨5, 1065353216, ⟨#[]⟩, 0, 0⟩] #[.int .i64 2, .int .u64 258, .string ⟨#[]⟩, .int .i64 0, .int .i64 0, .int .i64 6, .int .u64 0, .string ⟨#[97, 98]⟩, .int .i64 0, .int .i64 2, .int .i64 5, .int .u64 1065353216, .string ⟨#[]⟩, .int .i64 0, .int .i64 0] 3 E w w0 (unhide H0) (unhide HG) hw rfl (by rfl) (by decide) (by decide) (by decide)).mono ?_
  rintro e w1 ⟨rfl, hf⟩
  have H1 := hide hf
  clear hf H0
  go_wp2_with fail
  refine (writes_lit [⟨1, 7, ⟨#[]⟩, 0, 0⟩, ⟨10, 0, ⟨#[110, 111, 116, 101]⟩, 0, 0⟩, ⟨6, 0, ⟨#[97, 98, 99]⟩, 1, 2⟩, ⟨1, 8, ⟨#[]⟩, 0, 0⟩] #[.int .i64 1, .int .u64 7, .string ⟨#[]⟩, .int .i64 0, .int .i64 0, .int .i64 10, .int .u64 0, .string ⟨#[110, 111, 116, 101]⟩, .int .i64 0, .int .i64 0, .int .i64 6, .int .u64 0, .string ⟨#[97, 98, 99]⟩, .int .i64 1, .int .i64 2, .int .i64 1, .int .u64 8, .string ⟨#[]⟩, .int .i64 0, .int .i64 0] 4 E w w1 (unhide H1) (unhide HG) hw rfl (by rfl) (by decide) (by decide) (by decide)).mono ?_
  rintro e w2 ⟨rfl, hf⟩
  have H2 := hide hf
  clear hf H1
  go_wp2_with fail
  refine (writes_lit [⟨5, 2147483648, ⟨#[]⟩, 0, 0⟩] #[.int .i64 5, .int .u64 2147483648, .string ⟨#[]⟩, .int .i64 0, .int .i64 0] 1 E w w2 (unhide H2) (unhide HG) hw rfl (by rfl) (by decide) (by decide) (by decide)).mono ?_
  rintro e w3 ⟨rfl, hf⟩
  have H3 := hide hf
  clear hf H2
  go_wp2_with fail
  refine (writes_lit [⟨7, 0, ⟨#[]⟩, -1, 5⟩] #[.int .i64 7, .int .u64 0, .string ⟨#[]⟩, .int .i64 (-1), .int .i64 5] 1 E w w3 (unhide H3) (unhide HG) hw rfl (by rfl) (by decide) (by decide) (by decide)).mono ?_
  rintro e w4 ⟨rfl, hf⟩
  have H4 := hide hf
  clear hf H3
  go_wp2_with fail
  refine (writes_lit [⟨7, 0, ⟨#[]⟩, 6, 5⟩, ⟨9, 0, ⟨#[]⟩, 5, 0⟩] #[.int .i64 7, .int .u64 0, .string ⟨#[]⟩, .int .i64 6, .int .i64 5, .int .i64 9, .int .u64 0, .string ⟨#[]⟩, .int .i64 5, .int .i64 0] 2 E w w4 (unhide H4) (unhide HG) hw rfl (by rfl) (by decide) (by decide) (by decide)).mono ?_
  rintro e w5 ⟨rfl, hf⟩
  have H5 := hide hf
  clear hf H4
  go_wp2_with fail
  have hs6 := lit_src w5 [0, 0, 0, 3, 1, 2] #[.int .u8 0, .int .u8 0, .int .u8 0, .int .u8 3, .int .u8 1, .int .u8 2] 6 6 rfl (by rfl)
  refine (reads_lit _ [0, 0, 0, 3, 1, 2] [⟨6, 0, ⟨#[]⟩, 1, 2⟩] #[.int .i64 6, .int .u64 0, .string ⟨#[]⟩, .int .i64 1, .int .i64 2] 1 E w _ (w5.heap.size + 1) (by simp) ((unhide H5).alloc _) (unhide HG) hw hs6 (cap_lit _ _) (by decide) rfl (by rfl) (by decide) (by decide) (by decide)).mono ?_
  rintro e w6 ⟨rfl, hf, hf2⟩
  have H6 := hide (And.intro hf (hs6.fr hf2 (fun _ _ _ _ _ h => h)))
  clear hf hf2 hs6
  go_wp2_with fail
  refine (reads_lit _ [0, 0, 0, 3, 1, 2] [⟨6, 0, ⟨#[]⟩, 0, 3⟩] #[.int .i64 6, .int .u64 0, .string ⟨#[]⟩, .int .i64 0, .int .i64 3] 1 E w w6 w6.heap.size rfl (unhide H6).1 (unhide HG) hw (unhide H6).2 (cap_lit _ _) (by decide) rfl (by rfl) (by decide) (by decide) (by decide)).mono ?_
  rintro e w7 ⟨rfl, hf, hf2⟩
  have H7 := hide (And.intro hf ((unhide H6).2.fr hf2 (fun _ _ _ _ _ h => h)))
  clear hf hf2
  go_wp2_with fail
  refine (reads_lit _ [0, 0, 0, 3, 1, 2] [⟨4, 0, ⟨#[]⟩, 0, 0⟩, ⟨2, 0, ⟨#[]⟩, 0, 0⟩] #[.int .i64 4, .int .u64 0, .string ⟨#[]⟩, .int .i64 0, .int .i64 0, .int .i64 2, .int .u64 0, .string ⟨#[]⟩, .int .i64 0, .int .i64 0] 2 E w w7 w7.heap.size rfl (unhide H7).1 (unhide HG) hw (unhide H7).2 (cap_lit _ _) (by decide) rfl (by rfl) (by decide) (by decide) (by decide)).mono ?_
  rintro e w8 ⟨rfl, hf, hf2⟩
  have H8 := hide (And.intro hf ((unhide H7).2.fr hf2 (fun _ _ _ _ _ h => h)))
  clear hf hf2
  go_wp2_with fail
  have hsb := lit_src w8 [9, 255, 192, 0, 0, 1] #[.int .u8 9, .int .u8 255, .int .u8 192, .int .u8 0, .int .u8 0, .int .u8 1] 6 6 rfl (by rfl)
  refine (reads_lit _ [9, 255, 192, 0, 0, 1] [⟨1, 0, ⟨#[]⟩, 0, 0⟩, ⟨5, 0, ⟨#[]⟩, 0, 0⟩, ⟨1, 0, ⟨#[]⟩, 0, 0⟩] #[.int .i64 1, .int .u64 0, .string ⟨#[]⟩, .int .i64 0, .int .i64 0, .int .i64 5, .int .u64 0, .string ⟨#[]⟩, .int .i64 0, .int .i64 0, .int .i64 1, .int .u64 0, .string ⟨#[]⟩, .int .i64 0, .int .i64 0] 3 E w _ (w8.heap.size + 1) (by simp) ((unhide H8).1.alloc _) (unhide HG) hw hsb (cap_lit _ _) (by decide) rfl (by rfl) (by decide) (by decide) (by decide)).mono ?_
  rintro e w9 ⟨rfl, hf, hf2⟩
  have H9 := hide (And.intro hf trivial)
  clear hf hf2 hsb
  go_wp2_with fail
  have hsb := lit_src w9 [1, 2, 3] #[.int .u8 1, .int .u8 2, .int .u8 3] 3 3 rfl (by rfl)
  refine (reads_lit _ [1, 2, 3] [⟨1, 0, ⟨#[]⟩, 0, 0⟩, ⟨1, 0, ⟨#[]⟩, 0, 0⟩, ⟨9, 0, ⟨#[]⟩, 6, 0⟩, ⟨1, 0, ⟨#[]⟩, 0, 0⟩] #[.int .i64 1, .int .u64 0, .string ⟨#[]⟩, .int .i64 0, .int .i64 0, .int .i64 1, .int .u64 0, .string ⟨#[]⟩, .int .i64 0, .int .i64 0, .int .i64 9, .int .u64 0, .string ⟨#[]⟩, .int .i64 6, .int .i64 0, .int .i64 1, .int .u64 0, .string ⟨#[]⟩, .int .i64 0, .int .i64 0] 4 E w _ (w9.heap.size + 1) (by simp) ((unhide H9).1.alloc _) (unhide HG) hw hsb (cap_lit _ _) (by decide) rfl (by rfl) (by decide) (by decide) (by decide)).mono ?_
  rintro e w10 ⟨rfl, hf, hf2⟩
  have H10 := hide (And.intro hf trivial)
  clear hf hf2 hsb
  go_wp2_with fail
  have hsb := lit_src w10 [1, 2, 3] #[.int .u8 1, .int .u8 2, .int .u8 3] 3 3 rfl (by rfl)
  refine (reads_lit _ [1, 2, 3] [⟨2, 0, ⟨#[]⟩, 0, 0⟩, ⟨1, 0, ⟨#[]⟩, 0, 0⟩] #[.int .i64 2, .int .u64 0, .string ⟨#[]⟩, .int .i64 0, .int .i64 0, .int .i64 1, .int .u64 0, .string ⟨#[]⟩, .int .i64 0, .int .i64 0] 2 E w _ (w10.heap.size + 1) (by simp) ((unhide H10).1.alloc _) (unhide HG) hw hsb (cap_lit _ _) (by decide) rfl (by rfl) (by decide) (by decide) (by decide)).mono ?_
  rintro e w11 ⟨rfl, hf, hf2⟩
  have H11 := hide (And.intro hf trivial)
  clear hf hf2 hsb
  go_wp2_with fail
  have hwk := Nat.le_trans hw (unhide H11).1.size
  refine (newWriter_any w11 hwk).mono ?_
  rintro e v1 ⟨rfl, hW1, hf1⟩
  have V1 := hide (And.intro hW1 ((unhide H11).1.trans hf1 (fun _ _ h => h)))
  clear hW1 hf1
  go_wp2_with fail
  refine (wU16_any _ 258 _ _ v1 (by decide) (unhide V1).1 (by simp)).mono ?_
  rintro e v2 ⟨rfl, F2, hW20, hc2⟩
  have hW2 : W v2 w11.heap.size F2 ⟨ByteArray.empty, be 2 258, none⟩ := hW20
  clear hW20
  have hF2 := (unhide V1).2.soak hc2.fr (fun i h => by have h' : i = w11.heap.size := h; have := (unhide H11).1.size; omega)
  have hn2 : ∀ i, F2 i → w.heap.size ≤ i := fun i hi => by
    rcases hc2.new i hi with h | h
    · have h' : i = w11.heap.size := h; have := (unhide H11).1.size; omega
    · have := (unhide V1).2.size; omega
  have V2 := hide (And.intro hW2 (And.intro hF2 hn2))
  clear hW2 hc2 hF2 hn2
  go_wp2_with fail
  refine (wText_any _ ⟨#[97, 98]⟩ 2 F2 _ E v2 ((unhide HG).gl.fr0 (unhide V2).2.1) (unhide V2).1 (by decide) (by decide)).mono ?_
  rintro e v3 ⟨rfl, F3, hW30, hc3⟩
  rw [if_pos (by decide)] at hW30
  have hW3 : W v3 w11.heap.size F3 ⟨ByteArray.empty, be 2 258 ++ (be 4 2 ++ bytesOf ⟨#[97, 98]⟩), none⟩ := hW30
  clear hW30
  have hF3 := (unhide V2).2.1.soak hc3.fr (unhide V2).2.2
  have hn3 : ∀ i, F3 i → w.heap.size ≤ i := fun i hi => by
    rcases hc3.new i hi with h | h
    · exact (unhide V2).2.2 i h
    · have := (unhide V2).2.1.size; omega
  have V3 := hide (And.intro hW3 (And.intro hF3 hn3))
  clear hW3 hc3 hF3 hn3
  go_wp2_with fail
  refine (wF32_any _ 1065353216 F3 _ (E 4) v3 ((unhide HG).e4.fr0 (unhide V3).2.1) (unhide V3).1 (by decide) (by decide)).mono ?_
  rintro e v4 ⟨rfl, F4, hW4, hc4⟩
  have hF4 := (unhide V3).2.1.soak hc4.fr (unhide V3).2.2
  rw [Wst.flt, if_pos (by decide)] at hW4
  have hW4' : W v4 w11.heap.size F4 ⟨ByteArray.empty, be 2 258 ++ (be 4 2 ++ bytesOf ⟨#[97, 98]⟩) ++ be 4 1065353216, none⟩ := hW4
  have V4 := hide (And.intro hW4' hF4)
  clear hW4 hc4 hF4 hW4'
  go_wp2_with fail
  refine (wDone_ok _ _ _ v4 (unhide V4).1 rfl (by decide)).mono ?_
  rintro e v5 ⟨gv, rfl, ho, hf5⟩
  obtain ⟨go, gc, rfl⟩ := own_form ho
  have V5 := hide (And.intro (own_src ho) ((unhide V4).2.trans hf5 (fun _ _ h => h)))
  clear ho hf5
  go_wp2_with fail
  refine (same_any _ _ (be 2 258 ++ (be 4 2 ++ bytesOf ⟨#[97, 98]⟩) ++ be 4 1065353216) [1, 2, 0, 0, 0, 2, 97, 98, 63, 128, 0, 0] _ ((unhide V5).1.fr (box1 v5 _) (fun _ _ _ _ _ h => h)) (lit_src v5 [1, 2, 0, 0, 0, 2, 97, 98, 63, 128, 0, 0] #[.int .u8 1, .int .u8 2, .int .u8 0, .int .u8 0, .int .u8 0, .int .u8 2, .int .u8 97, .int .u8 98, .int .u8 63, .int .u8 128, .int .u8 0, .int .u8 0] 12 12 rfl (by rfl)) (by decide)).mono ?_
  rintro e v6 ⟨rfl, hd⟩
  rw [show sameB (be 2 258 ++ (be 4 2 ++ bytesOf ⟨#[97, 98]⟩) ++ be 4 1065353216) [1, 2, 0, 0, 0, 2, 97, 98, 63, 128, 0, 0] = true from by decide]
  have V6 := hide (((unhide V5).2.alloc _).trans (Fr.of_drewN hd) (fun _ _ h => h))
  clear hd
  go_wp2_with fail
  go_ret
  exact ⟨rfl, unhide V6⟩
end Go.Proofs.YtikolmpgnpkdbaaGreatDoor

namespace Go.Proofs.YtikolmpgnpkdbaaGreatDoor
open Go.ChangeShapes Go.WideShapes Go.ChangeAt Go.RowKit
set_option maxRecDepth 100000

theorem known_contract (H : Type) (enc : TypeId × Value → H) (W : World) (args : Array Value) (ds gs : List (DataW H)) (before : List MemPlace)
    (hW : DataW.Whole enc Tryz.prog Tryz.f3.params.toList Rows.bytesKnownSpec.vars false W args.toList ds gs before) (hL : laidMetH Tryz.prog Rows.bytesKnownUptoRow.laid W) (hsh : W.ShapedOpen Tryz.prog) :
    Calls Tryz.prog 3 args W fun e W' => ∃ v, e = .returned v ∧ Rows.bytesKnownSpec.post enc Tryz.prog Tryz.f3 false true false false W args v W' := by
  have hW' := hW
  obtain ⟨p, q, hA0, hV, rfl, hfz, hnd⟩ := hW
  have hA : DataW.TrodAll enc Tryz.prog W 0 (fun _ => true) true Tryz.f3.params.toList args.toList ds p := hA0
  rw [Tryz.params3] at hA
  obtain ⟨hargs, rfl, rfl⟩ := trodAll_nil hA
  obtain rfl : args = #[] := by cases args; simp_all
  obtain ⟨rfl, rfl⟩ := trodVars_none hV
  obtain ⟨E, hg⟩ := g7_of_laid hL
  refine (known_any E W hg (heap_ok hsh)).mono fun e W' ⟨he, hf⟩ => ?_
  subst he
  have hb := hf.low
  refine ⟨_, rfl, _, _, _, [], [], [], hW', ?_, ?_, ?_, hb.frame _, fun h => by cases h⟩
  · exact trodAll_cons_mk (shut_bool Tryz.underlying4 true) trodAll_mk0
  · exact trodAll_mk0
  · rfl

theorem known_laid_met (os : Os) : laidMetH Tryz.prog Rows.bytesKnownUptoRow.laid ((errWorld8 os).forCall (fun _ _ => 0) ⟨#[], #[], []⟩).memory :=
  laidMetH_of_parts (laidMet_of_run' 8 (by kernel_rfl) (by kernel_rfl)) (by kernel_rfl)
theorem known_reads (os : Os) {H : Type} (enc : TypeId × Value → H) : ∃ places, DataW.whole enc Tryz.prog ((errWorld8 os).forCall (fun _ _ => 0) ⟨#[], #[], []⟩).memory Tryz.f3.params.toList Rows.bytesKnownSpec.vars false (#[] : Array Value).toList 8 = some ([], [], places) :=
  ⟨[], by kernel_rfl⟩

theorem known_lifted (os : Os) (started : os.Started) (H : Type) (enc : TypeId × Value → H) (F : Stop.Interp) :
    ReturnsInHanded {} Tryz.checked os 3 .any ((Rows.OpenSpec.upto Rows.bytesKnownSpec).preRow enc Tryz.prog Tryz.f3 Rows.bytesKnownUptoRow.domain false Rows.bytesKnownUptoRow.laid) (((Rows.OpenSpec.upto Rows.bytesKnownSpec).at F).post enc Tryz.prog Tryz.f3 false true false false) := by
  obtain ⟨places, hx⟩ := known_reads os enc
  refine returnsInHanded_of_row (C := Tryz.checked) (s := Rows.OpenSpec.upto Rows.bytesKnownSpec) Tryz.ownKnob started (by kernel_rfl) Tryz.func3
    (witness_row_atRef (enc := enc) (C := Tryz.checked) false (errWorld8 os) #[] rfl (by kernel_rfl) (by kernel_rfl) (by kernel_rfl)
      (OpenSpec.preRow_of_cond 8 hx (by kernel_rfl) (fun k hk => by cases hk; kernel_rfl) (by kernel_rfl) (known_laid_met os))) ?_
  intro W base args ds gs before _ hW _ _ _ hL hsh _
  exact known_contract H enc W args ds gs before hW hL hsh

theorem known_said : Rows.BytesKnownUptoSaid :=
  OpenClaim.holds_of_cond 3 Tryz.f3 rfl rfl rfl rfl rfl rfl rfl ⟨rfl, rfl, rfl, rfl, rfl⟩ rfl rfl rfl rfl rfl (by kernel_rfl) Tryz.func3 (by kernel_rfl)
    (of_decide_eq_true (by kernel_rfl)) (by unfold Func.isWrapper; first | (rw [if_pos (by decide +kernel)]; kernel_rfl) | (rw [if_neg (by decide +kernel)]; exact ⟨rfl, rfl⟩))
    (fun os started H enc _ F => by rw [OpenClaim.pre_eq_preRow]; exact known_lifted os started H enc F)

theorem known_plain (f : FuncId) (fn : Func) (hf : Tryz.pinned.checked.prog.funcNamed Rows.bytesKnownUptoRow.func = some f) (hfn : Tryz.pinned.checked.prog.funcs[f]? = some fn) :
    true = Tryz.pinned.checked.prog.looks [] ∧ ∀ (j : Nat) t, fn.params[j]? = some t → Tryz.pinned.checked.prog.wantsStandIn t = false := by
  obtain rfl : f = 3 := Option.some.inj ((show Tryz.prog.funcNamed Rows.bytesKnownUptoRow.func = some 3 by kernel_rfl).symm.trans hf) |>.symm
  obtain rfl : fn = Tryz.f3 := (Option.some.inj (Tryz.func3.symm.trans hfn)).symm
  refine ⟨by kernel_rfl, fun j t ht => ?_⟩
  rw [Tryz.params3] at ht
  simp at ht

/-- THE SECOND FORM's CARD. -/
theorem known_card : Rows.BytesKnownUptoCardSaid :=
  Claim7.holds_tied_plain_at .later [] _ _ _ _ known_said (fun _ h => by cases h) (by kernel_rfl) (fun _ h => by cases h) bytesKnownUpto_row_tie rfl ⟨rfl, rfl⟩ (by kernel_rfl) rfl known_plain (by kernel_rfl)
#print axioms known_card
end Go.Proofs.YtikolmpgnpkdbaaGreatDoor

namespace Go.Proofs.YtikolmpgnpkdbaaGreatDoor
open Go.ChangeShapes Go.WideShapes Go.ChangeAt Go.RowKit
set_option maxRecDepth 100000

theorem known1_laid_met (os : Os) : laidMetH Tryz.prog Rows.bytesKnownRow.laid ((errWorld8 os).forCall (fun _ _ => 0) ⟨#[], #[], []⟩).memory :=
  laidMetH_of_parts (laidMet_of_run' 8 (by kernel_rfl) (by kernel_rfl)) (by kernel_rfl)
theorem known1_reads (os : Os) {H : Type} (enc : TypeId × Value → H) : ∃ places, DataW.whole enc Tryz.prog ((errWorld8 os).forCall (fun _ _ => 0) ⟨#[], #[], []⟩).memory Tryz.f3.params.toList Rows.bytesKnownSpec.vars false (#[] : Array Value).toList 8 = some ([], [], places) :=
  ⟨[], by kernel_rfl⟩

theorem known1_lifted (os : Os) (started : os.Started) (H : Type) (enc : TypeId × Value → H) (F : Stop.Interp) :
    ReturnsInHanded {} Tryz.checked os 3 .any ((OpenSpec.ofChange Rows.bytesKnownSpec).preRow enc Tryz.prog Tryz.f3 Rows.bytesKnownRow.domain false Rows.bytesKnownRow.laid) (((OpenSpec.ofChange Rows.bytesKnownSpec).at F).post enc Tryz.prog Tryz.f3 false true false false) := by
  obtain ⟨places, hx⟩ := known1_reads os enc
  refine returnsInHanded_of_row (C := Tryz.checked) (s := OpenSpec.ofChange Rows.bytesKnownSpec) Tryz.ownKnob started (by kernel_rfl) Tryz.func3
    (witness_row_atRef (enc := enc) (C := Tryz.checked) false (errWorld8 os) #[] rfl (by kernel_rfl) (by kernel_rfl) (by kernel_rfl)
      (OpenSpec.preRow_of_cond 8 hx (by kernel_rfl) (fun k hk => by cases hk) (by kernel_rfl) (known1_laid_met os))) ?_
  intro W base args ds gs before _ hW _ _ _ hL hsh _
  exact known_contract H enc W args ds gs before hW hL hsh

theorem known1_said : Rows.BytesKnownSaid :=
  OpenClaim.holds_of_cond 3 Tryz.f3 rfl rfl rfl rfl rfl rfl rfl ⟨rfl, rfl, rfl, rfl, rfl⟩ rfl rfl rfl rfl rfl (by kernel_rfl) Tryz.func3 (by kernel_rfl)
    (of_decide_eq_true (by kernel_rfl)) (by unfold Func.isWrapper; first | (rw [if_pos (by decide +kernel)]; kernel_rfl) | (rw [if_neg (by decide +kernel)]; exact ⟨rfl, rfl⟩))
    (fun os started H enc _ F => by rw [OpenClaim.pre_eq_preRow]; exact known1_lifted os started H enc F)

/-- THE FIRST FORM's CARD. -/
theorem known1_card : Rows.BytesKnownCardSaid :=
  Claim7.holds_tied_plain_at .later [] _ _ _ _ known1_said (fun _ h => by cases h) (by kernel_rfl) (fun _ h => by cases h) bytesKnown_row_tie rfl ⟨rfl, rfl⟩ (by kernel_rfl) rfl known_plain (by kernel_rfl)
#print axioms known1_card
end Go.Proofs.YtikolmpgnpkdbaaGreatDoor

