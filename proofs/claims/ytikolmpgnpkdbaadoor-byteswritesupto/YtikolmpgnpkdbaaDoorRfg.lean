import Derived.Test.YtikolmpgnpkdbaaDoorRff
namespace Go.Proofs.YtikolmpgnpkdbaaDoor
open Go.RowKit

/-- What the ref's Write tells of the calls that are left: the bytes, and the fault. -/
def writeM : List Pt → ByteArray → List Nat → List Nat × ByteArray × Nat × Int
  | [], _, b => (b, ⟨#[]⟩, 0, 0)
  | p :: r, nm, b => if p.k = 10 then writeM r p.s b else if wrongN p = 0 then writeM r nm (b ++ lz p) else ([], nm, b.length, wrongN p)
theorem lz_len (p : Pt) : (lz p).length ≤ 12 + p.s.size := by
  unfold lz
  repeat' split
  all_goals simp [be_length, bytesOf_length]
  all_goals omega

theorem weight_snoc (l : List Pt) (k : Nat) (h : k < l.length) : weight (l.take (k + 1)) = weight (l.take k) + (12 + l[k].s.size) := by
  rw [List.take_add_one, List.getElem?_eq_getElem h, Option.toList_some]
  simp only [weight, List.map_append, List.sum_append, List.map_cons, List.map_nil, List.sum_cons, List.sum_nil, Nat.add_zero]

theorem box_set {wr : World} {g : Nat} {a0 a1 a2 o0 o1 o2 : Value} (r0 : wr.cell? ⟨g, 0, none⟩ = some o0) (r1 : wr.cell? ⟨g, 1, none⟩ = some o1) (r2 : wr.cell? ⟨g, 2, none⟩ = some o2) :
    (((wr.setCell ⟨g, 0, none⟩ a0).setCell ⟨g, 1, none⟩ a1).setCell ⟨g, 2, none⟩ a2).cell? ⟨g, 0, none⟩ = some a0 ∧ (((wr.setCell ⟨g, 0, none⟩ a0).setCell ⟨g, 1, none⟩ a1).setCell ⟨g, 2, none⟩ a2).cell? ⟨g, 1, none⟩ = some a1 ∧
      (((wr.setCell ⟨g, 0, none⟩ a0).setCell ⟨g, 1, none⟩ a1).setCell ⟨g, 2, none⟩ a2).cell? ⟨g, 2, none⟩ = some a2 ∧ Fr (fun k => k = g) wr (((wr.setCell ⟨g, 0, none⟩ a0).setCell ⟨g, 1, none⟩ a1).setCell ⟨g, 2, none⟩ a2) := by
  have ne : ∀ i j : Nat, i ≠ j → (⟨g, i, none⟩ : Addr) ≠ ⟨g, j, none⟩ := fun i j h e => by injection e with _ h2 _; exact h h2
  refine ⟨?_, ?_, ?_, ?_⟩
  · rw [World.cell?_setCell_other _ _ _ _ (ne 2 0 (by decide)), World.cell?_setCell_other _ _ _ _ (ne 1 0 (by decide)), World.cell?_setCell_same _ _ _ r0]
  · rw [World.cell?_setCell_other _ _ _ _ (ne 2 1 (by decide)), World.cell?_setCell_same _ _ _ ((World.cell?_setCell_other _ _ _ _ (ne 0 1 (by decide))).trans r1)]
  · rw [World.cell?_setCell_same _ _ _ ((World.cell?_setCell_other _ _ _ _ (ne 1 2 (by decide))).trans ((World.cell?_setCell_other _ _ _ _ (ne 0 2 (by decide))).trans r2))]
  · exact Fr.setCell (S := fun k => k = g) (Fr.setCell (S := fun k => k = g) (Fr.setCell (S := fun k => k = g) (Fr.refl _ _) (.inl rfl) _) (.inl rfl) _) (.inl rfl) _

set_option maxRecDepth 1000000 in
set_option maxHeartbeats 2000000 in
theorem gwrite_any (x : Value) (L : List Pt) (w : World) (hx : PSrc w x L) (hL : L.length ≤ 16777216) (hk : ∀ p ∈ L, p.k ∈ kinds ∧ p.ok) (hwt : weight L ≤ 16777216) :
    Calls Tryd.prog 27 #[x] w fun e w' => ∃ v, e = .returned (.tuple #[v, .agg #[.string (writeM L ⟨#[]⟩ []).2.1, .int .i64 (writeM L ⟨#[]⟩ []).2.2.1, .int .i64 (writeM L ⟨#[]⟩ []).2.2.2]]) ∧ Src w' v (writeM L ⟨#[]⟩ []).1 ∧ Fr (fun _ => False) w w' := by
  obtain ⟨xo, xc, rfl⟩ := hx.form
  have HX := hide (And.intro hx hk)
  clear hx hk
  go_enter Tryd.func27, Tryd.ntmps27
  go_wp2_with fail
  generalize hwB : w.alloc (.cells #[.string ⟨#[]⟩, .int .i64 0, .int .i64 0] 55) = wB
  have hwBs : wB.heap.size = w.heap.size + 1 := by rw [← hwB]; simp
  have hFB : Fr (fun _ => False) w wB := by rw [← hwB]; exact box1 w _
  have k0 : wB.cell? ⟨w.heap.size, 0, none⟩ = some (.string ⟨#[]⟩) := by rw [← hwB]; simp
  have k1 : wB.cell? ⟨w.heap.size, 1, none⟩ = some (.int .i64 0) := by rw [← hwB]; simp
  have k2 : wB.cell? ⟨w.heap.size, 2, none⟩ = some (.int .i64 0) := by rw [← hwB]; simp
  have kz : ∀ i, wB.frozen? ⟨w.heap.size, i, none⟩ = false := fun i => by rw [← hwB]; simp
  have HB := hide (And.intro hFB (And.intro k0 (And.intro k1 (And.intro k2 kz))))
  clear hwB hFB k0 k1 k2 kz
  go_loopw [4, 5, 6] (fun bv nv i wr => ∃ (k : Nat) (nm : ByteArray) (b : List Nat), k ≤ L.length ∧ i = .int .i64 k ∧ nv = .string nm ∧ writeM L ⟨#[]⟩ [] = writeM (L.drop k) nm b ∧ b.length ≤ weight (L.take k) ∧ wr.ownsRow (w.heap.size + 1) 5 1 bv b.length (cellsOf b) ∧ Fr (fun _ => False) wB wr) (fun _ _ i _ => L.length - (intOf i).toNat)
  case atStart => exact ⟨0, ⟨#[]⟩, [], Nat.zero_le _, rfl, rfl, rfl, Nat.zero_le _, World.ownsRow_nil _ _ _ _, Fr.refl _ _⟩
  case round =>
    obtain ⟨k, nm, b, hk, rfl, rfl, hM, hbl, ho, hf⟩ := hrel
    rename World => wr
    have hfw := (unhide HB).1.trans hf (fun _ _ h => h)
    have r0 := (hf.cell (p := ⟨w.heap.size, 0, none⟩) (by show w.heap.size < wB.heap.size; omega) (fun h => h)).trans (unhide HB).2.1
    have r1 := (hf.cell (p := ⟨w.heap.size, 1, none⟩) (by show w.heap.size < wB.heap.size; omega) (fun h => h)).trans (unhide HB).2.2.1
    have r2 := (hf.cell (p := ⟨w.heap.size, 2, none⟩) (by show w.heap.size < wB.heap.size; omega) (fun h => h)).trans (unhide HB).2.2.2.1
    have rz : ∀ i, wr.frozen? ⟨w.heap.size, i, none⟩ = false := fun i => (hf.frozen (p := ⟨w.heap.size, i, none⟩) (by show w.heap.size < wB.heap.size; omega) (fun h => h)).trans ((unhide HB).2.2.2.2 i)
    obtain ⟨ao, ac, rfl⟩ := own_form ho
    have HI := hide (And.intro hM (And.intro ho (And.intro hf hfw)))
    by_cases hlt : k < L.length
    · obtain ⟨g, o, rfl, c0, c1, c2, c3, c4⟩ := (unhide HX).1.at_ hfw k hlt
      have hmem := (unhide HX).2 L[k] (List.getElem_mem _)
      have hd : L.drop k = L[k] :: L.drop (k + 1) := List.drop_eq_getElem_cons hlt
      have hws := weight_snoc L k hlt
      have hwm := weight_mem (List.getElem_mem hlt)
      have hlz := lz_len L[k]
      have htk := weight_take L (k + 1)
      generalize L[k] = P at *
      rw [hd] at hM
      have HM := hide (And.intro hM hmem)
      clear hM hd
      by_cases h10 : P.k = 10
      · have b10 : (P.k == 10) = true := by simp [h10]
        have HM2 : Hid (writeM L ⟨#[]⟩ [] = writeM (L.drop (k + 1)) P.s b) := hide ((unhide HM).1.trans (by rw [writeM, if_pos h10]))
        clear ho hf hfw
        go_wp2_with fail
        refine ⟨⟨k + 1, P.s, b, by omega, by go_num, rfl, unhide HM2, by omega, (unhide HI).2.1, (unhide HI).2.2.1⟩, by simp [intOf]; omega⟩
      · have b10 : (P.k == 10) = false := by simp [h10]
        clear ho hf hfw
        go_wp2_with fail
        refine (gwrong_any P wr (unhide HM).2.1 (unhide HM).2.2.1).mono ?_
        rintro e w4 ⟨rfl, hf4⟩
        have fc : ∀ {p : Addr} {v : Value}, wr.cell? p = some v → w4.cell? p = some v := fun h => (hf4.cell (lt_of_cell h) (fun h => h)).trans h
        have d0 := fc c0
        have d1 := fc c1
        have d2 := fc c2
        have d3 := fc c3
        have d4 := fc c4
        have s0 := fc r0
        have s1 := fc r1
        have s2 := fc r2
        have hws2 : w.heap.size < wr.heap.size := lt_of_cell r0
        have sz : ∀ i, w4.frozen? ⟨w.heap.size, i, none⟩ = false := fun i => (hf4.frozen (p := ⟨w.heap.size, i, none⟩) hws2 (fun h => h)).trans (rz i)
        have z0 := sz 0
        have z1 := sz 1
        have z2 := sz 2
        have ho4 := ownsRow_of_block (unhide HI).2.1 (fun g hg => hf4.block g ((unhide HI).2.1.lt g hg).2 (fun h => h))
        have hB4 := (unhide HI).2.2.1.trans hf4 (fun _ _ h => h)
        have hW4 := (unhide HI).2.2.2.trans hf4 (fun _ _ h => h)
        have H4 := hide (And.intro ho4 (And.intro hB4 hW4))
        clear c0 c1 c2 c3 c4 r0 r1 r2 rz fc ho4 hB4 hW4 hf4 sz
        by_cases hw0 : wrongN P = 0
        · rw [hw0]
          have HM2 : Hid (writeM L ⟨#[]⟩ [] = writeM (L.drop (k + 1)) nm (b ++ lz P)) := hide ((unhide HM).1.trans (by rw [writeM, if_neg h10, if_pos hw0]))
          go_wp2_with fail
          refine (glaid_any P w4 (unhide HM).2.1 h10 (unhide HM).2.2.1 (unhide HM).2.2.2.1 (by omega) hw0).mono ?_
          rintro e w5 ⟨v, rfl, hsv, hf5⟩
          have ho5 := ownsRow_of_block (unhide H4).1 (fun g hg => hf5.block g ((unhide H4).1.lt g hg).2 (fun h => h))
          have hB5 := (unhide H4).2.1.trans hf5 (fun _ _ h => h)
          have sB5 := hB5.size
          obtain ⟨ao2, c2', w6, hr6, hown6, hgrow6, hat6⟩ := run_app_sl w5 25 (w.heap.size + 1) b.length _ v _ (lz P) ho5 hsv (by omega) (by omega)
          have hB6 : Fr (fun _ => False) wB w6 := hB5.grown hgrow6 (fun g hg => .inr (by have := (ho5.lt g hg).1; omega))
          have HR := hide hr6
          have H6 := hide (And.intro (And.intro hown6 hB6) (unhide HM2))
          clear hr6 hown6 hgrow6 hat6 hB6 hB5 ho5 hsv hf5
          go_wp2_with (at_builtin; refine wpList_app rfl (.tmp 37) (.tmp 42) 25 25 rfl _ _ _ rfl rfl (unhide HR) ?_)
          go_roundw
          case rel => exact ⟨k + 1, nm, b ++ lz P, by omega, by go_num, rfl, (unhide H6).2, by rw [List.length_append]; omega, by rw [List.length_append, cellsOf_append]; exact (unhide H6).1.1, (unhide H6).1.2⟩
          case measure => simp [intOf]; omega
        · have bw : (wrongN P != 0) = true := by rw [bne_iff_ne]; exact hw0
          have HM2 : Hid (writeM L ⟨#[]⟩ [] = ([], nm, b.length, wrongN P)) := hide ((unhide HM).1.trans (by rw [writeM, if_neg h10, if_neg hw0]))
          go_wp2_with fail
          obtain ⟨q0, q1, q2, qf⟩ := box_set (a0 := .string nm) (a1 := .int .i64 b.length) (a2 := .int .i64 (wrongN P)) s0 s1 s2
          have HQ := hide qf
          clear qf
          generalize ((w4.setCell ⟨w.heap.size, 0, none⟩ (.string nm)).setCell ⟨w.heap.size, 1, none⟩ (.int .i64 b.length)).setCell ⟨w.heap.size, 2, none⟩ (.int .i64 (wrongN P)) = w5 at *
          refine bodyPost_ret (v := .tuple #[.slice none 0 0, .agg #[.string nm, .int .i64 b.length, .int .i64 (wrongN P)]]) (by simp [results, Tryd.results27, go_sem, q0, q1, q2]) rfl ⟨.slice none 0 0, ?_, ?_, ?_⟩
          · rw [unhide HM2]
          · rw [unhide HM2]; exact .inl ⟨rfl, rfl⟩
          · exact (unhide H4).2.2.trans (unhide HQ) (fun i hi h => by have h' : i = w.heap.size := h; omega)
    · have hkn : L.drop k = [] := List.drop_of_length_le (by omega)
      rw [hkn] at hM
      clear hkn HI
      have HE := hide (And.intro hM (And.intro ho hfw))
      clear hM ho hfw hf
      go_wp2_with fail
      obtain ⟨q0, q1, q2, qf⟩ := box_set (a0 := .string ⟨#[]⟩) (a1 := .int .i64 0) (a2 := .int .i64 0) r0 r1 r2
      have e1 : writeM [] nm b = (b, ⟨#[]⟩, 0, 0) := rfl
      have HQ := hide qf
      clear qf
      generalize ((wr.setCell ⟨w.heap.size, 0, none⟩ (.string ⟨#[]⟩)).setCell ⟨w.heap.size, 1, none⟩ (.int .i64 0)).setCell ⟨w.heap.size, 2, none⟩ (.int .i64 0) = w5 at *
      refine bodyPost_ret (v := .tuple #[.slice ao b.length ac, .agg #[.string ⟨#[]⟩, .int .i64 0, .int .i64 0]]) (by simp [results, Tryd.results27, go_sem, q0, q1, q2]) rfl ⟨.slice ao b.length ac, ?_, ?_, ?_⟩
      · rw [(unhide HE).1, e1]; rfl
      · rw [(unhide HE).1, e1]
        exact (own_src (unhide HE).2.1).fr (unhide HQ) (fun g o m c e h => by have h' : g = w.heap.size := h; have := ((unhide HE).2.1.lt g (by rw [e]; rfl)).1; omega)
      · exact (unhide HE).2.2.trans (unhide HQ) (fun i hi h => by have h' : i = w.heap.size := h; omega)
end Go.Proofs.YtikolmpgnpkdbaaDoor
