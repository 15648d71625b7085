import Derived.Test.YtedmhpplhbaglaaNtp
namespace Go.Proofs.Ytedmhpplhbaglaa
open Go.RowKit Go.ChangeShapes Go.WideShapes Go.Maps

theorem take_cnt (f : PK → Bool) (ps : List PK) (k : Nat) (p : PK) (h : ps[k]? = some p) : (ps.take (k + 1)).countP f = (ps.take k).countP f + (if f p then 1 else 0) := by
  rw [List.take_add_one, h, List.countP_append]
  simp
set_option linter.unusedSimpArgs false in
set_option maxHeartbeats 2000000 in
set_option maxRecDepth 100000 in
/-- Counts. -/
theorem gcounts_any (w0 W : World) (pl : Int) (ao : Option Addr) (c : Nat) (Rs : List RK) (h : RfAt w0 W (.slice ao Rs.length c) Rs) (hl : Rs.length ≤ 1048576) :
    Calls Try.prog 30 #[.agg #[.int .i64 pl, .slice ao Rs.length c]] W fun e w' => e = .returned (.tuple #[.int .i64 (cS (pks Rs) : Nat), .int .i64 (cC (pks Rs) : Nat), .int .i64 (cD (pks Rs) : Nat), .int .i64 (cL (pks Rs) : Nat)]) ∧ Fr (fun _ => False) W w' := by
  have HX := hide h
  clear h
  go_enter Try.func30, Try.ntmps30
  go_wp2_with fail
  go_loopw [6, 7, 8, 9, 10] (fun s cc dd ll i wr => ∃ k : Nat, k ≤ Rs.length ∧ i = .int .i64 k ∧ s = .int .i64 (cS ((pks Rs).take k) : Nat) ∧ cc = .int .i64 (cC ((pks Rs).take k) : Nat) ∧ dd = .int .i64 (cD ((pks Rs).take k) : Nat) ∧ ll = .int .i64 (cL ((pks Rs).take k) : Nat) ∧ wr.cell? ⟨W.heap.size, 1, none⟩ = some (.slice ao Rs.length c) ∧ Fr (fun _ => False) W wr) (fun _ _ _ _ i _ => Rs.length - (intOf i).toNat)
  case atStart => exact ⟨0, Nat.zero_le _, rfl, rfl, rfl, rfl, rfl, World.cell?_alloc_at _ _ _ _ rfl, box1 _ _⟩
  case round =>
    obtain ⟨k, hk, rfl, rfl, rfl, rfl, rfl, hc, hf⟩ := hrel
    rename World => wr
    have HF := hide hf
    clear hf
    by_cases hlt : k < Rs.length
    · have hRw := (unhide HX).fr0 (unhide HF)
      obtain ⟨g, rfl, r0, r1, r2, r3, r4, _⟩ := hRw.at_ (List.getElem?_eq_getElem hlt)
      have hp : (pks Rs)[k]? = some Rs[k].1 := by rw [pks, List.getElem?_map, List.getElem?_eq_getElem hlt]; rfl
      have q1 := take_cnt (fun p => !p.cp) (pks Rs) k _ hp
      have q2 := take_cnt (fun p => p.cp) (pks Rs) k _ hp
      have q3 := take_cnt (fun p => p.gone == 1) (pks Rs) k _ hp
      have q4 := take_cnt (fun p => p.gone == 2) (pks Rs) k _ hp
      have hcap : Rs.length ≤ c := by
        rcases hRw.row.2 with ⟨e, _⟩ | ⟨g', c', cur, e, _, _, hc, _⟩
        · cases e
        · simp only [Value.slice.injEq] at e; omega
      have m1 : cS ((pks Rs).take k) ≤ 1048576 := Nat.le_trans List.countP_le_length (by rw [List.length_take, pks_len]; omega)
      have m2 : cC ((pks Rs).take k) ≤ 1048576 := Nat.le_trans List.countP_le_length (by rw [List.length_take, pks_len]; omega)
      have m3 : cD ((pks Rs).take k) ≤ 1048576 := Nat.le_trans List.countP_le_length (by rw [List.length_take, pks_len]; omega)
      have m4 : cL ((pks Rs).take k) ≤ 1048576 := Nat.le_trans List.countP_le_length (by rw [List.length_take, pks_len]; omega)
      have hgl : g < wr.heap.size := lt_of_cell r0
      have hwl : W.heap.size < wr.heap.size := lt_of_cell hc
      clear hRw hp
      generalize Rs[k].2.1 = xa at *
      generalize Rs[k].2.2 = xc at *
      generalize hG : Rs[k].1.gone = G at *
      generalize hC : Rs[k].1.cp = C at *
      have hcases : (((G : Int) == 1) = true ∧ ((G : Int) == 2) = false ∧ (G == 1) = true ∧ (G == 2) = false) ∨ (((G : Int) == 1) = false ∧ ((G : Int) == 2) = true ∧ (G == 1) = false ∧ (G == 2) = true) ∨ (((G : Int) == 1) = false ∧ ((G : Int) == 2) = false ∧ (G == 1) = false ∧ (G == 2) = false) := by
        by_cases h1 : G = 1
        · subst h1; exact .inl (by decide)
        · by_cases h2 : G = 2
          · subst h2; exact .inr (.inl (by decide))
          · refine .inr (.inr ⟨?_, ?_, ?_, ?_⟩)
            · simp; omega
            · simp; omega
            · simp [h1]
            · simp [h2]
      rcases hcases with ⟨t1, t2, u1, u2⟩ | ⟨t1, t2, u1, u2⟩ | ⟨t1, t2, u1, u2⟩ <;> cases C
      all_goals
        simp only [hG, hC, u1, u2, Bool.not_true, Bool.not_false, if_true, Bool.false_eq_true, if_false, Nat.add_zero] at q1 q2 q3 q4
        have HQ := hide (And.intro q1 (And.intro q2 (And.intro q3 q4)))
        clear q1 q2 q3 q4 u1 u2 hG hC
        go_wp2_with fail
        go_roundw
        case rel =>
          obtain ⟨q1, q2, q3, q4⟩ := unhide HQ
          refine ⟨k + 1, by omega, by go_num, ?_, ?_, ?_, ?_, ?_, (unhide HF).alloc _⟩
          · first | (unfold cS at *; rw [q1]; done) | (unfold cS at *; rw [q1]; simp)
          · first | (unfold cC at *; rw [q2]; done) | (unfold cC at *; rw [q2]; simp)
          · first | (unfold cD at *; rw [q3]; done) | (unfold cD at *; rw [q3]; simp)
          · first | (unfold cL at *; rw [q4]; done) | (unfold cL at *; rw [q4]; simp)
          · exact ((box1 wr _).cell (p := ⟨W.heap.size, 1, none⟩) hwl (fun h => h)).trans hc
        case measure => simp [intOf]; omega
    · obtain rfl : k = Rs.length := by omega
      rw [List.take_of_length_le (by rw [pks_len]; exact Nat.le_refl _)]
      go_wp2_with fail
      (try simp only [Exit.inBlock, Exit.then])
      refine bodyPost_ret (results4 rfl _ _ _) rfl ?_
      exact ⟨rfl, unhide HF⟩
end Go.Proofs.Ytedmhpplhbaglaa
