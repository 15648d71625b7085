import Derived.Test.YthccbfgjekdiiaaDoorPk9
namespace Go.Proofs.YthccbfgjekdiiaaDoor
open Go.RowKit

set_option maxRecDepth 100000 in
set_option maxHeartbeats 1000000 in
/-- A proof without the root of the part where SUB ends. -/
theorem ofProof_no (wi m n : Nat) (h0 : 0 < m) (hm : m ≤ n) (hn : n < 9223372036854775808) (he : ¬ (endF 0 n m).1 = 0) (ro : Option Addr) (rn rc : Nat) (xo : Option Addr) (xc : Nat) (w : World) :
    Calls Tryd.prog 30 #[.int .i64 wi, .int .i64 m, .int .i64 n, .slice ro rn rc, .slice xo 0 xc] w fun e w' => e = .returned (.tuple #[cv 0 0 0 (.slice none 0 0) (.slice none 0 0), .bool false]) ∧ Fr (fun _ => False) w w' := by
  have hend := fun w' => end_any n 0 n m w' (Nat.le_refl _) (by omega) h0 (by omega)
  unfold EndSays at hend
  generalize (endF 0 n m).2 = EN at *
  generalize (endF 0 n m).1 = E1 at *
  have q1 : ((E1 : Int) == 0) = false := beq_false_of_ne (by omega)
  have q2 := he
  have HE := hide hend
  clear hend he h0 hm hn
  unfold sv cv at *
  have e0 : ((0 : Nat) : Int) = 0 := rfl
  simp only [e0] at HE ⊢
  clear e0
  go_enter Tryd.func30, Tryd.ntmps30
  go_wp2_with fail
  obtain ⟨W0, hW0⟩ : ∃ W0, w.alloc (.cells #[.int .i64 0, .int .i64 0, .int .i64 0, .slice none 0 0, .slice none 0 0] 59) = W0 := ⟨_, rfl⟩
  rw [hW0]
  obtain ⟨⟨a0, a1, a2, a3, a4⟩, hz, hF0⟩ := nil5 w W0 hW0
  refine ((unhide HE) _).mono ?_
  rintro e w1 ⟨rfl, hF⟩
  have c0 := (hF.cell (lt_of_cell a0) (fun h => h)).trans a0
  have c1 := (hF.cell (lt_of_cell a1) (fun h => h)).trans a1
  have c2 := (hF.cell (lt_of_cell a2) (fun h => h)).trans a2
  have c3 := (hF.cell (lt_of_cell a3) (fun h => h)).trans a3
  have c4 := (hF.cell (lt_of_cell a4) (fun h => h)).trans a4
  have y0 := (hF.frozen (p := ⟨w.heap.size, 0, none⟩) (lt_of_cell a0) (fun h => h)).trans (hz 0 (by decide))
  have y1 := (hF.frozen (p := ⟨w.heap.size, 1, none⟩) (lt_of_cell a1) (fun h => h)).trans (hz 1 (by decide))
  have y2 := (hF.frozen (p := ⟨w.heap.size, 2, none⟩) (lt_of_cell a2) (fun h => h)).trans (hz 2 (by decide))
  have y3 := (hF.frozen (p := ⟨w.heap.size, 3, none⟩) (lt_of_cell a3) (fun h => h)).trans (hz 3 (by decide))
  have y4 := (hF.frozen (p := ⟨w.heap.size, 4, none⟩) (lt_of_cell a4) (fun h => h)).trans (hz 4 (by decide))
  have HF := hide (hF0.trans hF (fun _ _ h => h))
  have hP : w.heap.size ≤ w.heap.size := Nat.le_refl _
  clear hF hF0 a0 a1 a2 a3 a4 hz hW0
  generalize hPe : w.heap.size = P at *
  have HP := hide hPe
  clear hPe
  have l0 : P < w1.heap.size := lt_of_cell c0
  have l1 : P < w1.heap.size + 1 := Nat.lt_succ_of_lt l0
  go_wp2_with fail
  obtain ⟨W2, hW2⟩ : ∃ W2, ((((w1.setCell ⟨P, 0, none⟩ (.int .i64 0)).setCell ⟨P, 1, none⟩ (.int .i64 0)).setCell ⟨P, 2, none⟩ (.int .i64 0)).setCell ⟨P, 3, none⟩ (.slice none 0 0)).setCell ⟨P, 4, none⟩ (.slice none 0 0) = W2 := ⟨_, rfl⟩
  obtain ⟨k0, k1, k2, k3, k4⟩ := set5 w1 P _ _ _ _ _ (fun j hj => by
    match j, hj with
    | 0, _ => rw [c0]; rfl
    | 1, _ => rw [c1]; rfl
    | 2, _ => rw [c2]; rfl
    | 3, _ => rw [c3]; rfl
    | 4, _ => rw [c4]; rfl) W2 hW2
  have hPw : w.heap.size ≤ P := Nat.le_of_eq (unhide HP)
  have hF2 : Fr (fun _ => False) w W2 := by
    rw [← hW2]
    exact (((((unhide HF).setCell (p := ⟨P, 0, none⟩) (.inr hPw) _).setCell (p := ⟨P, 1, none⟩) (.inr hPw) _).setCell (p := ⟨P, 2, none⟩) (.inr hPw) _).setCell (p := ⟨P, 3, none⟩) (.inr hPw) _).setCell (p := ⟨P, 4, none⟩) (.inr hPw) _
  rw [hW2]
  obtain ⟨W3, hW3⟩ : ∃ W3, W2.alloc (.cells #[.int .i64 (E1 : Int), .int .i64 (EN : Int)] 57) = W3 := ⟨_, rfl⟩
  have hF3 : Fr (fun _ => False) W2 W3 := by rw [← hW3]; exact (Fr.refl _ _).alloc _
  rw [hW3]
  have j0 := (hF3.cell (lt_of_cell k0) (fun h => h)).trans k0
  have j1 := (hF3.cell (lt_of_cell k1) (fun h => h)).trans k1
  have j2 := (hF3.cell (lt_of_cell k2) (fun h => h)).trans k2
  have j3 := (hF3.cell (lt_of_cell k3) (fun h => h)).trans k3
  have j4 := (hF3.cell (lt_of_cell k4) (fun h => h)).trans k4
  refine bodyPost_ret (by simp [results, Tryd.results30, go_sem, j0, j1, j2, j3, j4]; try rfl) rfl ?_
  exact ⟨rfl, hF2.trans hF3 (fun _ _ h => h)⟩
end Go.Proofs.YthccbfgjekdiiaaDoor

namespace Go.Proofs.YthccbfgjekdiiaaDoor
open Go.RowKit

set_option maxRecDepth 100000 in
set_option maxHeartbeats 2000000 in
/-- What a proof says, its first hash the root of the part where SUB ends. -/
theorem ofProof_r (wi m n : Nat) (h0 : 0 < m) (hm : m ≤ n) (hn : n < 9223372036854775808) (he : ¬ (endF 0 n m).1 = 0) (ro : Option Addr) (rn rc : Nat) (g o xn xc : Nat) (vo : Option Addr) (vn vc : Nat) (w : World) (hc : w.cell? ⟨g, o, none⟩ = some (.slice vo vn vc)) (hxc : xn + 1 ≤ xc) (hx1 : ¬ xc = 1) :
    Calls Tryd.prog 30 #[.int .i64 wi, .int .i64 m, .int .i64 n, .slice ro rn rc, .slice (some ⟨g, o, none⟩) (xn + 1) xc] w fun e w' => e = .returned (.tuple #[cv wi (endF 0 n m).1 (endF 0 n m).2 (.slice vo vn vc) (.slice (some ⟨g, o + 1, none⟩) xn (xc - 1)), .bool true]) ∧ Fr (fun _ => False) w w' := by
  have hend := fun w' => end_any n 0 n m w' (Nat.le_refl _) (by omega) h0 (by omega)
  unfold EndSays at hend
  generalize (endF 0 n m).2 = EN at *
  generalize (endF 0 n m).1 = E1 at *
  have q1 : ((E1 : Int) == 0) = false := beq_false_of_ne (by omega)
  have q2 := he
  have q3 : (((xn : Int) + 1) == 0) = false := beq_false_of_ne (by omega)
  have q4 : ¬ (xn : Int) + 1 = 0 := by omega
  have q5 : (0 : Int) < (xn : Int) + 1 := by omega
  have q6 : (1 : Int) ≤ (xn : Int) + 1 := by omega
  have q7 : (1 : Int) ≤ (xc : Int) := by omega
  have q8 : (xn : Int) + 1 ≤ (xc : Int) := by omega
  have q9 : ¬ 1 = xc := fun h => hx1 h.symm
  have HE := hide hend
  clear hend he h0 hm hn
  unfold sv cv at *
  have e0 : ((0 : Nat) : Int) = 0 := rfl
  simp only [e0] at HE ⊢
  clear e0
  go_enter Tryd.func30, Tryd.ntmps30
  go_wp2_with fail
  obtain ⟨W0, hW0⟩ : ∃ W0, w.alloc (.cells #[.int .i64 0, .int .i64 0, .int .i64 0, .slice none 0 0, .slice none 0 0] 59) = W0 := ⟨_, rfl⟩
  rw [hW0]
  obtain ⟨⟨a0, a1, a2, a3, a4⟩, hz, hF0⟩ := nil5 w W0 hW0
  refine ((unhide HE) _).mono ?_
  rintro e w1 ⟨rfl, hF⟩
  have hc1 := ((hF0.trans hF (fun _ _ h => h)).cell (lt_of_cell hc) (fun h => h)).trans hc
  have hgl : g < w1.heap.size := lt_of_cell hc1
  have hgl1 : g < w1.heap.size + 1 := Nat.lt_succ_of_lt hgl
  have hgne : ¬ g = w.heap.size := by have := lt_of_cell hc; exact fun h => by simp at this; omega
  clear hc
  have c0 := (hF.cell (lt_of_cell a0) (fun h => h)).trans a0
  have c1 := (hF.cell (lt_of_cell a1) (fun h => h)).trans a1
  have c2 := (hF.cell (lt_of_cell a2) (fun h => h)).trans a2
  have c3 := (hF.cell (lt_of_cell a3) (fun h => h)).trans a3
  have c4 := (hF.cell (lt_of_cell a4) (fun h => h)).trans a4
  have y0 := (hF.frozen (p := ⟨w.heap.size, 0, none⟩) (lt_of_cell a0) (fun h => h)).trans (hz 0 (by decide))
  have y1 := (hF.frozen (p := ⟨w.heap.size, 1, none⟩) (lt_of_cell a1) (fun h => h)).trans (hz 1 (by decide))
  have y2 := (hF.frozen (p := ⟨w.heap.size, 2, none⟩) (lt_of_cell a2) (fun h => h)).trans (hz 2 (by decide))
  have y3 := (hF.frozen (p := ⟨w.heap.size, 3, none⟩) (lt_of_cell a3) (fun h => h)).trans (hz 3 (by decide))
  have y4 := (hF.frozen (p := ⟨w.heap.size, 4, none⟩) (lt_of_cell a4) (fun h => h)).trans (hz 4 (by decide))
  have HF := hide (hF0.trans hF (fun _ _ h => h))
  have hP : w.heap.size ≤ w.heap.size := Nat.le_refl _
  clear hF hF0 a0 a1 a2 a3 a4 hz hW0
  generalize hPe : w.heap.size = P at *
  have HP := hide hPe
  clear hPe
  have l0 : P < w1.heap.size := lt_of_cell c0
  have l1 : P < w1.heap.size + 1 := Nat.lt_succ_of_lt l0
  go_wp2_with fail
  go_region
  go_wp2_with fail
  obtain ⟨W2, hW2⟩ : ∃ W2, ((((w1.setCell ⟨P, 0, none⟩ (.int .i64 (wi : Int))).setCell ⟨P, 1, none⟩ (.int .i64 (E1 : Int))).setCell ⟨P, 2, none⟩ (.int .i64 (EN : Int))).setCell ⟨P, 3, none⟩ (.slice vo vn vc)).setCell ⟨P, 4, none⟩ (.slice (some ⟨g, o + 1, none⟩) xn (xc - 1)) = W2 := ⟨_, rfl⟩
  obtain ⟨k0, k1, k2, k3, k4⟩ := set5 w1 P _ _ _ _ _ (fun j hj => by
    match j, hj with
    | 0, _ => rw [c0]; rfl
    | 1, _ => rw [c1]; rfl
    | 2, _ => rw [c2]; rfl
    | 3, _ => rw [c3]; rfl
    | 4, _ => rw [c4]; rfl) W2 hW2
  have hPw : w.heap.size ≤ P := Nat.le_of_eq (unhide HP)
  have hF2 : Fr (fun _ => False) w W2 := by
    rw [← hW2]
    exact (((((unhide HF).setCell (p := ⟨P, 0, none⟩) (.inr hPw) _).setCell (p := ⟨P, 1, none⟩) (.inr hPw) _).setCell (p := ⟨P, 2, none⟩) (.inr hPw) _).setCell (p := ⟨P, 3, none⟩) (.inr hPw) _).setCell (p := ⟨P, 4, none⟩) (.inr hPw) _
  rw [hW2]
  obtain ⟨W3, hW3⟩ : ∃ W3, (W2.alloc (.cells #[.int .i64 (E1 : Int), .int .i64 (EN : Int)] 57)).drew = W3 := ⟨_, rfl⟩
  have hF3 : Fr (fun _ => False) W2 W3 := by rw [← hW3]; exact ((Fr.refl _ _).alloc _).drew
  rw [hW3]
  have j0 := (hF3.cell (lt_of_cell k0) (fun h => h)).trans k0
  have j1 := (hF3.cell (lt_of_cell k1) (fun h => h)).trans k1
  have j2 := (hF3.cell (lt_of_cell k2) (fun h => h)).trans k2
  have j3 := (hF3.cell (lt_of_cell k3) (fun h => h)).trans k3
  have j4 := (hF3.cell (lt_of_cell k4) (fun h => h)).trans k4
  refine bodyPost_ret (by simp [results, Tryd.results30, go_sem, j0, j1, j2, j3, j4]; try rfl) rfl ?_
  exact ⟨rfl, hF2.trans hF3 (fun _ _ h => h)⟩
end Go.Proofs.YthccbfgjekdiiaaDoor

