import Derived.Test.YtfoifojlgojgaaaDlq
namespace Go.Proofs.Ytfoifojlgojgaaa
open Go.RowKit Go.ChangeShapes Go.WideShapes Go.Maps Go.Sort

def sB : ByteArray := ⟨#[98]⟩
def sC : ByteArray := ⟨#[99]⟩
def sE : ByteArray := ⟨#[]⟩
def A5 : FM := ⟨Zr 5, 0, [(1, 5)]⟩
def A5s : FM := ⟨Zr 5, 5, []⟩
def A8 : FM := ⟨Zr 8, 5, [(2, 3)]⟩
def B4 : FM := ⟨Zr 4, 0, [(3, 4)]⟩
def A10 : FM := ⟨Zr 10, 5, [(2, 3), (4, 2)]⟩
def A8s : FM := ⟨Zr 8, 8, []⟩
def B1s : FM := ⟨Zr 1, 1, []⟩
def A9 : FM := ⟨Zr 8 ++ [1], 8, [(6, 1)]⟩
def B4t : FM := ⟨Zr 4, 1, [(7, 3)]⟩
def A9s : FM := ⟨Zr 8 ++ [1], 9, []⟩
def B2s : FM := ⟨Zr 2, 2, []⟩
def B2t : FM := ⟨[128, 0], 2, []⟩
theorem K_crash1 (x y : Nat) : (A10.ps.map (fun p => Own3.mk p.1 p.2 x) ++ B4.ps.map (fun p => Own3.mk p.1 p.2 y)).Perm [⟨2, 3, x⟩, ⟨3, 4, y⟩, ⟨4, 2, x⟩] := by
  show [Own3.mk 2 3 x, Own3.mk 4 2 x, Own3.mk 3 4 y].Perm _
  exact List.Perm.cons _ (List.Perm.swap _ _ _)
theorem K_gain1 (x y : Nat) (h : x ≠ y) : gain [⟨2, 3, x⟩, ⟨3, 4, y⟩, ⟨4, 2, x⟩] 4 x = 3 ∧ gain [⟨2, 3, x⟩, ⟨3, 4, y⟩, ⟨4, 2, x⟩] 4 y = 1 := by
  simp [gain, h, Ne.symm h]
theorem K_crash2 (x y : Nat) : (A9.ps.map (fun p => Own3.mk p.1 p.2 x) ++ B4t.ps.map (fun p => Own3.mk p.1 p.2 y)).Perm [⟨6, 1, x⟩, ⟨7, 3, y⟩] := List.Perm.refl _
theorem K_gain2 (x y : Nat) (h : x ≠ y) : gain [⟨6, 1, x⟩, ⟨7, 3, y⟩] 2 x = 1 ∧ gain [⟨6, 1, x⟩, ⟨7, 3, y⟩] 2 y = 1 := by
  simp [gain, h, Ne.symm h]
theorem names_b (d m u wr fb : Nat) (A B : FM) (q : DW) (O : Nat → Prop) (w : World) (h : DkAt w d m (K2 u wr false false 0 0 (Db fb) A B) q O) :
    Calls Try.prog 26 #[.pointer (some ⟨d, 0, none⟩)] w fun e w' => ∃ g c, e = .returned (.slice (some ⟨g, 0, none⟩) 1 c) ∧ w'.cell? ⟨g, 0, none⟩ = some (.string sB) ∧ Fr (fun _ => False) w w' := by
  refine (names_any d m _ q O w h (show (1 : Nat) ≤ 256 by decide)).mono ?_
  rintro e w' ⟨v, ss, rfl, hp, hown, hf⟩
  have e : strKeys (K2 u wr false false 0 0 (Db fb) A B).D = [[98]] := rfl
  rw [e] at hp
  obtain rfl := List.perm_singleton.1 hp
  rw [List.mergeSort_singleton] at hown
  rcases hown.2 with ⟨_, e0⟩ | ⟨g, c, cur, rfl, hg, hb, hc, _⟩
  · simp at e0
  · exact ⟨g, c, rfl, (hown.cellAt 0 (by decide)).trans rfl, hf⟩
theorem K_gone (u wr fa fb : Nat) (A B : FM) : { (K2 u wr false false 0 0 (Dab fa fb) A B).short [97] 0 with D := (K2 u wr false false 0 0 (Dab fa fb) A B).D.del (.string [97]) } = K2 (u - A.b.length) wr false false 0 0 (Db fb) (A.cut 0) B := by
  simp only [DM.short, K2]
  congr 1
  exact KF_a A B _
set_option maxHeartbeats 4000000 in
set_option maxRecDepth 100000 in
/-- DiskKnown. -/
theorem dknown_any (w : World) : Calls Try.prog 3 #[] w fun e w' => e = .returned (.bool true) ∧ Fr (fun _ => False) w w' := by
  have hmk : ∀ n : Nat, n ≤ 1000 → ∀ W : World, (Instr.makeSlice 28 (.int .i64 (n : Int)) (.int .i64 (n : Int))).run Try.prog W = .ok (.slice (some ⟨W.heap.size, 0, none⟩) n n) (W.alloc (.cells (madeCells #[.int .u8 0] n) 5)) := fun n hn W => make_n n W (by omega)
  have hm2 : ∀ W : World, (Instr.makeSlice 28 (.int .i64 2) (.int .i64 2)).run Try.prog W = .ok (.slice (some ⟨W.heap.size, 0, none⟩) 2 2) (W.alloc (.cells (madeCells #[.int .u8 0] 2) 5)) := hmk 2 (by decide)
  have hm3 : ∀ W : World, (Instr.makeSlice 28 (.int .i64 3) (.int .i64 3)).run Try.prog W = .ok (.slice (some ⟨W.heap.size, 0, none⟩) 3 3) (W.alloc (.cells (madeCells #[.int .u8 0] 3) 5)) := hmk 3 (by decide)
  have hm4 : ∀ W : World, (Instr.makeSlice 28 (.int .i64 4) (.int .i64 4)).run Try.prog W = .ok (.slice (some ⟨W.heap.size, 0, none⟩) 4 4) (W.alloc (.cells (madeCells #[.int .u8 0] 4) 5)) := hmk 4 (by decide)
  have hm5 : ∀ W : World, (Instr.makeSlice 28 (.int .i64 5) (.int .i64 5)).run Try.prog W = .ok (.slice (some ⟨W.heap.size, 0, none⟩) 5 5) (W.alloc (.cells (madeCells #[.int .u8 0] 5) 5)) := hmk 5 (by decide)
  have hm7 : ∀ W : World, (Instr.makeSlice 28 (.int .i64 7) (.int .i64 7)).run Try.prog W = .ok (.slice (some ⟨W.heap.size, 0, none⟩) 7 7) (W.alloc (.cells (madeCells #[.int .u8 0] 7) 5)) := hmk 7 (by decide)
  clear hmk
  go_enter Try.func3, Try.ntmps3
  go_wp2_with fail
  refine (new_no 0 w (of_decide_eq_true rfl)).mono ?_
  rintro e w1 ⟨rfl, hw⟩
  obtain rfl := hw.symm
  go_wp2_with fail
  refine (new_any 20 w (of_decide_eq_true rfl) (of_decide_eq_true rfl)).mono ?_
  rintro e w2 ⟨d, m, q, O, rfl, hD, hf, hO⟩
  rw [K_new] at hD
  have H := hide (DS.mk hD hf hO)
  clear hD hf hO
  go_wp2_with fail
  refine (awake8 _).mono ?_
  rintro e w3 ⟨rfl, hf⟩
  replace H := hide ((unhide H).quiet hf)
  clear hf
  go_wp2_with fail
  have hbx := box1 w3 (.cells #[.int .u8 1] 5)
  replace H := hide ((unhide H).quiet hbx)
  clear hbx
  refine (append_no d m _ q O sA 15 _ _ (unhide H).D (of_decide_eq_true rfl) (.inr ⟨rfl, rfl, rfl⟩)).mono ?_
  rintro e w4 ⟨rfl, rfl⟩
  go_wp2_with fail
  refine (create_bad d m _ q O sE _ (unhide H).D rfl (of_decide_eq_true rfl)).mono ?_
  rintro e w5 ⟨rfl, hf⟩
  replace H := hide ((unhide H).quiet hf)
  clear hf
  go_wp2_with fail
  refine (create_ok d m _ q O sA _ (unhide H).D rfl (of_decide_eq_true rfl) (of_decide_eq_true rfl) rfl (of_decide_eq_true rfl)).mono ?_
  rintro e w6 ⟨rfl, fa, q1, O1, hD, hf, hO⟩
  rw [show nm sA = [97] from rfl, K_made_a] at hD
  replace H := hide ((unhide H).step hD hf hO)
  clear hD hf hO
  go_wp2_with fail
  refine (create_twice d m _ q1 O1 sA _ (unhide H).D rfl (of_decide_eq_true rfl) (of_decide_eq_true rfl) rfl).mono ?_
  rintro e w7 ⟨rfl, hf⟩
  replace H := hide ((unhide H).quiet hf)
  clear hf
  go_wp2_with fail
  refine ((unhide H).zeros sA 5 rfl (of_decide_eq_true rfl) rfl rfl (of_decide_eq_true rfl) (of_decide_eq_true rfl) (of_decide_eq_true rfl) (of_decide_eq_true rfl) (of_decide_eq_true rfl) (of_decide_eq_true rfl) (of_decide_eq_true rfl) (of_decide_eq_true rfl) (of_decide_eq_true rfl)).mono ?_
  rintro e w8 ⟨rfl, q2, O2, hS⟩
  rw [show nm sA = [97] from rfl, K_app_a] at hS
  replace H : Hid (DS w w8 d m (K2 5 1 false false 0 0 (Da fa) A5 f0) q2 O2) := hide hS
  clear hS
  rw [show ∀ u wr full tear D A B n, ((K2 u wr false full 0 tear D A B).count n).1.code = 0 from fun _ _ _ _ _ _ _ _ => rfl]
  go_wp2_with fail
  refine (sync_at d m _ q2 O2 sA _ (unhide H).D rfl (of_decide_eq_true rfl) rfl).mono ?_
  rintro e w9 ⟨rfl, q3, O3, hD, hf, hO⟩
  rw [show nm sA = [97] from rfl, K_syn_a] at hD
  replace H : Hid (DS w w9 d m (K2 5 1 false false 0 0 (Da fa) A5s f0) q3 O3) := hide ((unhide H).step hD hf hO)
  clear hD hf hO
  go_wp2_with fail
  refine ((unhide H).zeros sA 3 rfl (of_decide_eq_true rfl) rfl rfl (of_decide_eq_true rfl) (of_decide_eq_true rfl) (of_decide_eq_true rfl) (of_decide_eq_true rfl) (of_decide_eq_true rfl) (of_decide_eq_true rfl) (of_decide_eq_true rfl) (of_decide_eq_true rfl) (of_decide_eq_true rfl)).mono ?_
  rintro e w10 ⟨rfl, q4, O4, hS⟩
  rw [show nm sA = [97] from rfl, K_app_a] at hS
  replace H : Hid (DS w w10 d m (K2 8 2 false false 0 0 (Da fa) A8 f0) q4 O4) := hide hS
  clear hS
  rw [show ∀ u wr full tear D A B n, ((K2 u wr false full 0 tear D A B).count n).1.code = 0 from fun _ _ _ _ _ _ _ _ => rfl]
  go_wp2_with fail
  refine (create_ok d m _ q4 O4 sB _ (unhide H).D rfl (of_decide_eq_true rfl) (of_decide_eq_true rfl) rfl (of_decide_eq_true rfl)).mono ?_
  rintro e w11 ⟨rfl, fb, q5, O5, hD, hf, hO⟩
  rw [show nm sB = [98] from rfl, K_made_b] at hD
  replace H : Hid (DS w w11 d m (K2 8 2 false false 0 0 (Dab fa fb) A8 f0) q5 O5) := hide ((unhide H).step hD hf hO)
  clear hD hf hO
  go_wp2_with fail
  refine ((unhide H).zeros sB 4 rfl (of_decide_eq_true rfl) rfl rfl (of_decide_eq_true rfl) (of_decide_eq_true rfl) (of_decide_eq_true rfl) (of_decide_eq_true rfl) (of_decide_eq_true rfl) (of_decide_eq_true rfl) (of_decide_eq_true rfl) (of_decide_eq_true rfl) (of_decide_eq_true rfl)).mono ?_
  rintro e w12 ⟨rfl, q6, O6, hS⟩
  rw [show nm sB = [98] from rfl, K_app_b] at hS
  replace H : Hid (DS w w12 d m (K2 12 3 false false 0 0 (Dab fa fb) A8 B4) q6 O6) := hide hS
  clear hS
  rw [show ∀ u wr full tear D A B n, ((K2 u wr false full 0 tear D A B).count n).1.code = 0 from fun _ _ _ _ _ _ _ _ => rfl]
  go_wp2_with fail
  refine ((unhide H).zeros sA 2 rfl (of_decide_eq_true rfl) rfl rfl (of_decide_eq_true rfl) (of_decide_eq_true rfl) (of_decide_eq_true rfl) (of_decide_eq_true rfl) (of_decide_eq_true rfl) (of_decide_eq_true rfl) (of_decide_eq_true rfl) (of_decide_eq_true rfl) (of_decide_eq_true rfl)).mono ?_
  rintro e w13 ⟨rfl, q7, O7, hS⟩
  rw [show nm sA = [97] from rfl, K_app_a] at hS
  replace H : Hid (DS w w13 d m (K2 14 4 false false 0 0 (Dab fa fb) A10 B4) q7 O7) := hide hS
  clear hS
  rw [show ∀ u wr full tear D A B n, ((K2 u wr false full 0 tear D A B).count n).1.code = 0 from fun _ _ _ _ _ _ _ _ => rfl]
  go_wp2_with fail
  refine (size_at d m _ q7 O7 sA _ (unhide H).D rfl (of_decide_eq_true rfl) rfl).mono ?_
  rintro e w14 ⟨rfl, rfl⟩
  rw [show (((K2 14 4 false false 0 0 (Dab fa fb) A10 B4).F (nm sA)).b.length : Int) = 10 from rfl]
  go_wp2_with fail
  refine (synced_at d m _ q7 O7 sA _ (unhide H).D rfl (of_decide_eq_true rfl) rfl).mono ?_
  rintro e w15 ⟨rfl, rfl⟩
  rw [show (((K2 14 4 false false 0 0 (Dab fa fb) A10 B4).F (nm sA)).safe : Int) = 5 from rfl]
  go_wp2_with fail
  refine (used_any d m _ q7 O7 _ (unhide H).D).mono ?_
  rintro e w16 ⟨rfl, rfl⟩
  rw [show ((K2 14 4 false false 0 0 (Dab fa fb) A10 B4).used : Int) = 14 from rfl]
  go_wp2_with fail
  refine ((unhide H).pend2 (of_decide_eq_true rfl) (of_decide_eq_true rfl)).mono ?_
  rintro e w17 ⟨rfl, hS⟩
  replace H := hide hS
  clear hS
  rw [show (((A10.b.length - A10.safe) + (B4.b.length - B4.safe) : Nat) : Int) = 9 from rfl]
  go_wp2_with fail
  refine (writes_any d m _ q7 O7 _ (unhide H).D).mono ?_
  rintro e w18 ⟨rfl, rfl⟩
  rw [show ((K2 14 4 false false 0 0 (Dab fa fb) A10 B4).writes : Int) = 4 from rfl]
  go_wp2_with fail
  replace H := hide ((unhide H).quiet (box1 _ (.cells (madeCells #[.int .u8 0] 7) 5)))
  refine (append_full d m _ q7 O7 sB _ _ _ _ (unhide H).D rfl (of_decide_eq_true rfl) rfl (.inr (of_decide_eq_true rfl)) (of_decide_eq_true rfl) (of_decide_eq_true rfl)).mono ?_
  rintro e w19 ⟨rfl, hf⟩
  replace H := hide ((unhide H).quiet hf)
  clear hf
  go_wp2_with fail
  refine (cut_bad d m _ q7 O7 sB 5 _ (unhide H).D rfl (of_decide_eq_true rfl) rfl (.inr (of_decide_eq_true rfl))).mono ?_
  rintro e w20 ⟨rfl, hf⟩
  replace H := hide ((unhide H).quiet hf)
  clear hf
  go_wp2_with fail
  refine (read_bad d m _ q7 O7 sA 9 2 _ (unhide H).D rfl (of_decide_eq_true rfl) rfl (of_decide_eq_true rfl) (.inr (.inr (.inr (of_decide_eq_true rfl))))).mono ?_
  rintro e w21 ⟨rfl, hf⟩
  replace H := hide ((unhide H).quiet hf)
  clear hf
  go_wp2_with fail
  refine (read_at d m 10 0 _ q7 O7 sA _ (unhide H).D rfl (of_decide_eq_true rfl) rfl (of_decide_eq_true rfl) (of_decide_eq_true rfl)).mono ?_
  rintro e w22 ⟨v, rfl, hv, hf⟩
  obtain ⟨vo, vc, rfl⟩ := own_form hv
  replace H := hide ((unhide H).quiet hf)
  clear hf hv
  go_wp2_with fail
  refine ((unhide H).crash2 4 9 3 1 (of_decide_eq_true rfl) (of_decide_eq_true rfl) (of_decide_eq_true rfl) rfl rfl (of_decide_eq_true rfl) (of_decide_eq_true rfl) (of_decide_eq_true rfl) (of_decide_eq_true rfl) rfl (fun x y => [⟨2, 3, x⟩, ⟨3, 4, y⟩, ⟨4, 2, x⟩]) K_crash1 (fun x y => by simp) K_gain1 (of_decide_eq_true rfl) (of_decide_eq_true rfl) rfl).mono ?_
  rintro e w23 ⟨rfl, q8, hS⟩
  replace H : Hid (DS w w23 d m (K2 9 4 true false 0 0 (Dab fa fb) A8s B1s) q8 O7) := hide hS
  clear hS
  go_wp2_with fail
  refine (size_no d m _ q8 O7 sA 6 _ (unhide H).D (of_decide_eq_true rfl) (.inl ⟨rfl, rfl⟩)).mono ?_
  rintro e w24 ⟨rfl, rfl⟩
  go_wp2_with fail
  refine (start_any d m _ q8 O7 _ (unhide H).D).mono ?_
  rintro e w25 ⟨rfl, hD, hf⟩
  replace H : Hid (DS w w25 d m (K2 9 4 false false 0 0 (Dab fa fb) A8s B1s) q8 O7) := hide ((unhide H).upd hD hf)
  clear hD hf
  go_wp2_with fail
  refine (size_at d m _ q8 O7 sA _ (unhide H).D rfl (of_decide_eq_true rfl) rfl).mono ?_
  rintro e w26 ⟨rfl, rfl⟩
  rw [show (((K2 9 4 false false 0 0 (Dab fa fb) A8s B1s).F (nm sA)).b.length : Int) = 8 from rfl]
  go_wp2_with fail
  refine (size_at d m _ q8 O7 sB _ (unhide H).D rfl (of_decide_eq_true rfl) rfl).mono ?_
  rintro e w27 ⟨rfl, rfl⟩
  rw [show (((K2 9 4 false false 0 0 (Dab fa fb) A8s B1s).F (nm sB)).b.length : Int) = 1 from rfl]
  go_wp2_with fail
  refine (synced_at d m _ q8 O7 sB _ (unhide H).D rfl (of_decide_eq_true rfl) rfl).mono ?_
  rintro e w28 ⟨rfl, rfl⟩
  rw [show (((K2 9 4 false false 0 0 (Dab fa fb) A8s B1s).F (nm sB)).safe : Int) = 1 from rfl]
  go_wp2_with fail
  refine ((unhide H).pend2 (of_decide_eq_true rfl) (of_decide_eq_true rfl)).mono ?_
  rintro e w29 ⟨rfl, hS⟩
  replace H := hide hS
  clear hS
  rw [show (((A8s.b.length - A8s.safe) + (B1s.b.length - B1s.safe) : Nat) : Int) = 0 from rfl]
  go_wp2_with fail
  refine (fill_any d m _ q8 O7 true _ (unhide H).D).mono ?_
  rintro e w30 ⟨rfl, hD, hf⟩
  replace H : Hid (DS w w30 d m (K2 9 4 false true 0 0 (Dab fa fb) A8s B1s) q8 O7) := hide ((unhide H).upd hD hf)
  clear hD hf
  go_wp2_with fail
  refine (append_full d m _ q8 O7 sA none 0 0 _ (unhide H).D rfl (of_decide_eq_true rfl) rfl (.inl rfl) (of_decide_eq_true rfl) (of_decide_eq_true rfl)).mono ?_
  rintro e w31 ⟨rfl, hf⟩
  replace H := hide ((unhide H).quiet hf)
  clear hf
  go_wp2_with fail
  refine (fill_any d m _ q8 O7 false _ (unhide H).D).mono ?_
  rintro e w32 ⟨rfl, hD, hf⟩
  replace H : Hid (DS w w32 d m (K2 9 4 false false 0 0 (Dab fa fb) A8s B1s) q8 O7) := hide ((unhide H).upd hD hf)
  clear hD hf
  go_wp2_with fail
  refine (append_ok d m _ q8 O7 sA (.slice none 0 0) [] _ (unhide H).D rfl (of_decide_eq_true rfl) rfl rfl (.inl ⟨rfl, rfl⟩) (fun g o k c e => by cases e) (fun xo k c e => by cases e; exact Nat.le_refl _) (of_decide_eq_true rfl) (of_decide_eq_true rfl) (of_decide_eq_true rfl) (of_decide_eq_true rfl) (of_decide_eq_true rfl) (of_decide_eq_true rfl) (of_decide_eq_true rfl) (of_decide_eq_true rfl) (of_decide_eq_true rfl)).mono ?_
  rintro e w33 ⟨rfl, q9, O9, hD, hf, hO⟩
  rw [show nm sA = [97] from rfl, K_app_a] at hD
  replace H : Hid (DS w w33 d m (K2 9 5 false false 0 0 (Dab fa fb) A8s B1s) q9 O9) := hide ((unhide H).step hD hf hO)
  clear hD hf hO
  rw [show ((K2 9 4 false false 0 0 (Dab fa fb) A8s B1s).count ([] : List Nat).length).1.code = 0 from rfl]
  go_wp2_with fail
  refine (arm_ok d m _ q9 O9 2 3 _ (unhide H).D rfl (of_decide_eq_true rfl) (of_decide_eq_true rfl)).mono ?_
  rintro e w34 ⟨rfl, hD, hf⟩
  replace H : Hid (DS w w34 d m (K2 9 5 false false 2 3 (Dab fa fb) A8s B1s) q9 O9) := hide ((unhide H).upd hD hf)
  clear hD hf
  go_wp2_with fail
  have hlt : ¬ O9 w34.heap.size := fun h => Nat.lt_irrefl _ ((unhide H).D.lt _ h)
  replace H := hide ((unhide H).quiet (box1 _ (.cells #[.int .u8 1] 5)))
  refine (append_ok d m _ q9 O9 sA (.slice (some ⟨w34.heap.size, 0, none⟩) 1 1) [1] _ (unhide H).D rfl (of_decide_eq_true rfl) rfl rfl (lit_srcW w34 [1] #[.int .u8 1] 1 rfl) (fun g o k c e => by cases e; exact hlt) (fun xo k c e => by cases e; exact Nat.le_refl _) (of_decide_eq_true rfl) (of_decide_eq_true rfl) (of_decide_eq_true rfl) (of_decide_eq_true rfl) (of_decide_eq_true rfl) (of_decide_eq_true rfl) (of_decide_eq_true rfl) (of_decide_eq_true rfl) (of_decide_eq_true rfl)).mono ?_
  rintro e w35 ⟨rfl, q10, O10, hD, hf, hO⟩
  rw [show nm sA = [97] from rfl, K_app_a2] at hD
  replace H : Hid (DS w w35 d m (K2 10 6 false false 1 3 (Dab fa fb) A9 B1s) q10 O10) := hide ((unhide H).step hD hf hO)
  clear hD hf hO
  rw [show ((K2 9 5 false false 2 3 (Dab fa fb) A8s B1s).count ([1] : List Nat).length).1.code = 0 from rfl]
  clear hlt
  go_wp2_with fail
  refine ((unhide H).zeros sB 5 rfl (of_decide_eq_true rfl) rfl rfl (of_decide_eq_true rfl) (of_decide_eq_true rfl) (of_decide_eq_true rfl) (of_decide_eq_true rfl) (of_decide_eq_true rfl) (of_decide_eq_true rfl) (of_decide_eq_true rfl) (of_decide_eq_true rfl) (of_decide_eq_true rfl)).mono ?_
  rintro e w36 ⟨rfl, q11, O11, hS⟩
  rw [show nm sB = [98] from rfl, K_app_b1] at hS
  replace H : Hid (DS w w36 d m (K2 13 7 true false 0 3 (Dab fa fb) A9 B4t) q11 O11) := hide hS
  clear hS
  skip
  rw [show ((K2 10 6 false false 1 3 (Dab fa fb) A9 B1s).count 5).1.code = 6 from rfl]
  go_wp2_with fail
  refine (off_any d m _ q11 O11 _ (unhide H).D).mono ?_
  rintro e w37 ⟨rfl, rfl⟩
  rw [show (K2 13 7 true false 0 3 (Dab fa fb) A9 B4t).off = true from rfl]
  go_wp2_with fail
  refine (writes_any d m _ q11 O11 _ (unhide H).D).mono ?_
  rintro e w38 ⟨rfl, rfl⟩
  rw [show ((K2 13 7 true false 0 3 (Dab fa fb) A9 B4t).writes : Int) = 7 from rfl]
  go_wp2_with fail
  refine (start_any d m _ q11 O11 _ (unhide H).D).mono ?_
  rintro e w39 ⟨rfl, hD, hf⟩
  replace H : Hid (DS w w39 d m (K2 13 7 false false 0 3 (Dab fa fb) A9 B4t) q11 O11) := hide ((unhide H).upd hD hf)
  clear hD hf
  go_wp2_with fail
  refine (size_at d m _ q11 O11 sB _ (unhide H).D rfl (of_decide_eq_true rfl) rfl).mono ?_
  rintro e w40 ⟨rfl, rfl⟩
  rw [show (((K2 13 7 false false 0 3 (Dab fa fb) A9 B4t).F (nm sB)).b.length : Int) = 4 from rfl]
  go_wp2_with fail
  refine ((unhide H).pend2 (of_decide_eq_true rfl) (of_decide_eq_true rfl)).mono ?_
  rintro e w41 ⟨rfl, hS⟩
  replace H := hide hS
  clear hS
  rw [show (((A9.b.length - A9.safe) + (B4t.b.length - B4t.safe) : Nat) : Int) = 4 from rfl]
  go_wp2_with fail
  refine ((unhide H).crash2 2 11 1 1 (of_decide_eq_true rfl) (of_decide_eq_true rfl) (of_decide_eq_true rfl) rfl rfl (of_decide_eq_true rfl) (of_decide_eq_true rfl) (of_decide_eq_true rfl) (of_decide_eq_true rfl) rfl (fun x y => [⟨6, 1, x⟩, ⟨7, 3, y⟩]) K_crash2 (fun x y => by simp) K_gain2 (of_decide_eq_true rfl) (of_decide_eq_true rfl) rfl).mono ?_
  rintro e w42 ⟨rfl, q12, hS⟩
  replace H : Hid (DS w w42 d m (K2 11 7 true false 0 0 (Dab fa fb) A9s B2s) q12 O11) := hide hS
  clear hS
  go_wp2_with fail
  refine (start_any d m _ q12 O11 _ (unhide H).D).mono ?_
  rintro e w43 ⟨rfl, hD, hf⟩
  replace H : Hid (DS w w43 d m (K2 11 7 false false 0 0 (Dab fa fb) A9s B2s) q12 O11) := hide ((unhide H).upd hD hf)
  clear hD hf
  go_wp2_with fail
  refine (size_at d m _ q12 O11 sA _ (unhide H).D rfl (of_decide_eq_true rfl) rfl).mono ?_
  rintro e w44 ⟨rfl, rfl⟩
  rw [show (((K2 11 7 false false 0 0 (Dab fa fb) A9s B2s).F (nm sA)).b.length : Int) = 9 from rfl]
  go_wp2_with fail
  refine (size_at d m _ q12 O11 sB _ (unhide H).D rfl (of_decide_eq_true rfl) rfl).mono ?_
  rintro e w45 ⟨rfl, rfl⟩
  rw [show (((K2 11 7 false false 0 0 (Dab fa fb) A9s B2s).F (nm sB)).b.length : Int) = 2 from rfl]
  go_wp2_with fail
  refine (turn_bad d m _ q12 O11 sA 9 0 _ (unhide H).D rfl (of_decide_eq_true rfl) rfl (.inr (.inl (of_decide_eq_true rfl)))).mono ?_
  rintro e w46 ⟨rfl, hf⟩
  replace H := hide ((unhide H).quiet hf)
  clear hf
  go_wp2_with fail
  refine (turn_bad d m _ q12 O11 sA 0 8 _ (unhide H).D rfl (of_decide_eq_true rfl) rfl (.inr (.inr (of_decide_eq_true rfl)))).mono ?_
  rintro e w47 ⟨rfl, hf⟩
  replace H := hide ((unhide H).quiet hf)
  clear hf
  go_wp2_with fail
  refine (turn_at d m _ q12 O11 sB 0 7 _ (unhide H).D rfl (of_decide_eq_true rfl) rfl (of_decide_eq_true rfl) (of_decide_eq_true rfl)).mono ?_
  rintro e w48 ⟨rfl, q13, O13, hD, hf, hO⟩
  rw [show nm sB = [98] from rfl, K_turn_b] at hD
  replace H : Hid (DS w w48 d m (K2 11 7 false false 0 0 (Dab fa fb) A9s B2t) q13 O13) := hide ((unhide H).step hD hf hO)
  clear hD hf hO
  go_wp2_with fail
  refine (remove_no d m _ q13 O13 sC 15 _ (unhide H).D (of_decide_eq_true rfl) (.inr ⟨rfl, rfl, rfl⟩)).mono ?_
  rintro e w49 ⟨rfl, rfl⟩
  go_wp2_with fail
  refine (remove_at d m _ q13 O13 sA _ (unhide H).D rfl (of_decide_eq_true rfl) rfl (of_decide_eq_true rfl) (of_decide_eq_true rfl) (of_decide_eq_true rfl) (of_decide_eq_true rfl) (of_decide_eq_true rfl)).mono ?_
  rintro e w50 ⟨rfl, q14, hD, hf⟩
  rw [show nm sA = [97] from rfl, K_gone] at hD
  replace H := hide ((unhide H).step hD hf (fun k hk => .inl hk))
  clear hD hf
  go_wp2_with fail
  refine (names_b d m _ _ _ _ _ q14 O13 _ (unhide H).D).mono ?_
  rintro e w51 ⟨ng, nc, rfl, hc, hf⟩
  have hF := (unhide H).fr.trans hf (fun _ _ h => h)
  have HF := hide hF
  clear hF hf H
  go_wp2_with fail
  go_ret
  exact ⟨congrArg (fun b => Ending.returned (Value.bool b)) (show (sB.toList == [98]) = true by decide +kernel), unhide HF⟩
end Go.Proofs.Ytfoifojlgojgaaa
