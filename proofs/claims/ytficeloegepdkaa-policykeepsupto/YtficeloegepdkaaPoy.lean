import Derived.Test.YtficeloegepdkaaPoz
namespace Go.Proofs.Ytficeloegepdkaa
open Go.RowKit

set_option maxHeartbeats 20000000 in
set_option maxRecDepth 100000 in
/-- PolicyKeeps. -/
theorem keeps_any (q : AQ) (S : List P3) (G : List Nat) (F : List F5) (more : Nat) (w : World) (hE : AE w q S G F) :
    Calls Try.prog 6 #[.agg q.cs, .int .u32 (more : Nat)] w fun e w' => e = .returned (.bool true) ∧ Fr (fun _ => False) w w' := by
  have HE := hide hE
  obtain ⟨xo, xc, hx⟩ := hE.s.form
  obtain ⟨go, gc, hg⟩ := hE.g.form
  obtain ⟨fo, fc, hf⟩ := hE.f.form
  have HX := hide (And.intro hx (And.intro hg hf))
  clear hE hx hg hf
  simp only [AQ.cs]
  go_enter Try.func6, Try.ntmps6
  go_wp2_with fail
  refine (awake10 _).mono ?_
  rintro e w1 ⟨rfl, hf1⟩
  have hbx := (hf1.block w.heap.size (by simp) (fun h => h)).trans Array.getElem?_push_size
  obtain ⟨c0, c1, c2, c3, c4, c5, c6, c7, c8, c9, -⟩ := box10 hbx
  have hF1 : Fr (fun _ => False) w w1 := ((Fr.refl _ _).alloc _).trans hf1 (fun _ _ h => h)
  have HM := hide hF1
  have hSh := sheet_any q.wd q.ow q.sl q.gv G w1 ((unhide HE).g.fr hF1) (unhide HE).gl
  clear hF1 hf1 hbx
  go_wp2_with fail
  refine hSh.mono ?_
  clear hSh
  rintro e w2 ⟨pv', rfl, hU, hf2⟩
  obtain ⟨va2, ca2, hva2⟩ := hU.us.form
  subst hva2
  have HU := hide (And.intro hU hf2)
  have d0 := (hf2.cell (p := ⟨w.heap.size, 0, none⟩) (lt_of_cell c0) (fun h => h)).trans c0
  have d1 := (hf2.cell (p := ⟨w.heap.size, 1, none⟩) (lt_of_cell c1) (fun h => h)).trans c1
  have d2 := (hf2.cell (p := ⟨w.heap.size, 2, none⟩) (lt_of_cell c2) (fun h => h)).trans c2
  have d3 := (hf2.cell (p := ⟨w.heap.size, 3, none⟩) (lt_of_cell c3) (fun h => h)).trans c3
  have d4 := (hf2.cell (p := ⟨w.heap.size, 4, none⟩) (lt_of_cell c4) (fun h => h)).trans c4
  have d5 := (hf2.cell (p := ⟨w.heap.size, 5, none⟩) (lt_of_cell c5) (fun h => h)).trans c5
  have d6 := (hf2.cell (p := ⟨w.heap.size, 6, none⟩) (lt_of_cell c6) (fun h => h)).trans c6
  have d7 := (hf2.cell (p := ⟨w.heap.size, 7, none⟩) (lt_of_cell c7) (fun h => h)).trans c7
  have d8 := (hf2.cell (p := ⟨w.heap.size, 8, none⟩) (lt_of_cell c8) (fun h => h)).trans c8
  have d9 := (hf2.cell (p := ⟨w.heap.size, 9, none⟩) (lt_of_cell c9) (fun h => h)).trans c9
  have hl2 : w.heap.size < w2.heap.size := lt_of_cell d0
  clear c0 c1 c2 c3 c4 c5 c6 c7 c8 c9 hU hf2
  go_wp2_with fail
  obtain ⟨W0, hW0⟩ : ∃ W0, w2.alloc (.cells #[.int .u32 (q.wd : Nat), .int .u32 (q.ow : Nat), .bool q.sl, .slice va2 G.length ca2] 29) = W0 := ⟨_, rfl⟩
  have hF0 : Fr (fun _ => False) w2 W0 := by rw [← hW0]; exact (Fr.refl _ _).alloc _
  have hb0 : W0.heap[w2.heap.size]? = some (.cells #[.int .u32 (q.wd : Nat), .int .u32 (q.ow : Nat), .bool q.sl, .slice va2 G.length ca2] 29) := by rw [← hW0]; exact Array.getElem?_push_size
  replace d0 := (hF0.cell (p := ⟨w.heap.size, 0, none⟩) hl2 (fun h => h)).trans d0
  replace d1 := (hF0.cell (p := ⟨w.heap.size, 1, none⟩) hl2 (fun h => h)).trans d1
  replace d2 := (hF0.cell (p := ⟨w.heap.size, 2, none⟩) hl2 (fun h => h)).trans d2
  replace d3 := (hF0.cell (p := ⟨w.heap.size, 3, none⟩) hl2 (fun h => h)).trans d3
  replace d4 := (hF0.cell (p := ⟨w.heap.size, 4, none⟩) hl2 (fun h => h)).trans d4
  replace d5 := (hF0.cell (p := ⟨w.heap.size, 5, none⟩) hl2 (fun h => h)).trans d5
  replace d6 := (hF0.cell (p := ⟨w.heap.size, 6, none⟩) hl2 (fun h => h)).trans d6
  replace d7 := (hF0.cell (p := ⟨w.heap.size, 7, none⟩) hl2 (fun h => h)).trans d7
  replace d8 := (hF0.cell (p := ⟨w.heap.size, 8, none⟩) hl2 (fun h => h)).trans d8
  replace d9 := (hF0.cell (p := ⟨w.heap.size, 9, none⟩) hl2 (fun h => h)).trans d9
  have hJ : JS w.heap.size w2.heap.size q (.slice va2 G.length ca2) W0 W0 := ⟨d0, d1, d2, d3, d4, d5, d6, d7, d8, d9, by simp only [World.cell?, hb0]; rfl, by simp only [World.cell?, hb0]; rfl, by simp only [World.cell?, hb0]; rfl, by simp only [World.cell?, hb0]; rfl, Fr.refl _ _⟩
  have hFw : Fr (fun _ => False) w W0 := (unhide HM).trans ((unhide HU).2.trans hF0 (fun _ _ h => h)) (fun _ _ h => h)
  have hU0 : MkU W0 (.slice va2 G.length ca2) G := (unhide HU).1.fr hF0
  have hS0 := (unhide HE).s.fr hFw
  have hD0 := (unhide HE).f.fr hFw
  have hsl := (unhide HE).sl
  have hgl := (unhide HE).gl
  have hfl := (unhide HE).fl
  rw [hW0]
  have HFw := hide hFw
  have HJ := hide hJ
  have HU0 := hide (And.intro hU0 hgl)
  clear hW0 hF0 hb0 d0 d1 d2 d3 d4 d5 d6 d7 d8 d9 HM HU hl2 hFw
  obtain ⟨xA, hA⟩ : ∃ c, (ansv S q.k fun p => gAm p q.k q.wd q.ow q.sl G F) = c := ⟨_, rfl⟩
  obtain ⟨xX, hX⟩ : ∃ c, (ansv S q.k fun p => gRd p q.k q.wd q.ow q.sl G) = c := ⟨_, rfl⟩
  obtain ⟨xO, hO⟩ : ∃ c, (ansv S q.k fun p => gRd p q.k q.wd q.ow false G) = c := ⟨_, rfl⟩
  obtain ⟨xC, hC⟩ : ∃ c, (ansv S q.k fun p => gRd p q.k q.wd q.ow true G) = c := ⟨_, rfl⟩
  obtain ⟨xY, hY⟩ : ∃ c, (ansv S q.k fun p => gRd p q.k q.wd q.ow q.sl (more :: G)) = c := ⟨_, rfl⟩
  have HAX := hide (show xA = 0 → xX = 0 from by rw [← hA, ← hX]; exact keep_am)
  have HCO := hide (show xC = 0 → xO = 0 from by rw [← hC, ← hO]; exact keep_seal)
  have HXY := hide (show (xX = 0 → xY = 0) ∧ (xX = xY ∨ q.k = more ∧ xY = 0) from by rw [← hX, ← hY]; exact keep_more)
  have hcA : ∀ W, Fr (fun _ => False) W0 W → Calls Try.prog 12 #[q.lv, .agg #[.int .u32 (q.wd : Nat), .int .u32 (q.ow : Nat), .bool q.sl, .slice va2 G.length ca2], .int .u32 (q.k : Nat), q.fv] W fun e w' => e = .returned (.int .u8 (xA : Nat)) ∧ Fr (fun _ => False) W0 w' := fun W h => (pamend_any _ S q.wd q.ow q.sl _ G q.k q.fv F W (hS0.fr h) (by omega) (hU0.fr h).us (by omega) (hD0.fr h) (by omega)).mono fun _ _ ⟨e, hf⟩ => ⟨by rw [e, ← hA, ansv_congr (fun p hp => eq_amend _ _ _ _ p q.k q.wd q.ow q.sl G F hp)], h.trans hf (fun _ _ h => h)⟩
  have hcR : ∀ (sl : Bool) (gv : Value) (G' : List Nat) (c : Nat), (ansv S q.k fun p => gRd p q.k q.wd q.ow sl G') = c → ∀ W, Fr (fun _ => False) W0 W → Us W gv G' → G'.length ≤ 1048577 → Calls Try.prog 10 #[q.lv, .agg #[.int .u32 (q.wd : Nat), .int .u32 (q.ow : Nat), .bool sl, gv], .int .u32 (q.k : Nat)] W fun e w' => e = .returned (.int .u8 (c : Nat)) ∧ Fr (fun _ => False) W0 w' ∧ Fr (fun _ => False) W w' := fun sl gv G' c hc W h hG hl => (pread_any _ S q.wd q.ow sl gv G' q.k W (hS0.fr h) (by omega) hG (by omega)).mono fun _ _ ⟨e, hf⟩ => ⟨by rw [e, ← hc, ansv_congr (fun p hp => eq_read _ _ _ _ p q.k q.wd q.ow sl G' hp)], h.trans hf (fun _ _ h => h), hf⟩
  have HcA := hide hcA
  have HcR := hide hcR
  have HX := hide hX
  have HO := hide hO
  have HC := hide hC
  have HY := hide hY
  clear hcA hcR hA hX hO hC hY hU0 hS0 hD0 hsl hgl hfl hJ
  refine ((unhide HcA) _ (Fr.refl _ _)).mono ?_
  clear HcA
  rintro e w3 ⟨rfl, h3⟩
  have H3 := hide h3
  clear h3
  by_cases hz : xA = 0
  · have hx0 := (unhide HAX) hz
    subst hz
    obtain ⟨k0, k1, k2, k3, k4, k5, k6, k7, k8, k9, t0, t1, t2, t3, -⟩ := (unhide HJ).step (unhide H3)
    have hw0 := lt_of_cell k0
    have hw1 := lt_of_cell t0
    simp only at hw0 hw1
    have hw2 := Nat.lt_succ_of_lt hw0
    have hw3 := Nat.lt_succ_of_lt hw1
    simp only [Nat.succ_eq_add_one] at hw2 hw3
    go_wp2_with fail
    have hR := (unhide HcR) q.sl (.slice va2 G.length ca2) G xX (unhide HX) _ (unhide H3) ((unhide HU0).1.fr (unhide H3)).us (by have := (unhide HU0).2; omega)
    refine hR.mono ?_
    clear hR
    rintro e w4 ⟨rfl, h, hh⟩
    have H4 := hide h
    have H4L := hide hh
    clear h hh
    clear hw0 hw1 hw2 hw3 k0 k1 k2 k3 k4 k5 k6 k7 k8 k9 t0 t1 t2 t3
    subst hx0
    obtain ⟨k0, k1, k2, k3, k4, k5, k6, k7, k8, k9, t0, t1, t2, t3, -⟩ := (unhide HJ).step (unhide H4)
    have hw0 := lt_of_cell k0
    have hw1 := lt_of_cell t0
    simp only at hw0 hw1
    have hw2 := Nat.lt_succ_of_lt hw0
    have hw3 := Nat.lt_succ_of_lt hw1
    simp only [Nat.succ_eq_add_one] at hw2 hw3
    go_wp2_with fail
    obtain ⟨W5, hW5⟩ : ∃ W5, (w4.alloc (.cells #[.int .u32 (q.wd : Nat), .int .u32 (q.ow : Nat), .bool false, .slice va2 G.length ca2] 29)).alloc (.cells #[.int .u32 (q.wd : Nat), .int .u32 (q.ow : Nat), .bool true, .slice va2 G.length ca2] 29) = W5 := ⟨_, rfl⟩
    have hF5 : Fr (fun _ => False) W0 W5 := by rw [← hW5]; exact ((unhide H4).alloc _).alloc _
    have hbo : W5.heap[w4.heap.size]? = some (.cells #[.int .u32 (q.wd : Nat), .int .u32 (q.ow : Nat), .bool false, .slice va2 G.length ca2] 29) := by rw [← hW5]; exact (Below.heap_alloc _ _ _ (by simp)).trans Array.getElem?_push_size
    have hlo : w4.heap.size < W5.heap.size := by rw [← hW5]; simp; omega
    have H5 := hide hF5
    have HBO := hide (And.intro hbo hlo)
    rw [hW5]
    clear hW5 hF5 hbo hlo
    clear hw0 hw1 hw2 hw3 k0 k1 k2 k3 k4 k5 k6 k7 k8 k9 t0 t1 t2 t3
    have hR := (unhide HcR) true (.slice va2 G.length ca2) G xC (unhide HC) _ (unhide H5) ((unhide HU0).1.fr (unhide H5)).us (by have := (unhide HU0).2; omega)
    refine hR.mono ?_
    clear hR
    rintro e w6 ⟨rfl, h, hh⟩
    have H6 := hide h
    have H6L := hide hh
    clear h hh
    by_cases hz3 : xC = 0
    · have hx0 := (unhide HCO) hz3
      subst hz3
      obtain ⟨k0, k1, k2, k3, k4, k5, k6, k7, k8, k9, t0, t1, t2, t3, -⟩ := (unhide HJ).step (unhide H6)
      have hw0 := lt_of_cell k0
      have hw1 := lt_of_cell t0
      simp only at hw0 hw1
      have hw2 := Nat.lt_succ_of_lt hw0
      have hw3 := Nat.lt_succ_of_lt hw1
      simp only [Nat.succ_eq_add_one] at hw2 hw3
      have hob : w6.heap[w4.heap.size]? = some (.cells #[.int .u32 (q.wd : Nat), .int .u32 (q.ow : Nat), .bool false, .slice va2 G.length ca2] 29) := ((unhide H6L).block _ (unhide HBO).2 (fun h => h)).trans (unhide HBO).1
      have p0 : w6.cell? ⟨w4.heap.size, 0, none⟩ = some (.int .u32 (q.wd : Nat)) := by simp only [World.cell?, hob]; rfl
      have p1 : w6.cell? ⟨w4.heap.size, 1, none⟩ = some (.int .u32 (q.ow : Nat)) := by simp only [World.cell?, hob]; rfl
      have p2 : w6.cell? ⟨w4.heap.size, 2, none⟩ = some (.bool false) := by simp only [World.cell?, hob]; rfl
      have p3 : w6.cell? ⟨w4.heap.size, 3, none⟩ = some (.slice va2 G.length ca2) := by simp only [World.cell?, hob]; rfl
      clear hob
      go_wp2_with fail
      have hR := (unhide HcR) false (.slice va2 G.length ca2) G xO (unhide HO) _ (unhide H6) ((unhide HU0).1.fr (unhide H6)).us (by have := (unhide HU0).2; omega)
      refine hR.mono ?_
      clear hR
      rintro e w7 ⟨rfl, h, hh⟩
      have H7 := hide h
      have H7L := hide hh
      clear h hh
      clear hw0 hw1 hw2 hw3 k0 k1 k2 k3 k4 k5 k6 k7 k8 k9 t0 t1 t2 t3
      clear p0 p1 p2 p3
      subst hx0
      obtain ⟨k0, k1, k2, k3, k4, k5, k6, k7, k8, k9, t0, t1, t2, t3, -⟩ := (unhide HJ).step (unhide H7)
      have hw0 := lt_of_cell k0
      have hw1 := lt_of_cell t0
      simp only at hw0 hw1
      have hw2 := Nat.lt_succ_of_lt hw0
      have hw3 := Nat.lt_succ_of_lt hw1
      simp only [Nat.succ_eq_add_one] at hw2 hw3
      have s0 : (0 : Int) ≤ (G.length : Int) + 1 := by omega
      have s2 : IntKind.i64.wrap ((G.length : Int) + 1) = (G.length : Int) + 1 := by have := (unhide HU0).2; rw [IntKind.wrap_i64]; omega
      have s3 : ((G.length : Int) + 1).toNat = G.length + 1 := by omega
      have HSF := hide (fun W (hf : Fr (fun _ => False) w7 W) => (hf.cell (p := ⟨w2.heap.size, 3, none⟩) hw1 (fun h => h)).trans t3)
      obtain ⟨apa, cpa, aoa, capa, wAa, wBa, hR1a, hR2a, hTa⟩ := two_a w7 (.cells #[.int .u32 (q.wd : Nat), .int .u32 (q.ow : Nat), .bool q.sl, .slice va2 G.length ca2] 29) more G va2 ca2 ((unhide HU0).1.fr (unhide H7)) (unhide HU0).2
      have s1a : (G.length : Int) + 1 ≤ (capa : Int) := by have := hTa.2.2.1; omega
      have hFCa : Fr (fun _ => False) w7 (wBa.setCell ⟨w7.heap.size, 3, none⟩ (.slice aoa (G.length + 1) capa)) := hTa.2.1.setCell (.inr (Nat.le_refl _)) _
      have g3a : wBa.cell? ⟨w7.heap.size, 3, none⟩ = some (.slice va2 G.length ca2) := by simp only [World.cell?, hTa.2.2.2.2]; rfl
      have z3a : wBa.frozen? ⟨w7.heap.size, 3, none⟩ = false := by simp [World.frozen?, hTa.2.2.2.2]
      have HR1a := hide hR1a
      have HR2a := hide hR2a
      have HFAa := hide hTa.1
      have HFBa := hide hTa.2.1
      have HFCa := hide hFCa
      have HTa := hide hTa
      clear hR1a hR2a hFCa hTa
      obtain ⟨apb, cpb, aob, capb, wAb, wBb, hR1b, hR2b, hTb⟩ := two_b w7 (.cells #[.int .u32 (q.wd : Nat), .int .u32 (q.ow : Nat), .bool q.sl, .slice va2 G.length ca2] 29) more G va2 ca2 ((unhide HU0).1.fr (unhide H7)) (unhide HU0).2
      have s1b : (G.length : Int) + 1 ≤ (capb : Int) := by have := hTb.2.2.1; omega
      have hFCb : Fr (fun _ => False) w7 (wBb.setCell ⟨w7.heap.size, 3, none⟩ (.slice aob (G.length + 1) capb)) := hTb.2.1.setCell (.inr (Nat.le_refl _)) _
      have g3b : wBb.cell? ⟨w7.heap.size, 3, none⟩ = some (.slice va2 G.length ca2) := by simp only [World.cell?, hTb.2.2.2.2]; rfl
      have z3b : wBb.frozen? ⟨w7.heap.size, 3, none⟩ = false := by simp [World.frozen?, hTb.2.2.2.2]
      have HR1b := hide hR1b
      have HR2b := hide hR2b
      have HFAb := hide hTb.1
      have HFBb := hide hTb.2.1
      have HFCb := hide hFCb
      have HTb := hide hTb
      clear hR1b hR2b hFCb hTb
      obtain ⟨apc, cpc, aoc, capc, wAc, wBc, hR1c, hR2c, hTc⟩ := two_c w7 (.cells #[.int .u32 (q.wd : Nat), .int .u32 (q.ow : Nat), .bool q.sl, .slice va2 G.length ca2] 29) more G va2 ca2 ((unhide HU0).1.fr (unhide H7)) (unhide HU0).2
      have s1c : (G.length : Int) + 1 ≤ (capc : Int) := by have := hTc.2.2.1; omega
      have hFCc : Fr (fun _ => False) w7 (wBc.setCell ⟨w7.heap.size, 3, none⟩ (.slice aoc (G.length + 1) capc)) := hTc.2.1.setCell (.inr (Nat.le_refl _)) _
      have g3c : wBc.cell? ⟨w7.heap.size, 3, none⟩ = some (.slice va2 G.length ca2) := by simp only [World.cell?, hTc.2.2.2.2]; rfl
      have z3c : wBc.frozen? ⟨w7.heap.size, 3, none⟩ = false := by simp [World.frozen?, hTc.2.2.2.2]
      have HR1c := hide hR1c
      have HR2c := hide hR2c
      have HFAc := hide hTc.1
      have HFBc := hide hTc.2.1
      have HFCc := hide hFCc
      have HTc := hide hTc
      clear hR1c hR2c hFCc hTc
      have HF5a := hide ((unhide HFAa).alloc (.cells #[.int .u32 5] 26))
      clear hw0 hw2 k0 k1 k2 k3 k4 k5 k6 k7 k8 k9
      go_wp2_with fail
      go_region_held3 (fun w' => w'.cell? ⟨w2.heap.size, 3, none⟩ = some (.slice va2 G.length ca2))
        ((refine (unhide HSF) _ ?_; first | with_reducible exact unhide HFAa | with_reducible exact unhide HFAb | with_reducible exact unhide HFAc | with_reducible exact unhide HFBa | with_reducible exact unhide HFBb | with_reducible exact unhide HFBc | with_reducible exact unhide HFCa | with_reducible exact unhide HFCb | with_reducible exact unhide HFCc | with_reducible exact unhide HF5a | (repeat first | exact Fr.refl _ _ | refine Fr.alloc ?_ _ | refine Fr.drew ?_)))
        (first | (refine step_app rfl (.tmp 56) (.tmp 58) 27 27 rfl _ _ _ (by simp [Act.eval]) (by simp [Act.eval]) (unhide HR1a) ?_) | (refine step_app rfl (.tmp 59) (.tmp 60) 27 27 rfl _ _ _ (by simp [Act.eval]) (by simp [Act.eval]) (unhide HR2a) ?_) | (refine step_app rfl (.tmp 56) (.tmp 58) 27 27 rfl _ _ _ (by simp [Act.eval]) (by simp [Act.eval]) (unhide HR1b) ?_) | (refine step_app rfl (.tmp 59) (.tmp 60) 27 27 rfl _ _ _ (by simp [Act.eval]) (by simp [Act.eval]) (unhide HR2b) ?_) | (refine step_app rfl (.tmp 56) (.tmp 58) 27 27 rfl _ _ _ (by simp [Act.eval]) (by simp [Act.eval]) (unhide HR1c) ?_) | (refine step_app rfl (.tmp 59) (.tmp 60) 27 27 rfl _ _ _ (by simp [Act.eval]) (by simp [Act.eval]) (unhide HR2c) ?_))
      · obtain ⟨wE, hWE⟩ : ∃ wE, wBa.setCell ⟨w7.heap.size, 3, none⟩ (.slice aoa (G.length + 1) capa) = wE := ⟨_, rfl⟩
        obtain ⟨g, hge, hg1, hg2, hg3⟩ := (unhide HTa).2.2.2.1
        subst hge
        have hbb := (unhide HTa).2.2.2.2
        have hFE : Fr (fun k => k = w7.heap.size) wBa wE := by rw [← hWE]; exact (Fr.refl _ _).setCell (Or.inl (show w7.heap.size = w7.heap.size from rfl)) _
        have hE0 : Fr (fun _ => False) W0 wE := (unhide H7).trans (by rw [← hWE]; exact unhide HFCa) (fun _ _ h => h)
        have g0 : wE.cell? ⟨w7.heap.size, 0, none⟩ = some (.int .u32 (q.wd : Nat)) := by rw [← hWE, World.cell?_setCell_other _ _ _ _ (by intro h; injection h with _ h2 _; omega)]; simp only [World.cell?, hbb]; rfl
        have g1 : wE.cell? ⟨w7.heap.size, 1, none⟩ = some (.int .u32 (q.ow : Nat)) := by rw [← hWE, World.cell?_setCell_other _ _ _ _ (by intro h; injection h with _ h2 _; omega)]; simp only [World.cell?, hbb]; rfl
        have g2 : wE.cell? ⟨w7.heap.size, 2, none⟩ = some (.bool q.sl) := by rw [← hWE, World.cell?_setCell_other _ _ _ _ (by intro h; injection h with _ h2 _; omega)]; simp only [World.cell?, hbb]; rfl
        have ge : wE.cell? ⟨w7.heap.size, 3, none⟩ = some (.slice (some ⟨g, 0, none⟩) (G.length + 1) capa) := by rw [← hWE]; exact World.cell?_setCell_same _ _ _ g3a
        have hUE : Us wE (.slice (some ⟨g, 0, none⟩) (G.length + 1) capa) (more :: G) := .inr ⟨g, 0, capa, rfl, fun j hj => (hFE.cell (p := ⟨g, 0 + j, none⟩) hg2 (by simp only; omega)).trans (by rw [Nat.zero_add]; exact hg3 j _ (by rw [ucells, List.getElem?_map, List.getElem?_eq_getElem hj]; rfl))⟩
        have HE0 := hide hE0
        have HUE := hide hUE
        rw [hWE]
        have hgl := lt_of_cell g0
        simp only at hgl
        clear hWE hFE hE0 hUE hg1 hg2 hg3 hbb HSF HF5a hw1 hw3 t0 t1 t2 t3
        clear g3a z3a HTa HR1a HR2a HFAa HFBa HFCa
        clear g3b z3b HTb HR1b HR2b HFAb HFBb HFCb
        clear g3c z3c HTc HR1c HR2c HFAc HFBc HFCc
        obtain ⟨k0, k1, k2, k3, k4, k5, k6, k7, k8, k9, t0, t1, t2, t3, -⟩ := (unhide HJ).step (unhide HE0)
        have hw0 := lt_of_cell k0
        have hw1 := lt_of_cell t0
        simp only at hw0 hw1
        have hw2 := Nat.lt_succ_of_lt hw0
        have hw3 := Nat.lt_succ_of_lt hw1
        simp only [Nat.succ_eq_add_one] at hw2 hw3
        go_wp2_with fail
        have hR := (unhide HcR) q.sl (.slice va2 G.length ca2) G _ (unhide HX) _ (unhide HE0) ((unhide HU0).1.fr (unhide HE0)).us (by have := (unhide HU0).2; omega)
        refine hR.mono ?_
        clear hR
        rintro e w8 ⟨rfl, h, hh⟩
        have H8 := hide h
        have H8L := hide hh
        clear h hh
        clear hw0 hw1 hw2 hw3 k0 k1 k2 k3 k4 k5 k6 k7 k8 k9 t0 t1 t2 t3
        obtain ⟨k0, k1, k2, k3, k4, k5, k6, k7, k8, k9, t0, t1, t2, t3, -⟩ := (unhide HJ).step (unhide H8)
        have hw0 := lt_of_cell k0
        have hw1 := lt_of_cell t0
        simp only at hw0 hw1
        have hw2 := Nat.lt_succ_of_lt hw0
        have hw3 := Nat.lt_succ_of_lt hw1
        simp only [Nat.succ_eq_add_one] at hw2 hw3
        replace g0 := ((unhide H8L).cell (p := ⟨w7.heap.size, 0, none⟩) hgl (fun h => h)).trans g0
        replace g1 := ((unhide H8L).cell (p := ⟨w7.heap.size, 1, none⟩) hgl (fun h => h)).trans g1
        replace g2 := ((unhide H8L).cell (p := ⟨w7.heap.size, 2, none⟩) hgl (fun h => h)).trans g2
        replace ge := ((unhide H8L).cell (p := ⟨w7.heap.size, 3, none⟩) hgl (fun h => h)).trans ge
        go_wp2_with fail
        have hR := (unhide HcR) q.sl (.slice (some ⟨g, 0, none⟩) (G.length + 1) capa) (more :: G) _ (unhide HY) _ (unhide H8) ((unhide HUE).fr (unhide H8L)) (by have := (unhide HU0).2; simp; omega)
        refine hR.mono ?_
        clear hR
        rintro e w9 ⟨rfl, h, hh⟩
        have H9 := hide h
        have H9L := hide hh
        clear h hh
        clear g0 g1 g2 ge hgl
        clear hw0 hw1 hw2 hw3 k0 k1 k2 k3 k4 k5 k6 k7 k8 k9 t0 t1 t2 t3
        obtain ⟨k0, k1, k2, k3, k4, k5, k6, k7, k8, k9, t0, t1, t2, t3, -⟩ := (unhide HJ).step (unhide H9)
        have hw0 := lt_of_cell k0
        have hw1 := lt_of_cell t0
        simp only at hw0 hw1
        have hw2 := Nat.lt_succ_of_lt hw0
        have hw3 := Nat.lt_succ_of_lt hw1
        simp only [Nat.succ_eq_add_one] at hw2 hw3
        have hy0 := (unhide HXY).1 (by first | exact trivial | rfl)
        subst hy0
        go_wp2_with fail
        go_ret
        exact ⟨rfl, (unhide HFw).trans (unhide H9) (fun _ _ h => h)⟩
      · obtain ⟨wE, hWE⟩ : ∃ wE, wBb.setCell ⟨w7.heap.size, 3, none⟩ (.slice aob (G.length + 1) capb) = wE := ⟨_, rfl⟩
        obtain ⟨g, hge, hg1, hg2, hg3⟩ := (unhide HTb).2.2.2.1
        subst hge
        have hbb := (unhide HTb).2.2.2.2
        have hFE : Fr (fun k => k = w7.heap.size) wBb wE := by rw [← hWE]; exact (Fr.refl _ _).setCell (Or.inl (show w7.heap.size = w7.heap.size from rfl)) _
        have hE0 : Fr (fun _ => False) W0 wE := (unhide H7).trans (by rw [← hWE]; exact unhide HFCb) (fun _ _ h => h)
        have g0 : wE.cell? ⟨w7.heap.size, 0, none⟩ = some (.int .u32 (q.wd : Nat)) := by rw [← hWE, World.cell?_setCell_other _ _ _ _ (by intro h; injection h with _ h2 _; omega)]; simp only [World.cell?, hbb]; rfl
        have g1 : wE.cell? ⟨w7.heap.size, 1, none⟩ = some (.int .u32 (q.ow : Nat)) := by rw [← hWE, World.cell?_setCell_other _ _ _ _ (by intro h; injection h with _ h2 _; omega)]; simp only [World.cell?, hbb]; rfl
        have g2 : wE.cell? ⟨w7.heap.size, 2, none⟩ = some (.bool q.sl) := by rw [← hWE, World.cell?_setCell_other _ _ _ _ (by intro h; injection h with _ h2 _; omega)]; simp only [World.cell?, hbb]; rfl
        have ge : wE.cell? ⟨w7.heap.size, 3, none⟩ = some (.slice (some ⟨g, 0, none⟩) (G.length + 1) capb) := by rw [← hWE]; exact World.cell?_setCell_same _ _ _ g3b
        have hUE : Us wE (.slice (some ⟨g, 0, none⟩) (G.length + 1) capb) (more :: G) := .inr ⟨g, 0, capb, rfl, fun j hj => (hFE.cell (p := ⟨g, 0 + j, none⟩) hg2 (by simp only; omega)).trans (by rw [Nat.zero_add]; exact hg3 j _ (by rw [ucells, List.getElem?_map, List.getElem?_eq_getElem hj]; rfl))⟩
        have HE0 := hide hE0
        have HUE := hide hUE
        rw [hWE]
        have hgl := lt_of_cell g0
        simp only at hgl
        clear hWE hFE hE0 hUE hg1 hg2 hg3 hbb HSF HF5a hw1 hw3 t0 t1 t2 t3
        clear g3a z3a HTa HR1a HR2a HFAa HFBa HFCa
        clear g3b z3b HTb HR1b HR2b HFAb HFBb HFCb
        clear g3c z3c HTc HR1c HR2c HFAc HFBc HFCc
        obtain ⟨k0, k1, k2, k3, k4, k5, k6, k7, k8, k9, t0, t1, t2, t3, -⟩ := (unhide HJ).step (unhide HE0)
        have hw0 := lt_of_cell k0
        have hw1 := lt_of_cell t0
        simp only at hw0 hw1
        have hw2 := Nat.lt_succ_of_lt hw0
        have hw3 := Nat.lt_succ_of_lt hw1
        simp only [Nat.succ_eq_add_one] at hw2 hw3
        go_wp2_with fail
        have hR := (unhide HcR) q.sl (.slice va2 G.length ca2) G _ (unhide HX) _ (unhide HE0) ((unhide HU0).1.fr (unhide HE0)).us (by have := (unhide HU0).2; omega)
        refine hR.mono ?_
        clear hR
        rintro e w8 ⟨rfl, h, hh⟩
        have H8 := hide h
        have H8L := hide hh
        clear h hh
        clear hw0 hw1 hw2 hw3 k0 k1 k2 k3 k4 k5 k6 k7 k8 k9 t0 t1 t2 t3
        obtain ⟨k0, k1, k2, k3, k4, k5, k6, k7, k8, k9, t0, t1, t2, t3, -⟩ := (unhide HJ).step (unhide H8)
        have hw0 := lt_of_cell k0
        have hw1 := lt_of_cell t0
        simp only at hw0 hw1
        have hw2 := Nat.lt_succ_of_lt hw0
        have hw3 := Nat.lt_succ_of_lt hw1
        simp only [Nat.succ_eq_add_one] at hw2 hw3
        replace g0 := ((unhide H8L).cell (p := ⟨w7.heap.size, 0, none⟩) hgl (fun h => h)).trans g0
        replace g1 := ((unhide H8L).cell (p := ⟨w7.heap.size, 1, none⟩) hgl (fun h => h)).trans g1
        replace g2 := ((unhide H8L).cell (p := ⟨w7.heap.size, 2, none⟩) hgl (fun h => h)).trans g2
        replace ge := ((unhide H8L).cell (p := ⟨w7.heap.size, 3, none⟩) hgl (fun h => h)).trans ge
        go_wp2_with fail
        have hR := (unhide HcR) q.sl (.slice (some ⟨g, 0, none⟩) (G.length + 1) capb) (more :: G) _ (unhide HY) _ (unhide H8) ((unhide HUE).fr (unhide H8L)) (by have := (unhide HU0).2; simp; omega)
        refine hR.mono ?_
        clear hR
        rintro e w9 ⟨rfl, h, hh⟩
        have H9 := hide h
        have H9L := hide hh
        clear h hh
        clear g0 g1 g2 ge hgl
        clear hw0 hw1 hw2 hw3 k0 k1 k2 k3 k4 k5 k6 k7 k8 k9 t0 t1 t2 t3
        obtain ⟨k0, k1, k2, k3, k4, k5, k6, k7, k8, k9, t0, t1, t2, t3, -⟩ := (unhide HJ).step (unhide H9)
        have hw0 := lt_of_cell k0
        have hw1 := lt_of_cell t0
        simp only at hw0 hw1
        have hw2 := Nat.lt_succ_of_lt hw0
        have hw3 := Nat.lt_succ_of_lt hw1
        simp only [Nat.succ_eq_add_one] at hw2 hw3
        have hy0 := (unhide HXY).1 (by first | exact trivial | rfl)
        subst hy0
        go_wp2_with fail
        go_ret
        exact ⟨rfl, (unhide HFw).trans (unhide H9) (fun _ _ h => h)⟩
      · obtain ⟨wE, hWE⟩ : ∃ wE, wBc.setCell ⟨w7.heap.size, 3, none⟩ (.slice aoc (G.length + 1) capc) = wE := ⟨_, rfl⟩
        obtain ⟨g, hge, hg1, hg2, hg3⟩ := (unhide HTc).2.2.2.1
        subst hge
        have hbb := (unhide HTc).2.2.2.2
        have hFE : Fr (fun k => k = w7.heap.size) wBc wE := by rw [← hWE]; exact (Fr.refl _ _).setCell (Or.inl (show w7.heap.size = w7.heap.size from rfl)) _
        have hE0 : Fr (fun _ => False) W0 wE := (unhide H7).trans (by rw [← hWE]; exact unhide HFCc) (fun _ _ h => h)
        have g0 : wE.cell? ⟨w7.heap.size, 0, none⟩ = some (.int .u32 (q.wd : Nat)) := by rw [← hWE, World.cell?_setCell_other _ _ _ _ (by intro h; injection h with _ h2 _; omega)]; simp only [World.cell?, hbb]; rfl
        have g1 : wE.cell? ⟨w7.heap.size, 1, none⟩ = some (.int .u32 (q.ow : Nat)) := by rw [← hWE, World.cell?_setCell_other _ _ _ _ (by intro h; injection h with _ h2 _; omega)]; simp only [World.cell?, hbb]; rfl
        have g2 : wE.cell? ⟨w7.heap.size, 2, none⟩ = some (.bool q.sl) := by rw [← hWE, World.cell?_setCell_other _ _ _ _ (by intro h; injection h with _ h2 _; omega)]; simp only [World.cell?, hbb]; rfl
        have ge : wE.cell? ⟨w7.heap.size, 3, none⟩ = some (.slice (some ⟨g, 0, none⟩) (G.length + 1) capc) := by rw [← hWE]; exact World.cell?_setCell_same _ _ _ g3c
        have hUE : Us wE (.slice (some ⟨g, 0, none⟩) (G.length + 1) capc) (more :: G) := .inr ⟨g, 0, capc, rfl, fun j hj => (hFE.cell (p := ⟨g, 0 + j, none⟩) hg2 (by simp only; omega)).trans (by rw [Nat.zero_add]; exact hg3 j _ (by rw [ucells, List.getElem?_map, List.getElem?_eq_getElem hj]; rfl))⟩
        have HE0 := hide hE0
        have HUE := hide hUE
        rw [hWE]
        have hgl := lt_of_cell g0
        simp only at hgl
        clear hWE hFE hE0 hUE hg1 hg2 hg3 hbb HSF HF5a hw1 hw3 t0 t1 t2 t3
        clear g3a z3a HTa HR1a HR2a HFAa HFBa HFCa
        clear g3b z3b HTb HR1b HR2b HFAb HFBb HFCb
        clear g3c z3c HTc HR1c HR2c HFAc HFBc HFCc
        obtain ⟨k0, k1, k2, k3, k4, k5, k6, k7, k8, k9, t0, t1, t2, t3, -⟩ := (unhide HJ).step (unhide HE0)
        have hw0 := lt_of_cell k0
        have hw1 := lt_of_cell t0
        simp only at hw0 hw1
        have hw2 := Nat.lt_succ_of_lt hw0
        have hw3 := Nat.lt_succ_of_lt hw1
        simp only [Nat.succ_eq_add_one] at hw2 hw3
        go_wp2_with fail
        have hR := (unhide HcR) q.sl (.slice va2 G.length ca2) G _ (unhide HX) _ (unhide HE0) ((unhide HU0).1.fr (unhide HE0)).us (by have := (unhide HU0).2; omega)
        refine hR.mono ?_
        clear hR
        rintro e w8 ⟨rfl, h, hh⟩
        have H8 := hide h
        have H8L := hide hh
        clear h hh
        clear hw0 hw1 hw2 hw3 k0 k1 k2 k3 k4 k5 k6 k7 k8 k9 t0 t1 t2 t3
        obtain ⟨k0, k1, k2, k3, k4, k5, k6, k7, k8, k9, t0, t1, t2, t3, -⟩ := (unhide HJ).step (unhide H8)
        have hw0 := lt_of_cell k0
        have hw1 := lt_of_cell t0
        simp only at hw0 hw1
        have hw2 := Nat.lt_succ_of_lt hw0
        have hw3 := Nat.lt_succ_of_lt hw1
        simp only [Nat.succ_eq_add_one] at hw2 hw3
        replace g0 := ((unhide H8L).cell (p := ⟨w7.heap.size, 0, none⟩) hgl (fun h => h)).trans g0
        replace g1 := ((unhide H8L).cell (p := ⟨w7.heap.size, 1, none⟩) hgl (fun h => h)).trans g1
        replace g2 := ((unhide H8L).cell (p := ⟨w7.heap.size, 2, none⟩) hgl (fun h => h)).trans g2
        replace ge := ((unhide H8L).cell (p := ⟨w7.heap.size, 3, none⟩) hgl (fun h => h)).trans ge
        go_wp2_with fail
        have hR := (unhide HcR) q.sl (.slice (some ⟨g, 0, none⟩) (G.length + 1) capc) (more :: G) _ (unhide HY) _ (unhide H8) ((unhide HUE).fr (unhide H8L)) (by have := (unhide HU0).2; simp; omega)
        refine hR.mono ?_
        clear hR
        rintro e w9 ⟨rfl, h, hh⟩
        have H9 := hide h
        have H9L := hide hh
        clear h hh
        clear g0 g1 g2 ge hgl
        clear hw0 hw1 hw2 hw3 k0 k1 k2 k3 k4 k5 k6 k7 k8 k9 t0 t1 t2 t3
        obtain ⟨k0, k1, k2, k3, k4, k5, k6, k7, k8, k9, t0, t1, t2, t3, -⟩ := (unhide HJ).step (unhide H9)
        have hw0 := lt_of_cell k0
        have hw1 := lt_of_cell t0
        simp only at hw0 hw1
        have hw2 := Nat.lt_succ_of_lt hw0
        have hw3 := Nat.lt_succ_of_lt hw1
        simp only [Nat.succ_eq_add_one] at hw2 hw3
        have hy0 := (unhide HXY).1 (by first | exact trivial | rfl)
        subst hy0
        go_wp2_with fail
        go_ret
        exact ⟨rfl, (unhide HFw).trans (unhide H9) (fun _ _ h => h)⟩
    · have hz4 : ¬ (xC : Int) = 0 := by omega
      have H7 := H6
      obtain ⟨k0, k1, k2, k3, k4, k5, k6, k7, k8, k9, t0, t1, t2, t3, -⟩ := (unhide HJ).step (unhide H7)
      have hw0 := lt_of_cell k0
      have hw1 := lt_of_cell t0
      simp only at hw0 hw1
      have hw2 := Nat.lt_succ_of_lt hw0
      have hw3 := Nat.lt_succ_of_lt hw1
      simp only [Nat.succ_eq_add_one] at hw2 hw3
      have s0 : (0 : Int) ≤ (G.length : Int) + 1 := by omega
      have s2 : IntKind.i64.wrap ((G.length : Int) + 1) = (G.length : Int) + 1 := by have := (unhide HU0).2; rw [IntKind.wrap_i64]; omega
      have s3 : ((G.length : Int) + 1).toNat = G.length + 1 := by omega
      have HSF := hide (fun W (hf : Fr (fun _ => False) w6 W) => (hf.cell (p := ⟨w2.heap.size, 3, none⟩) hw1 (fun h => h)).trans t3)
      obtain ⟨apa, cpa, aoa, capa, wAa, wBa, hR1a, hR2a, hTa⟩ := two_a w6 (.cells #[.int .u32 (q.wd : Nat), .int .u32 (q.ow : Nat), .bool q.sl, .slice va2 G.length ca2] 29) more G va2 ca2 ((unhide HU0).1.fr (unhide H7)) (unhide HU0).2
      have s1a : (G.length : Int) + 1 ≤ (capa : Int) := by have := hTa.2.2.1; omega
      have hFCa : Fr (fun _ => False) w6 (wBa.setCell ⟨w6.heap.size, 3, none⟩ (.slice aoa (G.length + 1) capa)) := hTa.2.1.setCell (.inr (Nat.le_refl _)) _
      have g3a : wBa.cell? ⟨w6.heap.size, 3, none⟩ = some (.slice va2 G.length ca2) := by simp only [World.cell?, hTa.2.2.2.2]; rfl
      have z3a : wBa.frozen? ⟨w6.heap.size, 3, none⟩ = false := by simp [World.frozen?, hTa.2.2.2.2]
      have HR1a := hide hR1a
      have HR2a := hide hR2a
      have HFAa := hide hTa.1
      have HFBa := hide hTa.2.1
      have HFCa := hide hFCa
      have HTa := hide hTa
      clear hR1a hR2a hFCa hTa
      obtain ⟨apb, cpb, aob, capb, wAb, wBb, hR1b, hR2b, hTb⟩ := two_b w6 (.cells #[.int .u32 (q.wd : Nat), .int .u32 (q.ow : Nat), .bool q.sl, .slice va2 G.length ca2] 29) more G va2 ca2 ((unhide HU0).1.fr (unhide H7)) (unhide HU0).2
      have s1b : (G.length : Int) + 1 ≤ (capb : Int) := by have := hTb.2.2.1; omega
      have hFCb : Fr (fun _ => False) w6 (wBb.setCell ⟨w6.heap.size, 3, none⟩ (.slice aob (G.length + 1) capb)) := hTb.2.1.setCell (.inr (Nat.le_refl _)) _
      have g3b : wBb.cell? ⟨w6.heap.size, 3, none⟩ = some (.slice va2 G.length ca2) := by simp only [World.cell?, hTb.2.2.2.2]; rfl
      have z3b : wBb.frozen? ⟨w6.heap.size, 3, none⟩ = false := by simp [World.frozen?, hTb.2.2.2.2]
      have HR1b := hide hR1b
      have HR2b := hide hR2b
      have HFAb := hide hTb.1
      have HFBb := hide hTb.2.1
      have HFCb := hide hFCb
      have HTb := hide hTb
      clear hR1b hR2b hFCb hTb
      obtain ⟨apc, cpc, aoc, capc, wAc, wBc, hR1c, hR2c, hTc⟩ := two_c w6 (.cells #[.int .u32 (q.wd : Nat), .int .u32 (q.ow : Nat), .bool q.sl, .slice va2 G.length ca2] 29) more G va2 ca2 ((unhide HU0).1.fr (unhide H7)) (unhide HU0).2
      have s1c : (G.length : Int) + 1 ≤ (capc : Int) := by have := hTc.2.2.1; omega
      have hFCc : Fr (fun _ => False) w6 (wBc.setCell ⟨w6.heap.size, 3, none⟩ (.slice aoc (G.length + 1) capc)) := hTc.2.1.setCell (.inr (Nat.le_refl _)) _
      have g3c : wBc.cell? ⟨w6.heap.size, 3, none⟩ = some (.slice va2 G.length ca2) := by simp only [World.cell?, hTc.2.2.2.2]; rfl
      have z3c : wBc.frozen? ⟨w6.heap.size, 3, none⟩ = false := by simp [World.frozen?, hTc.2.2.2.2]
      have HR1c := hide hR1c
      have HR2c := hide hR2c
      have HFAc := hide hTc.1
      have HFBc := hide hTc.2.1
      have HFCc := hide hFCc
      have HTc := hide hTc
      clear hR1c hR2c hFCc hTc
      have HF5a := hide ((unhide HFAa).alloc (.cells #[.int .u32 5] 26))
      clear hw0 hw2 k0 k1 k2 k3 k4 k5 k6 k7 k8 k9
      go_wp2_with fail
      go_region_held3 (fun w' => w'.cell? ⟨w2.heap.size, 3, none⟩ = some (.slice va2 G.length ca2))
        ((refine (unhide HSF) _ ?_; first | with_reducible exact unhide HFAa | with_reducible exact unhide HFAb | with_reducible exact unhide HFAc | with_reducible exact unhide HFBa | with_reducible exact unhide HFBb | with_reducible exact unhide HFBc | with_reducible exact unhide HFCa | with_reducible exact unhide HFCb | with_reducible exact unhide HFCc | with_reducible exact unhide HF5a | (repeat first | exact Fr.refl _ _ | refine Fr.alloc ?_ _ | refine Fr.drew ?_)))
        (first | (refine step_app rfl (.tmp 56) (.tmp 58) 27 27 rfl _ _ _ (by simp [Act.eval]) (by simp [Act.eval]) (unhide HR1a) ?_) | (refine step_app rfl (.tmp 59) (.tmp 60) 27 27 rfl _ _ _ (by simp [Act.eval]) (by simp [Act.eval]) (unhide HR2a) ?_) | (refine step_app rfl (.tmp 56) (.tmp 58) 27 27 rfl _ _ _ (by simp [Act.eval]) (by simp [Act.eval]) (unhide HR1b) ?_) | (refine step_app rfl (.tmp 59) (.tmp 60) 27 27 rfl _ _ _ (by simp [Act.eval]) (by simp [Act.eval]) (unhide HR2b) ?_) | (refine step_app rfl (.tmp 56) (.tmp 58) 27 27 rfl _ _ _ (by simp [Act.eval]) (by simp [Act.eval]) (unhide HR1c) ?_) | (refine step_app rfl (.tmp 59) (.tmp 60) 27 27 rfl _ _ _ (by simp [Act.eval]) (by simp [Act.eval]) (unhide HR2c) ?_))
      · obtain ⟨wE, hWE⟩ : ∃ wE, wBa.setCell ⟨w6.heap.size, 3, none⟩ (.slice aoa (G.length + 1) capa) = wE := ⟨_, rfl⟩
        obtain ⟨g, hge, hg1, hg2, hg3⟩ := (unhide HTa).2.2.2.1
        subst hge
        have hbb := (unhide HTa).2.2.2.2
        have hFE : Fr (fun k => k = w6.heap.size) wBa wE := by rw [← hWE]; exact (Fr.refl _ _).setCell (Or.inl (show w6.heap.size = w6.heap.size from rfl)) _
        have hE0 : Fr (fun _ => False) W0 wE := (unhide H7).trans (by rw [← hWE]; exact unhide HFCa) (fun _ _ h => h)
        have g0 : wE.cell? ⟨w6.heap.size, 0, none⟩ = some (.int .u32 (q.wd : Nat)) := by rw [← hWE, World.cell?_setCell_other _ _ _ _ (by intro h; injection h with _ h2 _; omega)]; simp only [World.cell?, hbb]; rfl
        have g1 : wE.cell? ⟨w6.heap.size, 1, none⟩ = some (.int .u32 (q.ow : Nat)) := by rw [← hWE, World.cell?_setCell_other _ _ _ _ (by intro h; injection h with _ h2 _; omega)]; simp only [World.cell?, hbb]; rfl
        have g2 : wE.cell? ⟨w6.heap.size, 2, none⟩ = some (.bool q.sl) := by rw [← hWE, World.cell?_setCell_other _ _ _ _ (by intro h; injection h with _ h2 _; omega)]; simp only [World.cell?, hbb]; rfl
        have ge : wE.cell? ⟨w6.heap.size, 3, none⟩ = some (.slice (some ⟨g, 0, none⟩) (G.length + 1) capa) := by rw [← hWE]; exact World.cell?_setCell_same _ _ _ g3a
        have hUE : Us wE (.slice (some ⟨g, 0, none⟩) (G.length + 1) capa) (more :: G) := .inr ⟨g, 0, capa, rfl, fun j hj => (hFE.cell (p := ⟨g, 0 + j, none⟩) hg2 (by simp only; omega)).trans (by rw [Nat.zero_add]; exact hg3 j _ (by rw [ucells, List.getElem?_map, List.getElem?_eq_getElem hj]; rfl))⟩
        have HE0 := hide hE0
        have HUE := hide hUE
        rw [hWE]
        have hgl := lt_of_cell g0
        simp only at hgl
        clear hWE hFE hE0 hUE hg1 hg2 hg3 hbb HSF HF5a hw1 hw3 t0 t1 t2 t3
        clear g3a z3a HTa HR1a HR2a HFAa HFBa HFCa
        clear g3b z3b HTb HR1b HR2b HFAb HFBb HFCb
        clear g3c z3c HTc HR1c HR2c HFAc HFBc HFCc
        obtain ⟨k0, k1, k2, k3, k4, k5, k6, k7, k8, k9, t0, t1, t2, t3, -⟩ := (unhide HJ).step (unhide HE0)
        have hw0 := lt_of_cell k0
        have hw1 := lt_of_cell t0
        simp only at hw0 hw1
        have hw2 := Nat.lt_succ_of_lt hw0
        have hw3 := Nat.lt_succ_of_lt hw1
        simp only [Nat.succ_eq_add_one] at hw2 hw3
        go_wp2_with fail
        have hR := (unhide HcR) q.sl (.slice va2 G.length ca2) G _ (unhide HX) _ (unhide HE0) ((unhide HU0).1.fr (unhide HE0)).us (by have := (unhide HU0).2; omega)
        refine hR.mono ?_
        clear hR
        rintro e w8 ⟨rfl, h, hh⟩
        have H8 := hide h
        have H8L := hide hh
        clear h hh
        clear hw0 hw1 hw2 hw3 k0 k1 k2 k3 k4 k5 k6 k7 k8 k9 t0 t1 t2 t3
        obtain ⟨k0, k1, k2, k3, k4, k5, k6, k7, k8, k9, t0, t1, t2, t3, -⟩ := (unhide HJ).step (unhide H8)
        have hw0 := lt_of_cell k0
        have hw1 := lt_of_cell t0
        simp only at hw0 hw1
        have hw2 := Nat.lt_succ_of_lt hw0
        have hw3 := Nat.lt_succ_of_lt hw1
        simp only [Nat.succ_eq_add_one] at hw2 hw3
        replace g0 := ((unhide H8L).cell (p := ⟨w6.heap.size, 0, none⟩) hgl (fun h => h)).trans g0
        replace g1 := ((unhide H8L).cell (p := ⟨w6.heap.size, 1, none⟩) hgl (fun h => h)).trans g1
        replace g2 := ((unhide H8L).cell (p := ⟨w6.heap.size, 2, none⟩) hgl (fun h => h)).trans g2
        replace ge := ((unhide H8L).cell (p := ⟨w6.heap.size, 3, none⟩) hgl (fun h => h)).trans ge
        go_wp2_with fail
        have hR := (unhide HcR) q.sl (.slice (some ⟨g, 0, none⟩) (G.length + 1) capa) (more :: G) _ (unhide HY) _ (unhide H8) ((unhide HUE).fr (unhide H8L)) (by have := (unhide HU0).2; simp; omega)
        refine hR.mono ?_
        clear hR
        rintro e w9 ⟨rfl, h, hh⟩
        have H9 := hide h
        have H9L := hide hh
        clear h hh
        clear g0 g1 g2 ge hgl
        clear hw0 hw1 hw2 hw3 k0 k1 k2 k3 k4 k5 k6 k7 k8 k9 t0 t1 t2 t3
        obtain ⟨k0, k1, k2, k3, k4, k5, k6, k7, k8, k9, t0, t1, t2, t3, -⟩ := (unhide HJ).step (unhide H9)
        have hw0 := lt_of_cell k0
        have hw1 := lt_of_cell t0
        simp only at hw0 hw1
        have hw2 := Nat.lt_succ_of_lt hw0
        have hw3 := Nat.lt_succ_of_lt hw1
        simp only [Nat.succ_eq_add_one] at hw2 hw3
        have hy0 := (unhide HXY).1 (by first | exact trivial | rfl)
        subst hy0
        go_wp2_with fail
        go_ret
        exact ⟨rfl, (unhide HFw).trans (unhide H9) (fun _ _ h => h)⟩
      · obtain ⟨wE, hWE⟩ : ∃ wE, wBb.setCell ⟨w6.heap.size, 3, none⟩ (.slice aob (G.length + 1) capb) = wE := ⟨_, rfl⟩
        obtain ⟨g, hge, hg1, hg2, hg3⟩ := (unhide HTb).2.2.2.1
        subst hge
        have hbb := (unhide HTb).2.2.2.2
        have hFE : Fr (fun k => k = w6.heap.size) wBb wE := by rw [← hWE]; exact (Fr.refl _ _).setCell (Or.inl (show w6.heap.size = w6.heap.size from rfl)) _
        have hE0 : Fr (fun _ => False) W0 wE := (unhide H7).trans (by rw [← hWE]; exact unhide HFCb) (fun _ _ h => h)
        have g0 : wE.cell? ⟨w6.heap.size, 0, none⟩ = some (.int .u32 (q.wd : Nat)) := by rw [← hWE, World.cell?_setCell_other _ _ _ _ (by intro h; injection h with _ h2 _; omega)]; simp only [World.cell?, hbb]; rfl
        have g1 : wE.cell? ⟨w6.heap.size, 1, none⟩ = some (.int .u32 (q.ow : Nat)) := by rw [← hWE, World.cell?_setCell_other _ _ _ _ (by intro h; injection h with _ h2 _; omega)]; simp only [World.cell?, hbb]; rfl
        have g2 : wE.cell? ⟨w6.heap.size, 2, none⟩ = some (.bool q.sl) := by rw [← hWE, World.cell?_setCell_other _ _ _ _ (by intro h; injection h with _ h2 _; omega)]; simp only [World.cell?, hbb]; rfl
        have ge : wE.cell? ⟨w6.heap.size, 3, none⟩ = some (.slice (some ⟨g, 0, none⟩) (G.length + 1) capb) := by rw [← hWE]; exact World.cell?_setCell_same _ _ _ g3b
        have hUE : Us wE (.slice (some ⟨g, 0, none⟩) (G.length + 1) capb) (more :: G) := .inr ⟨g, 0, capb, rfl, fun j hj => (hFE.cell (p := ⟨g, 0 + j, none⟩) hg2 (by simp only; omega)).trans (by rw [Nat.zero_add]; exact hg3 j _ (by rw [ucells, List.getElem?_map, List.getElem?_eq_getElem hj]; rfl))⟩
        have HE0 := hide hE0
        have HUE := hide hUE
        rw [hWE]
        have hgl := lt_of_cell g0
        simp only at hgl
        clear hWE hFE hE0 hUE hg1 hg2 hg3 hbb HSF HF5a hw1 hw3 t0 t1 t2 t3
        clear g3a z3a HTa HR1a HR2a HFAa HFBa HFCa
        clear g3b z3b HTb HR1b HR2b HFAb HFBb HFCb
        clear g3c z3c HTc HR1c HR2c HFAc HFBc HFCc
        obtain ⟨k0, k1, k2, k3, k4, k5, k6, k7, k8, k9, t0, t1, t2, t3, -⟩ := (unhide HJ).step (unhide HE0)
        have hw0 := lt_of_cell k0
        have hw1 := lt_of_cell t0
        simp only at hw0 hw1
        have hw2 := Nat.lt_succ_of_lt hw0
        have hw3 := Nat.lt_succ_of_lt hw1
        simp only [Nat.succ_eq_add_one] at hw2 hw3
        go_wp2_with fail
        have hR := (unhide HcR) q.sl (.slice va2 G.length ca2) G _ (unhide HX) _ (unhide HE0) ((unhide HU0).1.fr (unhide HE0)).us (by have := (unhide HU0).2; omega)
        refine hR.mono ?_
        clear hR
        rintro e w8 ⟨rfl, h, hh⟩
        have H8 := hide h
        have H8L := hide hh
        clear h hh
        clear hw0 hw1 hw2 hw3 k0 k1 k2 k3 k4 k5 k6 k7 k8 k9 t0 t1 t2 t3
        obtain ⟨k0, k1, k2, k3, k4, k5, k6, k7, k8, k9, t0, t1, t2, t3, -⟩ := (unhide HJ).step (unhide H8)
        have hw0 := lt_of_cell k0
        have hw1 := lt_of_cell t0
        simp only at hw0 hw1
        have hw2 := Nat.lt_succ_of_lt hw0
        have hw3 := Nat.lt_succ_of_lt hw1
        simp only [Nat.succ_eq_add_one] at hw2 hw3
        replace g0 := ((unhide H8L).cell (p := ⟨w6.heap.size, 0, none⟩) hgl (fun h => h)).trans g0
        replace g1 := ((unhide H8L).cell (p := ⟨w6.heap.size, 1, none⟩) hgl (fun h => h)).trans g1
        replace g2 := ((unhide H8L).cell (p := ⟨w6.heap.size, 2, none⟩) hgl (fun h => h)).trans g2
        replace ge := ((unhide H8L).cell (p := ⟨w6.heap.size, 3, none⟩) hgl (fun h => h)).trans ge
        go_wp2_with fail
        have hR := (unhide HcR) q.sl (.slice (some ⟨g, 0, none⟩) (G.length + 1) capb) (more :: G) _ (unhide HY) _ (unhide H8) ((unhide HUE).fr (unhide H8L)) (by have := (unhide HU0).2; simp; omega)
        refine hR.mono ?_
        clear hR
        rintro e w9 ⟨rfl, h, hh⟩
        have H9 := hide h
        have H9L := hide hh
        clear h hh
        clear g0 g1 g2 ge hgl
        clear hw0 hw1 hw2 hw3 k0 k1 k2 k3 k4 k5 k6 k7 k8 k9 t0 t1 t2 t3
        obtain ⟨k0, k1, k2, k3, k4, k5, k6, k7, k8, k9, t0, t1, t2, t3, -⟩ := (unhide HJ).step (unhide H9)
        have hw0 := lt_of_cell k0
        have hw1 := lt_of_cell t0
        simp only at hw0 hw1
        have hw2 := Nat.lt_succ_of_lt hw0
        have hw3 := Nat.lt_succ_of_lt hw1
        simp only [Nat.succ_eq_add_one] at hw2 hw3
        have hy0 := (unhide HXY).1 (by first | exact trivial | rfl)
        subst hy0
        go_wp2_with fail
        go_ret
        exact ⟨rfl, (unhide HFw).trans (unhide H9) (fun _ _ h => h)⟩
      · obtain ⟨wE, hWE⟩ : ∃ wE, wBc.setCell ⟨w6.heap.size, 3, none⟩ (.slice aoc (G.length + 1) capc) = wE := ⟨_, rfl⟩
        obtain ⟨g, hge, hg1, hg2, hg3⟩ := (unhide HTc).2.2.2.1
        subst hge
        have hbb := (unhide HTc).2.2.2.2
        have hFE : Fr (fun k => k = w6.heap.size) wBc wE := by rw [← hWE]; exact (Fr.refl _ _).setCell (Or.inl (show w6.heap.size = w6.heap.size from rfl)) _
        have hE0 : Fr (fun _ => False) W0 wE := (unhide H7).trans (by rw [← hWE]; exact unhide HFCc) (fun _ _ h => h)
        have g0 : wE.cell? ⟨w6.heap.size, 0, none⟩ = some (.int .u32 (q.wd : Nat)) := by rw [← hWE, World.cell?_setCell_other _ _ _ _ (by intro h; injection h with _ h2 _; omega)]; simp only [World.cell?, hbb]; rfl
        have g1 : wE.cell? ⟨w6.heap.size, 1, none⟩ = some (.int .u32 (q.ow : Nat)) := by rw [← hWE, World.cell?_setCell_other _ _ _ _ (by intro h; injection h with _ h2 _; omega)]; simp only [World.cell?, hbb]; rfl
        have g2 : wE.cell? ⟨w6.heap.size, 2, none⟩ = some (.bool q.sl) := by rw [← hWE, World.cell?_setCell_other _ _ _ _ (by intro h; injection h with _ h2 _; omega)]; simp only [World.cell?, hbb]; rfl
        have ge : wE.cell? ⟨w6.heap.size, 3, none⟩ = some (.slice (some ⟨g, 0, none⟩) (G.length + 1) capc) := by rw [← hWE]; exact World.cell?_setCell_same _ _ _ g3c
        have hUE : Us wE (.slice (some ⟨g, 0, none⟩) (G.length + 1) capc) (more :: G) := .inr ⟨g, 0, capc, rfl, fun j hj => (hFE.cell (p := ⟨g, 0 + j, none⟩) hg2 (by simp only; omega)).trans (by rw [Nat.zero_add]; exact hg3 j _ (by rw [ucells, List.getElem?_map, List.getElem?_eq_getElem hj]; rfl))⟩
        have HE0 := hide hE0
        have HUE := hide hUE
        rw [hWE]
        have hgl := lt_of_cell g0
        simp only at hgl
        clear hWE hFE hE0 hUE hg1 hg2 hg3 hbb HSF HF5a hw1 hw3 t0 t1 t2 t3
        clear g3a z3a HTa HR1a HR2a HFAa HFBa HFCa
        clear g3b z3b HTb HR1b HR2b HFAb HFBb HFCb
        clear g3c z3c HTc HR1c HR2c HFAc HFBc HFCc
        obtain ⟨k0, k1, k2, k3, k4, k5, k6, k7, k8, k9, t0, t1, t2, t3, -⟩ := (unhide HJ).step (unhide HE0)
        have hw0 := lt_of_cell k0
        have hw1 := lt_of_cell t0
        simp only at hw0 hw1
        have hw2 := Nat.lt_succ_of_lt hw0
        have hw3 := Nat.lt_succ_of_lt hw1
        simp only [Nat.succ_eq_add_one] at hw2 hw3
        go_wp2_with fail
        have hR := (unhide HcR) q.sl (.slice va2 G.length ca2) G _ (unhide HX) _ (unhide HE0) ((unhide HU0).1.fr (unhide HE0)).us (by have := (unhide HU0).2; omega)
        refine hR.mono ?_
        clear hR
        rintro e w8 ⟨rfl, h, hh⟩
        have H8 := hide h
        have H8L := hide hh
        clear h hh
        clear hw0 hw1 hw2 hw3 k0 k1 k2 k3 k4 k5 k6 k7 k8 k9 t0 t1 t2 t3
        obtain ⟨k0, k1, k2, k3, k4, k5, k6, k7, k8, k9, t0, t1, t2, t3, -⟩ := (unhide HJ).step (unhide H8)
        have hw0 := lt_of_cell k0
        have hw1 := lt_of_cell t0
        simp only at hw0 hw1
        have hw2 := Nat.lt_succ_of_lt hw0
        have hw3 := Nat.lt_succ_of_lt hw1
        simp only [Nat.succ_eq_add_one] at hw2 hw3
        replace g0 := ((unhide H8L).cell (p := ⟨w6.heap.size, 0, none⟩) hgl (fun h => h)).trans g0
        replace g1 := ((unhide H8L).cell (p := ⟨w6.heap.size, 1, none⟩) hgl (fun h => h)).trans g1
        replace g2 := ((unhide H8L).cell (p := ⟨w6.heap.size, 2, none⟩) hgl (fun h => h)).trans g2
        replace ge := ((unhide H8L).cell (p := ⟨w6.heap.size, 3, none⟩) hgl (fun h => h)).trans ge
        go_wp2_with fail
        have hR := (unhide HcR) q.sl (.slice (some ⟨g, 0, none⟩) (G.length + 1) capc) (more :: G) _ (unhide HY) _ (unhide H8) ((unhide HUE).fr (unhide H8L)) (by have := (unhide HU0).2; simp; omega)
        refine hR.mono ?_
        clear hR
        rintro e w9 ⟨rfl, h, hh⟩
        have H9 := hide h
        have H9L := hide hh
        clear h hh
        clear g0 g1 g2 ge hgl
        clear hw0 hw1 hw2 hw3 k0 k1 k2 k3 k4 k5 k6 k7 k8 k9 t0 t1 t2 t3
        obtain ⟨k0, k1, k2, k3, k4, k5, k6, k7, k8, k9, t0, t1, t2, t3, -⟩ := (unhide HJ).step (unhide H9)
        have hw0 := lt_of_cell k0
        have hw1 := lt_of_cell t0
        simp only at hw0 hw1
        have hw2 := Nat.lt_succ_of_lt hw0
        have hw3 := Nat.lt_succ_of_lt hw1
        simp only [Nat.succ_eq_add_one] at hw2 hw3
        have hy0 := (unhide HXY).1 (by first | exact trivial | rfl)
        subst hy0
        go_wp2_with fail
        go_ret
        exact ⟨rfl, (unhide HFw).trans (unhide H9) (fun _ _ h => h)⟩
  · have hz2 : ¬ (xA : Int) = 0 := by omega
    have H4 := H3
    obtain ⟨k0, k1, k2, k3, k4, k5, k6, k7, k8, k9, t0, t1, t2, t3, -⟩ := (unhide HJ).step (unhide H4)
    have hw0 := lt_of_cell k0
    have hw1 := lt_of_cell t0
    simp only at hw0 hw1
    have hw2 := Nat.lt_succ_of_lt hw0
    have hw3 := Nat.lt_succ_of_lt hw1
    simp only [Nat.succ_eq_add_one] at hw2 hw3
    go_wp2_with fail
    obtain ⟨W5, hW5⟩ : ∃ W5, (w3.alloc (.cells #[.int .u32 (q.wd : Nat), .int .u32 (q.ow : Nat), .bool false, .slice va2 G.length ca2] 29)).alloc (.cells #[.int .u32 (q.wd : Nat), .int .u32 (q.ow : Nat), .bool true, .slice va2 G.length ca2] 29) = W5 := ⟨_, rfl⟩
    have hF5 : Fr (fun _ => False) W0 W5 := by rw [← hW5]; exact ((unhide H4).alloc _).alloc _
    have hbo : W5.heap[w3.heap.size]? = some (.cells #[.int .u32 (q.wd : Nat), .int .u32 (q.ow : Nat), .bool false, .slice va2 G.length ca2] 29) := by rw [← hW5]; exact (Below.heap_alloc _ _ _ (by simp)).trans Array.getElem?_push_size
    have hlo : w3.heap.size < W5.heap.size := by rw [← hW5]; simp; omega
    have H5 := hide hF5
    have HBO := hide (And.intro hbo hlo)
    rw [hW5]
    clear hW5 hF5 hbo hlo
    clear hw0 hw1 hw2 hw3 k0 k1 k2 k3 k4 k5 k6 k7 k8 k9 t0 t1 t2 t3
    have hR := (unhide HcR) true (.slice va2 G.length ca2) G xC (unhide HC) _ (unhide H5) ((unhide HU0).1.fr (unhide H5)).us (by have := (unhide HU0).2; omega)
    refine hR.mono ?_
    clear hR
    rintro e w6 ⟨rfl, h, hh⟩
    have H6 := hide h
    have H6L := hide hh
    clear h hh
    by_cases hz3 : xC = 0
    · have hx0 := (unhide HCO) hz3
      subst hz3
      obtain ⟨k0, k1, k2, k3, k4, k5, k6, k7, k8, k9, t0, t1, t2, t3, -⟩ := (unhide HJ).step (unhide H6)
      have hw0 := lt_of_cell k0
      have hw1 := lt_of_cell t0
      simp only at hw0 hw1
      have hw2 := Nat.lt_succ_of_lt hw0
      have hw3 := Nat.lt_succ_of_lt hw1
      simp only [Nat.succ_eq_add_one] at hw2 hw3
      have hob : w6.heap[w3.heap.size]? = some (.cells #[.int .u32 (q.wd : Nat), .int .u32 (q.ow : Nat), .bool false, .slice va2 G.length ca2] 29) := ((unhide H6L).block _ (unhide HBO).2 (fun h => h)).trans (unhide HBO).1
      have p0 : w6.cell? ⟨w3.heap.size, 0, none⟩ = some (.int .u32 (q.wd : Nat)) := by simp only [World.cell?, hob]; rfl
      have p1 : w6.cell? ⟨w3.heap.size, 1, none⟩ = some (.int .u32 (q.ow : Nat)) := by simp only [World.cell?, hob]; rfl
      have p2 : w6.cell? ⟨w3.heap.size, 2, none⟩ = some (.bool false) := by simp only [World.cell?, hob]; rfl
      have p3 : w6.cell? ⟨w3.heap.size, 3, none⟩ = some (.slice va2 G.length ca2) := by simp only [World.cell?, hob]; rfl
      clear hob
      go_wp2_with fail
      have hR := (unhide HcR) false (.slice va2 G.length ca2) G xO (unhide HO) _ (unhide H6) ((unhide HU0).1.fr (unhide H6)).us (by have := (unhide HU0).2; omega)
      refine hR.mono ?_
      clear hR
      rintro e w7 ⟨rfl, h, hh⟩
      have H7 := hide h
      have H7L := hide hh
      clear h hh
      clear hw0 hw1 hw2 hw3 k0 k1 k2 k3 k4 k5 k6 k7 k8 k9 t0 t1 t2 t3
      clear p0 p1 p2 p3
      subst hx0
      obtain ⟨k0, k1, k2, k3, k4, k5, k6, k7, k8, k9, t0, t1, t2, t3, -⟩ := (unhide HJ).step (unhide H7)
      have hw0 := lt_of_cell k0
      have hw1 := lt_of_cell t0
      simp only at hw0 hw1
      have hw2 := Nat.lt_succ_of_lt hw0
      have hw3 := Nat.lt_succ_of_lt hw1
      simp only [Nat.succ_eq_add_one] at hw2 hw3
      have s0 : (0 : Int) ≤ (G.length : Int) + 1 := by omega
      have s2 : IntKind.i64.wrap ((G.length : Int) + 1) = (G.length : Int) + 1 := by have := (unhide HU0).2; rw [IntKind.wrap_i64]; omega
      have s3 : ((G.length : Int) + 1).toNat = G.length + 1 := by omega
      have HSF := hide (fun W (hf : Fr (fun _ => False) w7 W) => (hf.cell (p := ⟨w2.heap.size, 3, none⟩) hw1 (fun h => h)).trans t3)
      obtain ⟨apa, cpa, aoa, capa, wAa, wBa, hR1a, hR2a, hTa⟩ := two_a w7 (.cells #[.int .u32 (q.wd : Nat), .int .u32 (q.ow : Nat), .bool q.sl, .slice va2 G.length ca2] 29) more G va2 ca2 ((unhide HU0).1.fr (unhide H7)) (unhide HU0).2
      have s1a : (G.length : Int) + 1 ≤ (capa : Int) := by have := hTa.2.2.1; omega
      have hFCa : Fr (fun _ => False) w7 (wBa.setCell ⟨w7.heap.size, 3, none⟩ (.slice aoa (G.length + 1) capa)) := hTa.2.1.setCell (.inr (Nat.le_refl _)) _
      have g3a : wBa.cell? ⟨w7.heap.size, 3, none⟩ = some (.slice va2 G.length ca2) := by simp only [World.cell?, hTa.2.2.2.2]; rfl
      have z3a : wBa.frozen? ⟨w7.heap.size, 3, none⟩ = false := by simp [World.frozen?, hTa.2.2.2.2]
      have HR1a := hide hR1a
      have HR2a := hide hR2a
      have HFAa := hide hTa.1
      have HFBa := hide hTa.2.1
      have HFCa := hide hFCa
      have HTa := hide hTa
      clear hR1a hR2a hFCa hTa
      obtain ⟨apb, cpb, aob, capb, wAb, wBb, hR1b, hR2b, hTb⟩ := two_b w7 (.cells #[.int .u32 (q.wd : Nat), .int .u32 (q.ow : Nat), .bool q.sl, .slice va2 G.length ca2] 29) more G va2 ca2 ((unhide HU0).1.fr (unhide H7)) (unhide HU0).2
      have s1b : (G.length : Int) + 1 ≤ (capb : Int) := by have := hTb.2.2.1; omega
      have hFCb : Fr (fun _ => False) w7 (wBb.setCell ⟨w7.heap.size, 3, none⟩ (.slice aob (G.length + 1) capb)) := hTb.2.1.setCell (.inr (Nat.le_refl _)) _
      have g3b : wBb.cell? ⟨w7.heap.size, 3, none⟩ = some (.slice va2 G.length ca2) := by simp only [World.cell?, hTb.2.2.2.2]; rfl
      have z3b : wBb.frozen? ⟨w7.heap.size, 3, none⟩ = false := by simp [World.frozen?, hTb.2.2.2.2]
      have HR1b := hide hR1b
      have HR2b := hide hR2b
      have HFAb := hide hTb.1
      have HFBb := hide hTb.2.1
      have HFCb := hide hFCb
      have HTb := hide hTb
      clear hR1b hR2b hFCb hTb
      obtain ⟨apc, cpc, aoc, capc, wAc, wBc, hR1c, hR2c, hTc⟩ := two_c w7 (.cells #[.int .u32 (q.wd : Nat), .int .u32 (q.ow : Nat), .bool q.sl, .slice va2 G.length ca2] 29) more G va2 ca2 ((unhide HU0).1.fr (unhide H7)) (unhide HU0).2
      have s1c : (G.length : Int) + 1 ≤ (capc : Int) := by have := hTc.2.2.1; omega
      have hFCc : Fr (fun _ => False) w7 (wBc.setCell ⟨w7.heap.size, 3, none⟩ (.slice aoc (G.length + 1) capc)) := hTc.2.1.setCell (.inr (Nat.le_refl _)) _
      have g3c : wBc.cell? ⟨w7.heap.size, 3, none⟩ = some (.slice va2 G.length ca2) := by simp only [World.cell?, hTc.2.2.2.2]; rfl
      have z3c : wBc.frozen? ⟨w7.heap.size, 3, none⟩ = false := by simp [World.frozen?, hTc.2.2.2.2]
      have HR1c := hide hR1c
      have HR2c := hide hR2c
      have HFAc := hide hTc.1
      have HFBc := hide hTc.2.1
      have HFCc := hide hFCc
      have HTc := hide hTc
      clear hR1c hR2c hFCc hTc
      have HF5a := hide ((unhide HFAa).alloc (.cells #[.int .u32 5] 26))
      clear hw0 hw2 k0 k1 k2 k3 k4 k5 k6 k7 k8 k9
      go_wp2_with fail
      go_region_held3 (fun w' => w'.cell? ⟨w2.heap.size, 3, none⟩ = some (.slice va2 G.length ca2))
        ((refine (unhide HSF) _ ?_; first | with_reducible exact unhide HFAa | with_reducible exact unhide HFAb | with_reducible exact unhide HFAc | with_reducible exact unhide HFBa | with_reducible exact unhide HFBb | with_reducible exact unhide HFBc | with_reducible exact unhide HFCa | with_reducible exact unhide HFCb | with_reducible exact unhide HFCc | with_reducible exact unhide HF5a | (repeat first | exact Fr.refl _ _ | refine Fr.alloc ?_ _ | refine Fr.drew ?_)))
        (first | (refine step_app rfl (.tmp 56) (.tmp 58) 27 27 rfl _ _ _ (by simp [Act.eval]) (by simp [Act.eval]) (unhide HR1a) ?_) | (refine step_app rfl (.tmp 59) (.tmp 60) 27 27 rfl _ _ _ (by simp [Act.eval]) (by simp [Act.eval]) (unhide HR2a) ?_) | (refine step_app rfl (.tmp 56) (.tmp 58) 27 27 rfl _ _ _ (by simp [Act.eval]) (by simp [Act.eval]) (unhide HR1b) ?_) | (refine step_app rfl (.tmp 59) (.tmp 60) 27 27 rfl _ _ _ (by simp [Act.eval]) (by simp [Act.eval]) (unhide HR2b) ?_) | (refine step_app rfl (.tmp 56) (.tmp 58) 27 27 rfl _ _ _ (by simp [Act.eval]) (by simp [Act.eval]) (unhide HR1c) ?_) | (refine step_app rfl (.tmp 59) (.tmp 60) 27 27 rfl _ _ _ (by simp [Act.eval]) (by simp [Act.eval]) (unhide HR2c) ?_))
      · obtain ⟨wE, hWE⟩ : ∃ wE, wBa.setCell ⟨w7.heap.size, 3, none⟩ (.slice aoa (G.length + 1) capa) = wE := ⟨_, rfl⟩
        obtain ⟨g, hge, hg1, hg2, hg3⟩ := (unhide HTa).2.2.2.1
        subst hge
        have hbb := (unhide HTa).2.2.2.2
        have hFE : Fr (fun k => k = w7.heap.size) wBa wE := by rw [← hWE]; exact (Fr.refl _ _).setCell (Or.inl (show w7.heap.size = w7.heap.size from rfl)) _
        have hE0 : Fr (fun _ => False) W0 wE := (unhide H7).trans (by rw [← hWE]; exact unhide HFCa) (fun _ _ h => h)
        have g0 : wE.cell? ⟨w7.heap.size, 0, none⟩ = some (.int .u32 (q.wd : Nat)) := by rw [← hWE, World.cell?_setCell_other _ _ _ _ (by intro h; injection h with _ h2 _; omega)]; simp only [World.cell?, hbb]; rfl
        have g1 : wE.cell? ⟨w7.heap.size, 1, none⟩ = some (.int .u32 (q.ow : Nat)) := by rw [← hWE, World.cell?_setCell_other _ _ _ _ (by intro h; injection h with _ h2 _; omega)]; simp only [World.cell?, hbb]; rfl
        have g2 : wE.cell? ⟨w7.heap.size, 2, none⟩ = some (.bool q.sl) := by rw [← hWE, World.cell?_setCell_other _ _ _ _ (by intro h; injection h with _ h2 _; omega)]; simp only [World.cell?, hbb]; rfl
        have ge : wE.cell? ⟨w7.heap.size, 3, none⟩ = some (.slice (some ⟨g, 0, none⟩) (G.length + 1) capa) := by rw [← hWE]; exact World.cell?_setCell_same _ _ _ g3a
        have hUE : Us wE (.slice (some ⟨g, 0, none⟩) (G.length + 1) capa) (more :: G) := .inr ⟨g, 0, capa, rfl, fun j hj => (hFE.cell (p := ⟨g, 0 + j, none⟩) hg2 (by simp only; omega)).trans (by rw [Nat.zero_add]; exact hg3 j _ (by rw [ucells, List.getElem?_map, List.getElem?_eq_getElem hj]; rfl))⟩
        have HE0 := hide hE0
        have HUE := hide hUE
        rw [hWE]
        have hgl := lt_of_cell g0
        simp only at hgl
        clear hWE hFE hE0 hUE hg1 hg2 hg3 hbb HSF HF5a hw1 hw3 t0 t1 t2 t3
        clear g3a z3a HTa HR1a HR2a HFAa HFBa HFCa
        clear g3b z3b HTb HR1b HR2b HFAb HFBb HFCb
        clear g3c z3c HTc HR1c HR2c HFAc HFBc HFCc
        obtain ⟨k0, k1, k2, k3, k4, k5, k6, k7, k8, k9, t0, t1, t2, t3, -⟩ := (unhide HJ).step (unhide HE0)
        have hw0 := lt_of_cell k0
        have hw1 := lt_of_cell t0
        simp only at hw0 hw1
        have hw2 := Nat.lt_succ_of_lt hw0
        have hw3 := Nat.lt_succ_of_lt hw1
        simp only [Nat.succ_eq_add_one] at hw2 hw3
        go_wp2_with fail
        have hR := (unhide HcR) q.sl (.slice va2 G.length ca2) G _ (unhide HX) _ (unhide HE0) ((unhide HU0).1.fr (unhide HE0)).us (by have := (unhide HU0).2; omega)
        refine hR.mono ?_
        clear hR
        rintro e w8 ⟨rfl, h, hh⟩
        have H8 := hide h
        have H8L := hide hh
        clear h hh
        clear hw0 hw1 hw2 hw3 k0 k1 k2 k3 k4 k5 k6 k7 k8 k9 t0 t1 t2 t3
        obtain ⟨k0, k1, k2, k3, k4, k5, k6, k7, k8, k9, t0, t1, t2, t3, -⟩ := (unhide HJ).step (unhide H8)
        have hw0 := lt_of_cell k0
        have hw1 := lt_of_cell t0
        simp only at hw0 hw1
        have hw2 := Nat.lt_succ_of_lt hw0
        have hw3 := Nat.lt_succ_of_lt hw1
        simp only [Nat.succ_eq_add_one] at hw2 hw3
        replace g0 := ((unhide H8L).cell (p := ⟨w7.heap.size, 0, none⟩) hgl (fun h => h)).trans g0
        replace g1 := ((unhide H8L).cell (p := ⟨w7.heap.size, 1, none⟩) hgl (fun h => h)).trans g1
        replace g2 := ((unhide H8L).cell (p := ⟨w7.heap.size, 2, none⟩) hgl (fun h => h)).trans g2
        replace ge := ((unhide H8L).cell (p := ⟨w7.heap.size, 3, none⟩) hgl (fun h => h)).trans ge
        go_wp2_with fail
        have hR := (unhide HcR) q.sl (.slice (some ⟨g, 0, none⟩) (G.length + 1) capa) (more :: G) _ (unhide HY) _ (unhide H8) ((unhide HUE).fr (unhide H8L)) (by have := (unhide HU0).2; simp; omega)
        refine hR.mono ?_
        clear hR
        rintro e w9 ⟨rfl, h, hh⟩
        have H9 := hide h
        have H9L := hide hh
        clear h hh
        clear g0 g1 g2 ge hgl
        clear hw0 hw1 hw2 hw3 k0 k1 k2 k3 k4 k5 k6 k7 k8 k9 t0 t1 t2 t3
        obtain ⟨k0, k1, k2, k3, k4, k5, k6, k7, k8, k9, t0, t1, t2, t3, -⟩ := (unhide HJ).step (unhide H9)
        have hw0 := lt_of_cell k0
        have hw1 := lt_of_cell t0
        simp only at hw0 hw1
        have hw2 := Nat.lt_succ_of_lt hw0
        have hw3 := Nat.lt_succ_of_lt hw1
        simp only [Nat.succ_eq_add_one] at hw2 hw3
        by_cases hx : xX = 0
        · have hy0 := (unhide HXY).1 hx
          subst hx
          subst hy0
          go_wp2_with fail
          go_ret
          exact ⟨rfl, (unhide HFw).trans (unhide H9) (fun _ _ h => h)⟩
        · have ix : ¬ (xX : Int) = 0 := by omega
          have jx : ((xX : Int) == 0) = false := by simpa using ix
          rcases (unhide HXY).2 with hxy | ⟨hk, hy⟩
          · subst hxy
            go_wp2_with fail
            go_ret
            exact ⟨rfl, (unhide HFw).trans (unhide H9) (fun _ _ h => h)⟩
          · have hkb : ((q.k : Int) == (more : Int)) = true := by rw [beq_cast]; simp [hk]
            subst hy
            go_wp2_with fail
            go_ret
            exact ⟨rfl, (unhide HFw).trans (unhide H9) (fun _ _ h => h)⟩
      · obtain ⟨wE, hWE⟩ : ∃ wE, wBb.setCell ⟨w7.heap.size, 3, none⟩ (.slice aob (G.length + 1) capb) = wE := ⟨_, rfl⟩
        obtain ⟨g, hge, hg1, hg2, hg3⟩ := (unhide HTb).2.2.2.1
        subst hge
        have hbb := (unhide HTb).2.2.2.2
        have hFE : Fr (fun k => k = w7.heap.size) wBb wE := by rw [← hWE]; exact (Fr.refl _ _).setCell (Or.inl (show w7.heap.size = w7.heap.size from rfl)) _
        have hE0 : Fr (fun _ => False) W0 wE := (unhide H7).trans (by rw [← hWE]; exact unhide HFCb) (fun _ _ h => h)
        have g0 : wE.cell? ⟨w7.heap.size, 0, none⟩ = some (.int .u32 (q.wd : Nat)) := by rw [← hWE, World.cell?_setCell_other _ _ _ _ (by intro h; injection h with _ h2 _; omega)]; simp only [World.cell?, hbb]; rfl
        have g1 : wE.cell? ⟨w7.heap.size, 1, none⟩ = some (.int .u32 (q.ow : Nat)) := by rw [← hWE, World.cell?_setCell_other _ _ _ _ (by intro h; injection h with _ h2 _; omega)]; simp only [World.cell?, hbb]; rfl
        have g2 : wE.cell? ⟨w7.heap.size, 2, none⟩ = some (.bool q.sl) := by rw [← hWE, World.cell?_setCell_other _ _ _ _ (by intro h; injection h with _ h2 _; omega)]; simp only [World.cell?, hbb]; rfl
        have ge : wE.cell? ⟨w7.heap.size, 3, none⟩ = some (.slice (some ⟨g, 0, none⟩) (G.length + 1) capb) := by rw [← hWE]; exact World.cell?_setCell_same _ _ _ g3b
        have hUE : Us wE (.slice (some ⟨g, 0, none⟩) (G.length + 1) capb) (more :: G) := .inr ⟨g, 0, capb, rfl, fun j hj => (hFE.cell (p := ⟨g, 0 + j, none⟩) hg2 (by simp only; omega)).trans (by rw [Nat.zero_add]; exact hg3 j _ (by rw [ucells, List.getElem?_map, List.getElem?_eq_getElem hj]; rfl))⟩
        have HE0 := hide hE0
        have HUE := hide hUE
        rw [hWE]
        have hgl := lt_of_cell g0
        simp only at hgl
        clear hWE hFE hE0 hUE hg1 hg2 hg3 hbb HSF HF5a hw1 hw3 t0 t1 t2 t3
        clear g3a z3a HTa HR1a HR2a HFAa HFBa HFCa
        clear g3b z3b HTb HR1b HR2b HFAb HFBb HFCb
        clear g3c z3c HTc HR1c HR2c HFAc HFBc HFCc
        obtain ⟨k0, k1, k2, k3, k4, k5, k6, k7, k8, k9, t0, t1, t2, t3, -⟩ := (unhide HJ).step (unhide HE0)
        have hw0 := lt_of_cell k0
        have hw1 := lt_of_cell t0
        simp only at hw0 hw1
        have hw2 := Nat.lt_succ_of_lt hw0
        have hw3 := Nat.lt_succ_of_lt hw1
        simp only [Nat.succ_eq_add_one] at hw2 hw3
        go_wp2_with fail
        have hR := (unhide HcR) q.sl (.slice va2 G.length ca2) G _ (unhide HX) _ (unhide HE0) ((unhide HU0).1.fr (unhide HE0)).us (by have := (unhide HU0).2; omega)
        refine hR.mono ?_
        clear hR
        rintro e w8 ⟨rfl, h, hh⟩
        have H8 := hide h
        have H8L := hide hh
        clear h hh
        clear hw0 hw1 hw2 hw3 k0 k1 k2 k3 k4 k5 k6 k7 k8 k9 t0 t1 t2 t3
        obtain ⟨k0, k1, k2, k3, k4, k5, k6, k7, k8, k9, t0, t1, t2, t3, -⟩ := (unhide HJ).step (unhide H8)
        have hw0 := lt_of_cell k0
        have hw1 := lt_of_cell t0
        simp only at hw0 hw1
        have hw2 := Nat.lt_succ_of_lt hw0
        have hw3 := Nat.lt_succ_of_lt hw1
        simp only [Nat.succ_eq_add_one] at hw2 hw3
        replace g0 := ((unhide H8L).cell (p := ⟨w7.heap.size, 0, none⟩) hgl (fun h => h)).trans g0
        replace g1 := ((unhide H8L).cell (p := ⟨w7.heap.size, 1, none⟩) hgl (fun h => h)).trans g1
        replace g2 := ((unhide H8L).cell (p := ⟨w7.heap.size, 2, none⟩) hgl (fun h => h)).trans g2
        replace ge := ((unhide H8L).cell (p := ⟨w7.heap.size, 3, none⟩) hgl (fun h => h)).trans ge
        go_wp2_with fail
        have hR := (unhide HcR) q.sl (.slice (some ⟨g, 0, none⟩) (G.length + 1) capb) (more :: G) _ (unhide HY) _ (unhide H8) ((unhide HUE).fr (unhide H8L)) (by have := (unhide HU0).2; simp; omega)
        refine hR.mono ?_
        clear hR
        rintro e w9 ⟨rfl, h, hh⟩
        have H9 := hide h
        have H9L := hide hh
        clear h hh
        clear g0 g1 g2 ge hgl
        clear hw0 hw1 hw2 hw3 k0 k1 k2 k3 k4 k5 k6 k7 k8 k9 t0 t1 t2 t3
        obtain ⟨k0, k1, k2, k3, k4, k5, k6, k7, k8, k9, t0, t1, t2, t3, -⟩ := (unhide HJ).step (unhide H9)
        have hw0 := lt_of_cell k0
        have hw1 := lt_of_cell t0
        simp only at hw0 hw1
        have hw2 := Nat.lt_succ_of_lt hw0
        have hw3 := Nat.lt_succ_of_lt hw1
        simp only [Nat.succ_eq_add_one] at hw2 hw3
        by_cases hx : xX = 0
        · have hy0 := (unhide HXY).1 hx
          subst hx
          subst hy0
          go_wp2_with fail
          go_ret
          exact ⟨rfl, (unhide HFw).trans (unhide H9) (fun _ _ h => h)⟩
        · have ix : ¬ (xX : Int) = 0 := by omega
          have jx : ((xX : Int) == 0) = false := by simpa using ix
          rcases (unhide HXY).2 with hxy | ⟨hk, hy⟩
          · subst hxy
            go_wp2_with fail
            go_ret
            exact ⟨rfl, (unhide HFw).trans (unhide H9) (fun _ _ h => h)⟩
          · have hkb : ((q.k : Int) == (more : Int)) = true := by rw [beq_cast]; simp [hk]
            subst hy
            go_wp2_with fail
            go_ret
            exact ⟨rfl, (unhide HFw).trans (unhide H9) (fun _ _ h => h)⟩
      · obtain ⟨wE, hWE⟩ : ∃ wE, wBc.setCell ⟨w7.heap.size, 3, none⟩ (.slice aoc (G.length + 1) capc) = wE := ⟨_, rfl⟩
        obtain ⟨g, hge, hg1, hg2, hg3⟩ := (unhide HTc).2.2.2.1
        subst hge
        have hbb := (unhide HTc).2.2.2.2
        have hFE : Fr (fun k => k = w7.heap.size) wBc wE := by rw [← hWE]; exact (Fr.refl _ _).setCell (Or.inl (show w7.heap.size = w7.heap.size from rfl)) _
        have hE0 : Fr (fun _ => False) W0 wE := (unhide H7).trans (by rw [← hWE]; exact unhide HFCc) (fun _ _ h => h)
        have g0 : wE.cell? ⟨w7.heap.size, 0, none⟩ = some (.int .u32 (q.wd : Nat)) := by rw [← hWE, World.cell?_setCell_other _ _ _ _ (by intro h; injection h with _ h2 _; omega)]; simp only [World.cell?, hbb]; rfl
        have g1 : wE.cell? ⟨w7.heap.size, 1, none⟩ = some (.int .u32 (q.ow : Nat)) := by rw [← hWE, World.cell?_setCell_other _ _ _ _ (by intro h; injection h with _ h2 _; omega)]; simp only [World.cell?, hbb]; rfl
        have g2 : wE.cell? ⟨w7.heap.size, 2, none⟩ = some (.bool q.sl) := by rw [← hWE, World.cell?_setCell_other _ _ _ _ (by intro h; injection h with _ h2 _; omega)]; simp only [World.cell?, hbb]; rfl
        have ge : wE.cell? ⟨w7.heap.size, 3, none⟩ = some (.slice (some ⟨g, 0, none⟩) (G.length + 1) capc) := by rw [← hWE]; exact World.cell?_setCell_same _ _ _ g3c
        have hUE : Us wE (.slice (some ⟨g, 0, none⟩) (G.length + 1) capc) (more :: G) := .inr ⟨g, 0, capc, rfl, fun j hj => (hFE.cell (p := ⟨g, 0 + j, none⟩) hg2 (by simp only; omega)).trans (by rw [Nat.zero_add]; exact hg3 j _ (by rw [ucells, List.getElem?_map, List.getElem?_eq_getElem hj]; rfl))⟩
        have HE0 := hide hE0
        have HUE := hide hUE
        rw [hWE]
        have hgl := lt_of_cell g0
        simp only at hgl
        clear hWE hFE hE0 hUE hg1 hg2 hg3 hbb HSF HF5a hw1 hw3 t0 t1 t2 t3
        clear g3a z3a HTa HR1a HR2a HFAa HFBa HFCa
        clear g3b z3b HTb HR1b HR2b HFAb HFBb HFCb
        clear g3c z3c HTc HR1c HR2c HFAc HFBc HFCc
        obtain ⟨k0, k1, k2, k3, k4, k5, k6, k7, k8, k9, t0, t1, t2, t3, -⟩ := (unhide HJ).step (unhide HE0)
        have hw0 := lt_of_cell k0
        have hw1 := lt_of_cell t0
        simp only at hw0 hw1
        have hw2 := Nat.lt_succ_of_lt hw0
        have hw3 := Nat.lt_succ_of_lt hw1
        simp only [Nat.succ_eq_add_one] at hw2 hw3
        go_wp2_with fail
        have hR := (unhide HcR) q.sl (.slice va2 G.length ca2) G _ (unhide HX) _ (unhide HE0) ((unhide HU0).1.fr (unhide HE0)).us (by have := (unhide HU0).2; omega)
        refine hR.mono ?_
        clear hR
        rintro e w8 ⟨rfl, h, hh⟩
        have H8 := hide h
        have H8L := hide hh
        clear h hh
        clear hw0 hw1 hw2 hw3 k0 k1 k2 k3 k4 k5 k6 k7 k8 k9 t0 t1 t2 t3
        obtain ⟨k0, k1, k2, k3, k4, k5, k6, k7, k8, k9, t0, t1, t2, t3, -⟩ := (unhide HJ).step (unhide H8)
        have hw0 := lt_of_cell k0
        have hw1 := lt_of_cell t0
        simp only at hw0 hw1
        have hw2 := Nat.lt_succ_of_lt hw0
        have hw3 := Nat.lt_succ_of_lt hw1
        simp only [Nat.succ_eq_add_one] at hw2 hw3
        replace g0 := ((unhide H8L).cell (p := ⟨w7.heap.size, 0, none⟩) hgl (fun h => h)).trans g0
        replace g1 := ((unhide H8L).cell (p := ⟨w7.heap.size, 1, none⟩) hgl (fun h => h)).trans g1
        replace g2 := ((unhide H8L).cell (p := ⟨w7.heap.size, 2, none⟩) hgl (fun h => h)).trans g2
        replace ge := ((unhide H8L).cell (p := ⟨w7.heap.size, 3, none⟩) hgl (fun h => h)).trans ge
        go_wp2_with fail
        have hR := (unhide HcR) q.sl (.slice (some ⟨g, 0, none⟩) (G.length + 1) capc) (more :: G) _ (unhide HY) _ (unhide H8) ((unhide HUE).fr (unhide H8L)) (by have := (unhide HU0).2; simp; omega)
        refine hR.mono ?_
        clear hR
        rintro e w9 ⟨rfl, h, hh⟩
        have H9 := hide h
        have H9L := hide hh
        clear h hh
        clear g0 g1 g2 ge hgl
        clear hw0 hw1 hw2 hw3 k0 k1 k2 k3 k4 k5 k6 k7 k8 k9 t0 t1 t2 t3
        obtain ⟨k0, k1, k2, k3, k4, k5, k6, k7, k8, k9, t0, t1, t2, t3, -⟩ := (unhide HJ).step (unhide H9)
        have hw0 := lt_of_cell k0
        have hw1 := lt_of_cell t0
        simp only at hw0 hw1
        have hw2 := Nat.lt_succ_of_lt hw0
        have hw3 := Nat.lt_succ_of_lt hw1
        simp only [Nat.succ_eq_add_one] at hw2 hw3
        by_cases hx : xX = 0
        · have hy0 := (unhide HXY).1 hx
          subst hx
          subst hy0
          go_wp2_with fail
          go_ret
          exact ⟨rfl, (unhide HFw).trans (unhide H9) (fun _ _ h => h)⟩
        · have ix : ¬ (xX : Int) = 0 := by omega
          have jx : ((xX : Int) == 0) = false := by simpa using ix
          rcases (unhide HXY).2 with hxy | ⟨hk, hy⟩
          · subst hxy
            go_wp2_with fail
            go_ret
            exact ⟨rfl, (unhide HFw).trans (unhide H9) (fun _ _ h => h)⟩
          · have hkb : ((q.k : Int) == (more : Int)) = true := by rw [beq_cast]; simp [hk]
            subst hy
            go_wp2_with fail
            go_ret
            exact ⟨rfl, (unhide HFw).trans (unhide H9) (fun _ _ h => h)⟩
    · have hz4 : ¬ (xC : Int) = 0 := by omega
      have H7 := H6
      obtain ⟨k0, k1, k2, k3, k4, k5, k6, k7, k8, k9, t0, t1, t2, t3, -⟩ := (unhide HJ).step (unhide H7)
      have hw0 := lt_of_cell k0
      have hw1 := lt_of_cell t0
      simp only at hw0 hw1
      have hw2 := Nat.lt_succ_of_lt hw0
      have hw3 := Nat.lt_succ_of_lt hw1
      simp only [Nat.succ_eq_add_one] at hw2 hw3
      have s0 : (0 : Int) ≤ (G.length : Int) + 1 := by omega
      have s2 : IntKind.i64.wrap ((G.length : Int) + 1) = (G.length : Int) + 1 := by have := (unhide HU0).2; rw [IntKind.wrap_i64]; omega
      have s3 : ((G.length : Int) + 1).toNat = G.length + 1 := by omega
      have HSF := hide (fun W (hf : Fr (fun _ => False) w6 W) => (hf.cell (p := ⟨w2.heap.size, 3, none⟩) hw1 (fun h => h)).trans t3)
      obtain ⟨apa, cpa, aoa, capa, wAa, wBa, hR1a, hR2a, hTa⟩ := two_a w6 (.cells #[.int .u32 (q.wd : Nat), .int .u32 (q.ow : Nat), .bool q.sl, .slice va2 G.length ca2] 29) more G va2 ca2 ((unhide HU0).1.fr (unhide H7)) (unhide HU0).2
      have s1a : (G.length : Int) + 1 ≤ (capa : Int) := by have := hTa.2.2.1; omega
      have hFCa : Fr (fun _ => False) w6 (wBa.setCell ⟨w6.heap.size, 3, none⟩ (.slice aoa (G.length + 1) capa)) := hTa.2.1.setCell (.inr (Nat.le_refl _)) _
      have g3a : wBa.cell? ⟨w6.heap.size, 3, none⟩ = some (.slice va2 G.length ca2) := by simp only [World.cell?, hTa.2.2.2.2]; rfl
      have z3a : wBa.frozen? ⟨w6.heap.size, 3, none⟩ = false := by simp [World.frozen?, hTa.2.2.2.2]
      have HR1a := hide hR1a
      have HR2a := hide hR2a
      have HFAa := hide hTa.1
      have HFBa := hide hTa.2.1
      have HFCa := hide hFCa
      have HTa := hide hTa
      clear hR1a hR2a hFCa hTa
      obtain ⟨apb, cpb, aob, capb, wAb, wBb, hR1b, hR2b, hTb⟩ := two_b w6 (.cells #[.int .u32 (q.wd : Nat), .int .u32 (q.ow : Nat), .bool q.sl, .slice va2 G.length ca2] 29) more G va2 ca2 ((unhide HU0).1.fr (unhide H7)) (unhide HU0).2
      have s1b : (G.length : Int) + 1 ≤ (capb : Int) := by have := hTb.2.2.1; omega
      have hFCb : Fr (fun _ => False) w6 (wBb.setCell ⟨w6.heap.size, 3, none⟩ (.slice aob (G.length + 1) capb)) := hTb.2.1.setCell (.inr (Nat.le_refl _)) _
      have g3b : wBb.cell? ⟨w6.heap.size, 3, none⟩ = some (.slice va2 G.length ca2) := by simp only [World.cell?, hTb.2.2.2.2]; rfl
      have z3b : wBb.frozen? ⟨w6.heap.size, 3, none⟩ = false := by simp [World.frozen?, hTb.2.2.2.2]
      have HR1b := hide hR1b
      have HR2b := hide hR2b
      have HFAb := hide hTb.1
      have HFBb := hide hTb.2.1
      have HFCb := hide hFCb
      have HTb := hide hTb
      clear hR1b hR2b hFCb hTb
      obtain ⟨apc, cpc, aoc, capc, wAc, wBc, hR1c, hR2c, hTc⟩ := two_c w6 (.cells #[.int .u32 (q.wd : Nat), .int .u32 (q.ow : Nat), .bool q.sl, .slice va2 G.length ca2] 29) more G va2 ca2 ((unhide HU0).1.fr (unhide H7)) (unhide HU0).2
      have s1c : (G.length : Int) + 1 ≤ (capc : Int) := by have := hTc.2.2.1; omega
      have hFCc : Fr (fun _ => False) w6 (wBc.setCell ⟨w6.heap.size, 3, none⟩ (.slice aoc (G.length + 1) capc)) := hTc.2.1.setCell (.inr (Nat.le_refl _)) _
      have g3c : wBc.cell? ⟨w6.heap.size, 3, none⟩ = some (.slice va2 G.length ca2) := by simp only [World.cell?, hTc.2.2.2.2]; rfl
      have z3c : wBc.frozen? ⟨w6.heap.size, 3, none⟩ = false := by simp [World.frozen?, hTc.2.2.2.2]
      have HR1c := hide hR1c
      have HR2c := hide hR2c
      have HFAc := hide hTc.1
      have HFBc := hide hTc.2.1
      have HFCc := hide hFCc
      have HTc := hide hTc
      clear hR1c hR2c hFCc hTc
      have HF5a := hide ((unhide HFAa).alloc (.cells #[.int .u32 5] 26))
      clear hw0 hw2 k0 k1 k2 k3 k4 k5 k6 k7 k8 k9
      go_wp2_with fail
      go_region_held3 (fun w' => w'.cell? ⟨w2.heap.size, 3, none⟩ = some (.slice va2 G.length ca2))
        ((refine (unhide HSF) _ ?_; first | with_reducible exact unhide HFAa | with_reducible exact unhide HFAb | with_reducible exact unhide HFAc | with_reducible exact unhide HFBa | with_reducible exact unhide HFBb | with_reducible exact unhide HFBc | with_reducible exact unhide HFCa | with_reducible exact unhide HFCb | with_reducible exact unhide HFCc | with_reducible exact unhide HF5a | (repeat first | exact Fr.refl _ _ | refine Fr.alloc ?_ _ | refine Fr.drew ?_)))
        (first | (refine step_app rfl (.tmp 56) (.tmp 58) 27 27 rfl _ _ _ (by simp [Act.eval]) (by simp [Act.eval]) (unhide HR1a) ?_) | (refine step_app rfl (.tmp 59) (.tmp 60) 27 27 rfl _ _ _ (by simp [Act.eval]) (by simp [Act.eval]) (unhide HR2a) ?_) | (refine step_app rfl (.tmp 56) (.tmp 58) 27 27 rfl _ _ _ (by simp [Act.eval]) (by simp [Act.eval]) (unhide HR1b) ?_) | (refine step_app rfl (.tmp 59) (.tmp 60) 27 27 rfl _ _ _ (by simp [Act.eval]) (by simp [Act.eval]) (unhide HR2b) ?_) | (refine step_app rfl (.tmp 56) (.tmp 58) 27 27 rfl _ _ _ (by simp [Act.eval]) (by simp [Act.eval]) (unhide HR1c) ?_) | (refine step_app rfl (.tmp 59) (.tmp 60) 27 27 rfl _ _ _ (by simp [Act.eval]) (by simp [Act.eval]) (unhide HR2c) ?_))
      · obtain ⟨wE, hWE⟩ : ∃ wE, wBa.setCell ⟨w6.heap.size, 3, none⟩ (.slice aoa (G.length + 1) capa) = wE := ⟨_, rfl⟩
        obtain ⟨g, hge, hg1, hg2, hg3⟩ := (unhide HTa).2.2.2.1
        subst hge
        have hbb := (unhide HTa).2.2.2.2
        have hFE : Fr (fun k => k = w6.heap.size) wBa wE := by rw [← hWE]; exact (Fr.refl _ _).setCell (Or.inl (show w6.heap.size = w6.heap.size from rfl)) _
        have hE0 : Fr (fun _ => False) W0 wE := (unhide H7).trans (by rw [← hWE]; exact unhide HFCa) (fun _ _ h => h)
        have g0 : wE.cell? ⟨w6.heap.size, 0, none⟩ = some (.int .u32 (q.wd : Nat)) := by rw [← hWE, World.cell?_setCell_other _ _ _ _ (by intro h; injection h with _ h2 _; omega)]; simp only [World.cell?, hbb]; rfl
        have g1 : wE.cell? ⟨w6.heap.size, 1, none⟩ = some (.int .u32 (q.ow : Nat)) := by rw [← hWE, World.cell?_setCell_other _ _ _ _ (by intro h; injection h with _ h2 _; omega)]; simp only [World.cell?, hbb]; rfl
        have g2 : wE.cell? ⟨w6.heap.size, 2, none⟩ = some (.bool q.sl) := by rw [← hWE, World.cell?_setCell_other _ _ _ _ (by intro h; injection h with _ h2 _; omega)]; simp only [World.cell?, hbb]; rfl
        have ge : wE.cell? ⟨w6.heap.size, 3, none⟩ = some (.slice (some ⟨g, 0, none⟩) (G.length + 1) capa) := by rw [← hWE]; exact World.cell?_setCell_same _ _ _ g3a
        have hUE : Us wE (.slice (some ⟨g, 0, none⟩) (G.length + 1) capa) (more :: G) := .inr ⟨g, 0, capa, rfl, fun j hj => (hFE.cell (p := ⟨g, 0 + j, none⟩) hg2 (by simp only; omega)).trans (by rw [Nat.zero_add]; exact hg3 j _ (by rw [ucells, List.getElem?_map, List.getElem?_eq_getElem hj]; rfl))⟩
        have HE0 := hide hE0
        have HUE := hide hUE
        rw [hWE]
        have hgl := lt_of_cell g0
        simp only at hgl
        clear hWE hFE hE0 hUE hg1 hg2 hg3 hbb HSF HF5a hw1 hw3 t0 t1 t2 t3
        clear g3a z3a HTa HR1a HR2a HFAa HFBa HFCa
        clear g3b z3b HTb HR1b HR2b HFAb HFBb HFCb
        clear g3c z3c HTc HR1c HR2c HFAc HFBc HFCc
        obtain ⟨k0, k1, k2, k3, k4, k5, k6, k7, k8, k9, t0, t1, t2, t3, -⟩ := (unhide HJ).step (unhide HE0)
        have hw0 := lt_of_cell k0
        have hw1 := lt_of_cell t0
        simp only at hw0 hw1
        have hw2 := Nat.lt_succ_of_lt hw0
        have hw3 := Nat.lt_succ_of_lt hw1
        simp only [Nat.succ_eq_add_one] at hw2 hw3
        go_wp2_with fail
        have hR := (unhide HcR) q.sl (.slice va2 G.length ca2) G _ (unhide HX) _ (unhide HE0) ((unhide HU0).1.fr (unhide HE0)).us (by have := (unhide HU0).2; omega)
        refine hR.mono ?_
        clear hR
        rintro e w8 ⟨rfl, h, hh⟩
        have H8 := hide h
        have H8L := hide hh
        clear h hh
        clear hw0 hw1 hw2 hw3 k0 k1 k2 k3 k4 k5 k6 k7 k8 k9 t0 t1 t2 t3
        obtain ⟨k0, k1, k2, k3, k4, k5, k6, k7, k8, k9, t0, t1, t2, t3, -⟩ := (unhide HJ).step (unhide H8)
        have hw0 := lt_of_cell k0
        have hw1 := lt_of_cell t0
        simp only at hw0 hw1
        have hw2 := Nat.lt_succ_of_lt hw0
        have hw3 := Nat.lt_succ_of_lt hw1
        simp only [Nat.succ_eq_add_one] at hw2 hw3
        replace g0 := ((unhide H8L).cell (p := ⟨w6.heap.size, 0, none⟩) hgl (fun h => h)).trans g0
        replace g1 := ((unhide H8L).cell (p := ⟨w6.heap.size, 1, none⟩) hgl (fun h => h)).trans g1
        replace g2 := ((unhide H8L).cell (p := ⟨w6.heap.size, 2, none⟩) hgl (fun h => h)).trans g2
        replace ge := ((unhide H8L).cell (p := ⟨w6.heap.size, 3, none⟩) hgl (fun h => h)).trans ge
        go_wp2_with fail
        have hR := (unhide HcR) q.sl (.slice (some ⟨g, 0, none⟩) (G.length + 1) capa) (more :: G) _ (unhide HY) _ (unhide H8) ((unhide HUE).fr (unhide H8L)) (by have := (unhide HU0).2; simp; omega)
        refine hR.mono ?_
        clear hR
        rintro e w9 ⟨rfl, h, hh⟩
        have H9 := hide h
        have H9L := hide hh
        clear h hh
        clear g0 g1 g2 ge hgl
        clear hw0 hw1 hw2 hw3 k0 k1 k2 k3 k4 k5 k6 k7 k8 k9 t0 t1 t2 t3
        obtain ⟨k0, k1, k2, k3, k4, k5, k6, k7, k8, k9, t0, t1, t2, t3, -⟩ := (unhide HJ).step (unhide H9)
        have hw0 := lt_of_cell k0
        have hw1 := lt_of_cell t0
        simp only at hw0 hw1
        have hw2 := Nat.lt_succ_of_lt hw0
        have hw3 := Nat.lt_succ_of_lt hw1
        simp only [Nat.succ_eq_add_one] at hw2 hw3
        by_cases hx : xX = 0
        · have hy0 := (unhide HXY).1 hx
          subst hx
          subst hy0
          go_wp2_with fail
          go_ret
          exact ⟨rfl, (unhide HFw).trans (unhide H9) (fun _ _ h => h)⟩
        · have ix : ¬ (xX : Int) = 0 := by omega
          have jx : ((xX : Int) == 0) = false := by simpa using ix
          rcases (unhide HXY).2 with hxy | ⟨hk, hy⟩
          · subst hxy
            go_wp2_with fail
            go_ret
            exact ⟨rfl, (unhide HFw).trans (unhide H9) (fun _ _ h => h)⟩
          · have hkb : ((q.k : Int) == (more : Int)) = true := by rw [beq_cast]; simp [hk]
            subst hy
            go_wp2_with fail
            go_ret
            exact ⟨rfl, (unhide HFw).trans (unhide H9) (fun _ _ h => h)⟩
      · obtain ⟨wE, hWE⟩ : ∃ wE, wBb.setCell ⟨w6.heap.size, 3, none⟩ (.slice aob (G.length + 1) capb) = wE := ⟨_, rfl⟩
        obtain ⟨g, hge, hg1, hg2, hg3⟩ := (unhide HTb).2.2.2.1
        subst hge
        have hbb := (unhide HTb).2.2.2.2
        have hFE : Fr (fun k => k = w6.heap.size) wBb wE := by rw [← hWE]; exact (Fr.refl _ _).setCell (Or.inl (show w6.heap.size = w6.heap.size from rfl)) _
        have hE0 : Fr (fun _ => False) W0 wE := (unhide H7).trans (by rw [← hWE]; exact unhide HFCb) (fun _ _ h => h)
        have g0 : wE.cell? ⟨w6.heap.size, 0, none⟩ = some (.int .u32 (q.wd : Nat)) := by rw [← hWE, World.cell?_setCell_other _ _ _ _ (by intro h; injection h with _ h2 _; omega)]; simp only [World.cell?, hbb]; rfl
        have g1 : wE.cell? ⟨w6.heap.size, 1, none⟩ = some (.int .u32 (q.ow : Nat)) := by rw [← hWE, World.cell?_setCell_other _ _ _ _ (by intro h; injection h with _ h2 _; omega)]; simp only [World.cell?, hbb]; rfl
        have g2 : wE.cell? ⟨w6.heap.size, 2, none⟩ = some (.bool q.sl) := by rw [← hWE, World.cell?_setCell_other _ _ _ _ (by intro h; injection h with _ h2 _; omega)]; simp only [World.cell?, hbb]; rfl
        have ge : wE.cell? ⟨w6.heap.size, 3, none⟩ = some (.slice (some ⟨g, 0, none⟩) (G.length + 1) capb) := by rw [← hWE]; exact World.cell?_setCell_same _ _ _ g3b
        have hUE : Us wE (.slice (some ⟨g, 0, none⟩) (G.length + 1) capb) (more :: G) := .inr ⟨g, 0, capb, rfl, fun j hj => (hFE.cell (p := ⟨g, 0 + j, none⟩) hg2 (by simp only; omega)).trans (by rw [Nat.zero_add]; exact hg3 j _ (by rw [ucells, List.getElem?_map, List.getElem?_eq_getElem hj]; rfl))⟩
        have HE0 := hide hE0
        have HUE := hide hUE
        rw [hWE]
        have hgl := lt_of_cell g0
        simp only at hgl
        clear hWE hFE hE0 hUE hg1 hg2 hg3 hbb HSF HF5a hw1 hw3 t0 t1 t2 t3
        clear g3a z3a HTa HR1a HR2a HFAa HFBa HFCa
        clear g3b z3b HTb HR1b HR2b HFAb HFBb HFCb
        clear g3c z3c HTc HR1c HR2c HFAc HFBc HFCc
        obtain ⟨k0, k1, k2, k3, k4, k5, k6, k7, k8, k9, t0, t1, t2, t3, -⟩ := (unhide HJ).step (unhide HE0)
        have hw0 := lt_of_cell k0
        have hw1 := lt_of_cell t0
        simp only at hw0 hw1
        have hw2 := Nat.lt_succ_of_lt hw0
        have hw3 := Nat.lt_succ_of_lt hw1
        simp only [Nat.succ_eq_add_one] at hw2 hw3
        go_wp2_with fail
        have hR := (unhide HcR) q.sl (.slice va2 G.length ca2) G _ (unhide HX) _ (unhide HE0) ((unhide HU0).1.fr (unhide HE0)).us (by have := (unhide HU0).2; omega)
        refine hR.mono ?_
        clear hR
        rintro e w8 ⟨rfl, h, hh⟩
        have H8 := hide h
        have H8L := hide hh
        clear h hh
        clear hw0 hw1 hw2 hw3 k0 k1 k2 k3 k4 k5 k6 k7 k8 k9 t0 t1 t2 t3
        obtain ⟨k0, k1, k2, k3, k4, k5, k6, k7, k8, k9, t0, t1, t2, t3, -⟩ := (unhide HJ).step (unhide H8)
        have hw0 := lt_of_cell k0
        have hw1 := lt_of_cell t0
        simp only at hw0 hw1
        have hw2 := Nat.lt_succ_of_lt hw0
        have hw3 := Nat.lt_succ_of_lt hw1
        simp only [Nat.succ_eq_add_one] at hw2 hw3
        replace g0 := ((unhide H8L).cell (p := ⟨w6.heap.size, 0, none⟩) hgl (fun h => h)).trans g0
        replace g1 := ((unhide H8L).cell (p := ⟨w6.heap.size, 1, none⟩) hgl (fun h => h)).trans g1
        replace g2 := ((unhide H8L).cell (p := ⟨w6.heap.size, 2, none⟩) hgl (fun h => h)).trans g2
        replace ge := ((unhide H8L).cell (p := ⟨w6.heap.size, 3, none⟩) hgl (fun h => h)).trans ge
        go_wp2_with fail
        have hR := (unhide HcR) q.sl (.slice (some ⟨g, 0, none⟩) (G.length + 1) capb) (more :: G) _ (unhide HY) _ (unhide H8) ((unhide HUE).fr (unhide H8L)) (by have := (unhide HU0).2; simp; omega)
        refine hR.mono ?_
        clear hR
        rintro e w9 ⟨rfl, h, hh⟩
        have H9 := hide h
        have H9L := hide hh
        clear h hh
        clear g0 g1 g2 ge hgl
        clear hw0 hw1 hw2 hw3 k0 k1 k2 k3 k4 k5 k6 k7 k8 k9 t0 t1 t2 t3
        obtain ⟨k0, k1, k2, k3, k4, k5, k6, k7, k8, k9, t0, t1, t2, t3, -⟩ := (unhide HJ).step (unhide H9)
        have hw0 := lt_of_cell k0
        have hw1 := lt_of_cell t0
        simp only at hw0 hw1
        have hw2 := Nat.lt_succ_of_lt hw0
        have hw3 := Nat.lt_succ_of_lt hw1
        simp only [Nat.succ_eq_add_one] at hw2 hw3
        by_cases hx : xX = 0
        · have hy0 := (unhide HXY).1 hx
          subst hx
          subst hy0
          go_wp2_with fail
          go_ret
          exact ⟨rfl, (unhide HFw).trans (unhide H9) (fun _ _ h => h)⟩
        · have ix : ¬ (xX : Int) = 0 := by omega
          have jx : ((xX : Int) == 0) = false := by simpa using ix
          rcases (unhide HXY).2 with hxy | ⟨hk, hy⟩
          · subst hxy
            go_wp2_with fail
            go_ret
            exact ⟨rfl, (unhide HFw).trans (unhide H9) (fun _ _ h => h)⟩
          · have hkb : ((q.k : Int) == (more : Int)) = true := by rw [beq_cast]; simp [hk]
            subst hy
            go_wp2_with fail
            go_ret
            exact ⟨rfl, (unhide HFw).trans (unhide H9) (fun _ _ h => h)⟩
      · obtain ⟨wE, hWE⟩ : ∃ wE, wBc.setCell ⟨w6.heap.size, 3, none⟩ (.slice aoc (G.length + 1) capc) = wE := ⟨_, rfl⟩
        obtain ⟨g, hge, hg1, hg2, hg3⟩ := (unhide HTc).2.2.2.1
        subst hge
        have hbb := (unhide HTc).2.2.2.2
        have hFE : Fr (fun k => k = w6.heap.size) wBc wE := by rw [← hWE]; exact (Fr.refl _ _).setCell (Or.inl (show w6.heap.size = w6.heap.size from rfl)) _
        have hE0 : Fr (fun _ => False) W0 wE := (unhide H7).trans (by rw [← hWE]; exact unhide HFCc) (fun _ _ h => h)
        have g0 : wE.cell? ⟨w6.heap.size, 0, none⟩ = some (.int .u32 (q.wd : Nat)) := by rw [← hWE, World.cell?_setCell_other _ _ _ _ (by intro h; injection h with _ h2 _; omega)]; simp only [World.cell?, hbb]; rfl
        have g1 : wE.cell? ⟨w6.heap.size, 1, none⟩ = some (.int .u32 (q.ow : Nat)) := by rw [← hWE, World.cell?_setCell_other _ _ _ _ (by intro h; injection h with _ h2 _; omega)]; simp only [World.cell?, hbb]; rfl
        have g2 : wE.cell? ⟨w6.heap.size, 2, none⟩ = some (.bool q.sl) := by rw [← hWE, World.cell?_setCell_other _ _ _ _ (by intro h; injection h with _ h2 _; omega)]; simp only [World.cell?, hbb]; rfl
        have ge : wE.cell? ⟨w6.heap.size, 3, none⟩ = some (.slice (some ⟨g, 0, none⟩) (G.length + 1) capc) := by rw [← hWE]; exact World.cell?_setCell_same _ _ _ g3c
        have hUE : Us wE (.slice (some ⟨g, 0, none⟩) (G.length + 1) capc) (more :: G) := .inr ⟨g, 0, capc, rfl, fun j hj => (hFE.cell (p := ⟨g, 0 + j, none⟩) hg2 (by simp only; omega)).trans (by rw [Nat.zero_add]; exact hg3 j _ (by rw [ucells, List.getElem?_map, List.getElem?_eq_getElem hj]; rfl))⟩
        have HE0 := hide hE0
        have HUE := hide hUE
        rw [hWE]
        have hgl := lt_of_cell g0
        simp only at hgl
        clear hWE hFE hE0 hUE hg1 hg2 hg3 hbb HSF HF5a hw1 hw3 t0 t1 t2 t3
        clear g3a z3a HTa HR1a HR2a HFAa HFBa HFCa
        clear g3b z3b HTb HR1b HR2b HFAb HFBb HFCb
        clear g3c z3c HTc HR1c HR2c HFAc HFBc HFCc
        obtain ⟨k0, k1, k2, k3, k4, k5, k6, k7, k8, k9, t0, t1, t2, t3, -⟩ := (unhide HJ).step (unhide HE0)
        have hw0 := lt_of_cell k0
        have hw1 := lt_of_cell t0
        simp only at hw0 hw1
        have hw2 := Nat.lt_succ_of_lt hw0
        have hw3 := Nat.lt_succ_of_lt hw1
        simp only [Nat.succ_eq_add_one] at hw2 hw3
        go_wp2_with fail
        have hR := (unhide HcR) q.sl (.slice va2 G.length ca2) G _ (unhide HX) _ (unhide HE0) ((unhide HU0).1.fr (unhide HE0)).us (by have := (unhide HU0).2; omega)
        refine hR.mono ?_
        clear hR
        rintro e w8 ⟨rfl, h, hh⟩
        have H8 := hide h
        have H8L := hide hh
        clear h hh
        clear hw0 hw1 hw2 hw3 k0 k1 k2 k3 k4 k5 k6 k7 k8 k9 t0 t1 t2 t3
        obtain ⟨k0, k1, k2, k3, k4, k5, k6, k7, k8, k9, t0, t1, t2, t3, -⟩ := (unhide HJ).step (unhide H8)
        have hw0 := lt_of_cell k0
        have hw1 := lt_of_cell t0
        simp only at hw0 hw1
        have hw2 := Nat.lt_succ_of_lt hw0
        have hw3 := Nat.lt_succ_of_lt hw1
        simp only [Nat.succ_eq_add_one] at hw2 hw3
        replace g0 := ((unhide H8L).cell (p := ⟨w6.heap.size, 0, none⟩) hgl (fun h => h)).trans g0
        replace g1 := ((unhide H8L).cell (p := ⟨w6.heap.size, 1, none⟩) hgl (fun h => h)).trans g1
        replace g2 := ((unhide H8L).cell (p := ⟨w6.heap.size, 2, none⟩) hgl (fun h => h)).trans g2
        replace ge := ((unhide H8L).cell (p := ⟨w6.heap.size, 3, none⟩) hgl (fun h => h)).trans ge
        go_wp2_with fail
        have hR := (unhide HcR) q.sl (.slice (some ⟨g, 0, none⟩) (G.length + 1) capc) (more :: G) _ (unhide HY) _ (unhide H8) ((unhide HUE).fr (unhide H8L)) (by have := (unhide HU0).2; simp; omega)
        refine hR.mono ?_
        clear hR
        rintro e w9 ⟨rfl, h, hh⟩
        have H9 := hide h
        have H9L := hide hh
        clear h hh
        clear g0 g1 g2 ge hgl
        clear hw0 hw1 hw2 hw3 k0 k1 k2 k3 k4 k5 k6 k7 k8 k9 t0 t1 t2 t3
        obtain ⟨k0, k1, k2, k3, k4, k5, k6, k7, k8, k9, t0, t1, t2, t3, -⟩ := (unhide HJ).step (unhide H9)
        have hw0 := lt_of_cell k0
        have hw1 := lt_of_cell t0
        simp only at hw0 hw1
        have hw2 := Nat.lt_succ_of_lt hw0
        have hw3 := Nat.lt_succ_of_lt hw1
        simp only [Nat.succ_eq_add_one] at hw2 hw3
        by_cases hx : xX = 0
        · have hy0 := (unhide HXY).1 hx
          subst hx
          subst hy0
          go_wp2_with fail
          go_ret
          exact ⟨rfl, (unhide HFw).trans (unhide H9) (fun _ _ h => h)⟩
        · have ix : ¬ (xX : Int) = 0 := by omega
          have jx : ((xX : Int) == 0) = false := by simpa using ix
          rcases (unhide HXY).2 with hxy | ⟨hk, hy⟩
          · subst hxy
            go_wp2_with fail
            go_ret
            exact ⟨rfl, (unhide HFw).trans (unhide H9) (fun _ _ h => h)⟩
          · have hkb : ((q.k : Int) == (more : Int)) = true := by rw [beq_cast]; simp [hk]
            subst hy
            go_wp2_with fail
            go_ret
            exact ⟨rfl, (unhide HFw).trans (unhide H9) (fun _ _ h => h)⟩
end Go.Proofs.Ytficeloegepdkaa
