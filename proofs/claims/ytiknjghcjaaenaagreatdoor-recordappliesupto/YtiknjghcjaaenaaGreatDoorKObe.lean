import Derived.Test.YtiknjghcjaaenaaGreatDoorKObd
namespace Go.Proofs.YtiknjghcjaaenaaGreatDoor
open Go.RowKit Go.Shelf
set_option maxHeartbeats 4000000 in
set_option maxRecDepth 100000 in
theorem redact_any (b : Nat) (s : RM) (q : RW) (M : Nat → Prop) (r : RQ) (xo : Option Addr) (xn xc : Nat) (place i : Nat) (c : CM) (w : World) (h : RsAt w b s q M) (hfv : r.fv = .slice xo xn xc) (hS : s.S.length ≤ 140737488355328) (hl : s.C.length ≤ 256) (hc : s.C[i]? = some c) (hrc : r.rc = i + 1) (hG : c.G.length ≤ 140737488355328) (hV : c.V.length ≤ 1000) :
  Calls Tryz.prog 60 #[.pointer (some ⟨b, 0, none⟩), r.v, .int .u32 (place : Nat)] w fun e w' => OpPost w b s q M 0 0 (s.redact r c) e w' := by
 obtain ⟨W1, hW1⟩ : ∃ W1, W1 = (w.alloc (.cells r.cs 41)).alloc (.cells #[.int .u32 0, .int .u32 0, .int .u8 0, .int .u32 0, .int .u32 0, .slice none 0 0, .slice none 0 0] 45) := ⟨_, rfl⟩
 have hCB : CB w W1 w.heap.size r := by rw [hW1]; exact CB.new w r
 obtain ⟨g, ccap, hcv, _⟩ := h.chart hc
 obtain ⟨so, sc, hse⟩ := h.st.form
 obtain ⟨go, gc, hge⟩ := own_formX (h.gr i c hc)
 have HCt : Hid (∀ W, Fr (fun _ => False) w W → Calls Tryz.prog 72 #[.pointer (some ⟨b, 0, none⟩), .int .u32 (r.rc : Nat)] W fun e w' => e = .returned (.pointer (some ⟨g, i * 5, none⟩)) ∧ w' = W) := fun W hW => by rw [hrc]; exact chart_any b i c s q M W (h.fr hW) hc hl g ccap hcv
 have HSh : Hid (∀ W, Fr (fun _ => False) w W → Calls Tryz.prog 77 #[.pointer (some ⟨g, i * 5, none⟩)] W fun e w' => e = .returned (.agg #[.int .u32 (c.wa : Nat), .int .u32 (c.ow : Nat), .bool c.sl, .slice go c.G.length gc]) ∧ Fr (fun _ => False) W w') := fun W hW => by
  obtain ⟨g2, cc2, hcv2, k0, k1, k2, k3, k4, kz⟩ := (h.fr hW).chart hc
  rw [hcv] at hcv2
  cases hcv2
  rw [← hge]
  exact sheet_any g (i * 5) c.wa c.ow c.sl (q.gv i) go c.G.length gc W hge k0 k1 k2 k3
 have HP : Hid (∀ W, Fr (fun _ => False) w W → Calls Tryz.prog 81 #[.slice so s.S.length sc, .agg #[.int .u32 (c.wa : Nat), .int .u32 (c.ow : Nat), .bool c.sl, .slice go c.G.length gc], .int .u32 (r.ac : Nat)] W fun e w' => e = .returned (.int .u8 ((reCode s.S r.ac c : Nat) : Int)) ∧ Fr (fun _ => False) W w') := fun W hW => by
  rw [← hse, ← hge]
  exact predact_any q.sv s.S c.wa c.ow c.sl (q.gv i) c.G r.ac W ((h.fr hW).st) hS (own_us ((h.fr hW).gr i c hc)) hG
 have HSt : Hid (∀ W, Fr (fun _ => False) w W → W.cell? ⟨b, 0, none⟩ = some (.slice so s.S.length sc)) := fun W hW => by rw [← hse]; exact (h.fr hW).cells.1
 have HC := hide hCB
 have HH := hide h
 have HS : Hid (∀ W, CB w W w.heap.size r → W.cell? ⟨b, 0, none⟩ = some (.slice so s.S.length sc) ∧ W.cell? ⟨w.heap.size, 2, none⟩ = some (.int .u32 (r.ac : Nat))) := fun W hW => ⟨(unhide HSt) W hW.f, hW.cells.2.2.1⟩
 have HR4 : Hid (∀ W, CB w W w.heap.size r → W.cell? ⟨w.heap.size, 4, none⟩ = some (.int .u32 (r.rc : Nat)) ∧ W.cell? ⟨w.heap.size, 5, none⟩ = some (.int .u32 (r.ve : Nat)) ∧ W.cell? ⟨w.heap.size, 2, none⟩ = some (.int .u32 (r.ac : Nat))) := fun W hW => ⟨hW.cells.2.2.2.2.1, hW.cells.2.2.2.2.2.1, hW.cells.2.2.1⟩
 have HRf : Hid (∀ (cd : Nat) W, Calls Tryz.prog 36 #[.int .u8 (cd : Nat)] W fun e w' => e = .returned (.agg #[.int .u32 0, .int .u32 0, .int .u8 (cd : Nat), .int .u32 0, .int .u32 0, .slice none 0 0, .slice none 0 0]) ∧ Fr (fun _ => False) W w') := fun cd W => refusal_any cd W
 have HE0 : Hid (reCode s.S r.ac c ≠ 0 → s.redact r c = (s, RA.no (reCode s.S r.ac c))) := fun h => by simp [RM.redact, h]
 have HE1 : Hid (reCode s.S r.ac c = 0 → r.ve = 0 → s.redact r c = (s, RA.no 4)) := fun h h1 => by simp [RM.redact, h, h1]
 have HE2 : Hid (reCode s.S r.ac c = 0 → ¬ r.ve = 0 → c.V[r.ve - 1]? = none → s.redact r c = (s, RA.no 4)) := fun h h1 h2 => by simp [RM.redact, h, h1, h2]
 have HE3 : Hid (∀ v, reCode s.S r.ac c = 0 → ¬ r.ve = 0 → c.V[r.ve - 1]? = some v → v.rd = true → s.redact r c = (s, RA.no 8)) := fun v h h1 h2 h3 => by simp [RM.redact, h, h1, h2, h3]
 have HE4 : Hid (∀ v, reCode s.S r.ac c = 0 → ¬ r.ve = 0 → c.V[r.ve - 1]? = some v → v.rd = false → s.redact r c = (⟨s.S, s.C.set i ⟨c.wa, c.ow, c.sl, c.G, c.V.set (r.ve - 1) ⟨v.au, v.ev, [], true⟩⟩⟩, ⟨0, r.rc, r.ve, [], []⟩)) := fun v h h1 h2 h3 => by simp [RM.redact, h, h1, h2, h3, show r.rc - 1 = i by omega]
 generalize s.redact r c = X at *
 generalize reCode s.S r.ac c = code at *
 obtain ⟨vo, vc, hve0⟩ := own_formX (h.ve i c hc)
 have HV4 : Hid (∀ W, Fr (fun _ => False) w W → W.cell? ⟨g, i * 5 + 4, none⟩ = some (.slice vo c.V.length vc)) := fun W hW => by
  obtain ⟨g2, cc2, hcv2, k0, k1, k2, k3, k4, kz⟩ := (h.fr hW).chart hc
  rw [hcv] at hcv2
  cases hcv2
  rw [← hve0]
  exact k4
 have HHas : Hid (∀ (m : Nat) W, Fr (fun _ => False) w W → Calls Tryz.prog 78 #[.pointer (some ⟨g, i * 5, none⟩), .int .u32 (m : Nat)] W fun e w' => e = .returned (.bool (decide (1 ≤ m) && decide (m ≤ c.V.length))) ∧ w' = W) := fun m W hW => chas_any g (i * 5) c.V.length m vo vc W ((unhide HV4) W hW) hV
 have HVer : Hid (∀ (m j : Nat) (v : VM) W, Fr (fun _ => False) w W → m = j + 1 → c.V[j]? = some v → ∃ vg, q.vv i = .slice (some ⟨vg, 0, none⟩) c.V.length vc ∧ W.cell? ⟨vg, j * 4, none⟩ = some (.int .u32 (v.au : Nat)) ∧ W.cell? ⟨vg, j * 4 + 1, none⟩ = some (.int .u32 (v.ev : Nat)) ∧ W.cell? ⟨vg, j * 4 + 2, none⟩ = some (q.fv i j) ∧ W.cell? ⟨vg, j * 4 + 3, none⟩ = some (.bool v.rd) ∧ (W.frozen? ⟨vg, j * 4 + 2, none⟩ = false ∧ W.frozen? ⟨vg, j * 4 + 3, none⟩ = false) ∧ vg < w.heap.size ∧ Calls Tryz.prog 73 #[.pointer (some ⟨g, i * 5, none⟩), .int .u32 (m : Nat)] W fun e w' => e = .returned (.pointer (some ⟨vg, j * 4, none⟩)) ∧ w' = W) := fun m j v W hW hm hv => by
  obtain ⟨vg, cc2, e1, k0, k1, k2, k3, kz⟩ := (h.fr hW).version hc hv
  have e2 := hve0
  rw [e1] at e2
  cases e2
  subst hm
  exact ⟨vg, e1, k0, k1, k2, k3, ⟨kz _, kz _⟩, h.lt vg (h.mv i c hc vg (by rw [e1]; rfl)), version_any g (i * 5) c.V.length j vg vc W (by rw [(unhide HV4) W hW]) (List.getElem?_eq_some_iff.1 hv).1 hV⟩
 have HFIN : Hid (∀ (w2 W8 : World) (j vg : Nat) (v : VM), c.V[j]? = some v → q.vv i = .slice (some ⟨vg, 0, none⟩) c.V.length vc → CB w w2 w.heap.size r → Fr (fun k => k = w.heap.size + 1) ((w2.setCell ⟨vg, j * 4 + 2, none⟩ (.slice none 0 0)).setCell ⟨vg, j * 4 + 3, none⟩ (.bool true)) W8 → RsTo w W8 b s ⟨s.S, s.C.set i ⟨c.wa, c.ow, c.sl, c.G, c.V.set j ⟨v.au, v.ev, [], true⟩⟩⟩ q M) := fun w2 W8 j vg v hv hvv h2 h8 => redact_end h hc hv hvv h2 h8
 have HFF : Hid (∀ j v, c.V[j]? = some v → ∃ xo xn xc, q.fv i j = .slice xo xn xc) := fun j v hv => by
  obtain ⟨xo, xc, e⟩ := (h.fl i c j v hc hv).f.form
  exact ⟨xo, _, xc, e⟩
 clear hve0
 obtain ⟨d3, d4, _⟩ := (unhide HR4) _ (unhide HC)
 simp only [RQ.v, RQ.cs] at *
 rw [hfv] at hW1 ⊢
 clear hCB h hse hge hc hrc hG
 go_enter Tryz.func60, Tryz.ntmps60
 go_wp2_with fail
 rw [← hW1]
 clear hW1
 go_wp2_with fail
 refine ((unhide HCt) _ (unhide HC).f).mono ?_
 rintro e w' ⟨rfl, rfl⟩
 clear d3 d4
 go_wp2_with fail
 go_region_held3 (fun W => W.cell? ⟨b, 0, none⟩ = some (.slice so s.S.length sc) ∧ W.cell? ⟨w.heap.size, 2, none⟩ = some (.int .u32 (r.ac : Nat)))
  (first | exact (unhide HS) _ ((unhide HC).step (Fr.refl _ _).drew) | exact (unhide HS) _ (unhide H1) | exact (unhide HS) _ (unhide H2))
  (first
   | (go_at_call 77; refine ((unhide HSh) _ ((unhide HC).step (Fr.refl _ _).drew).f).mono ?_; rintro e w1 ⟨rfl, hf1⟩; have H1 := hide (((unhide HC).step (Fr.refl _ _).drew).step hf1); clear hf1)
   | (go_at_call 81; refine ((unhide HP) _ (unhide H1).f).mono ?_; rintro e w2 ⟨rfl, hf2⟩; have H2 := hide ((unhide H1).step hf2); clear hf2))
 all_goals
  clear HP HS HSt HC HCt HSh H1
  by_cases hz : code = 0
  ·subst hz
   obtain ⟨d3, d4, _⟩ := (unhide HR4) _ (unhide H2)
   by_cases h1 : r.ve = 0
   ·have HB := hide ((unhide HHas) r.ve w2 (unhide H2).f)
    rw [h1, show (decide (1 ≤ 0) && decide (0 ≤ c.V.length)) = false from rfl] at HB
    rw [h1] at d4
    have HX := hide ((unhide HE1) (by trivial) h1)
    clear HE0 HE1 HE2 HE3 HE4
    clear HHas HVer HFIN HFF
    go_wp2_with fail
    refine (unhide HB).mono ?_
    rintro e w' ⟨rfl, rfl⟩
    clear HB
    go_wp2_with fail
    refine ((unhide HRf) 4 _).mono ?_
    rintro e w3 ⟨rfl, hf3⟩
    have h3 := (unhide H2).step hf3
    obtain ⟨e0, e1, e2, e3, e4, e5, e6, z0, z1, z2, z3, z4, z5, z6⟩ := h3.ans
    have H3 := hide h3.f
    clear h3 hf3
    go_wp2_with fail
    (try simp only [Exit.inBlock, Exit.then])
    refine bodyPost_ret (results_cell_mid rfl _ _ (w.heap.size + 1) 0 [.int .u32 0, .int .u32 0, .int .u8 ((4 : Nat) : Int), .int .u32 0, .int .u32 0, .slice none 0 0, .slice none 0 0] _ rfl ?_ Tryz.underlying45 rfl (by kernel_rfl)) rfl ?_
    ·intro j v hv
     rcases j with _ | _ | _ | _ | _ | _ | _ | j
     ·simp at hv; subst hv; go_simp
     ·simp at hv; subst hv; go_simp
     ·simp at hv; subst hv; go_simp
     ·simp at hv; subst hv; go_simp
     ·simp at hv; subst hv; go_simp
     ·simp at hv; subst hv; go_simp
     ·simp at hv; subst hv; go_simp
     ·simp at hv
    ·rw [unhide HX]; refine OpPost.no rfl ?_
     repeat refine Fr.setCell ?_ (.inr (by simp)) _
     exact unhide H3
   ·by_cases h2 : r.ve ≤ c.V.length
    ·obtain ⟨j, hj⟩ : ∃ j, r.ve = j + 1 := ⟨r.ve - 1, by omega⟩
     obtain ⟨v, hv⟩ : ∃ v, c.V[j]? = some v := ⟨c.V[j], List.getElem?_eq_getElem (by omega)⟩
     obtain ⟨vg, hvv, v0, v1, v2, v3, ⟨x2, x3⟩, hvl, hcall⟩ := (unhide HVer) r.ve j v w2 (unhide H2).f hj hv
     have HCV := hide hcall
     clear hcall
     have ej : r.ve - 1 = j := by omega
     have HB := hide ((unhide HHas) r.ve w2 (unhide H2).f)
     rw [decide_eq_true (by omega : 1 ≤ r.ve), decide_eq_true h2, Bool.true_and] at HB
     have hvn : ¬ r.ve = 0 := h1
     have hv' : c.V[r.ve - 1]? = some v := by rw [ej]; exact hv
     obtain ⟨xo2, xn2, xc2, hx2⟩ := (unhide HFF) j v hv
     cases hrd : v.rd with
     | true =>
      rw [hrd] at v3
      have HX := hide ((unhide HE3) v (by trivial) h1 hv' hrd)
      clear HE0 HE1 HE2 HE3 HE4 hv' hv ej hj hvv HHas HVer HFIN HFF
      go_wp2_with fail
      refine (unhide HB).mono ?_
      rintro e w' ⟨rfl, rfl⟩
      clear HB
      go_wp2_with fail
      refine (unhide HCV).mono ?_
      rintro e w' ⟨rfl, rfl⟩
      go_wp2_with fail
      refine ((unhide HRf) 8 _).mono ?_
      rintro e w3 ⟨rfl, hf3⟩
      have h3 := (unhide H2).step hf3
      obtain ⟨e0, e1, e2, e3, e4, e5, e6, z0, z1, z2, z3, z4, z5, z6⟩ := h3.ans
      have H3 := hide h3.f
      clear h3 hf3
      go_wp2_with fail
      (try simp only [Exit.inBlock, Exit.then])
      refine bodyPost_ret (results_cell_mid rfl _ _ (w.heap.size + 1) 0 [.int .u32 0, .int .u32 0, .int .u8 ((8 : Nat) : Int), .int .u32 0, .int .u32 0, .slice none 0 0, .slice none 0 0] _ rfl ?_ Tryz.underlying45 rfl (by kernel_rfl)) rfl ?_
      ·intro j v hv
       rcases j with _ | _ | _ | _ | _ | _ | _ | j
       ·simp at hv; subst hv; go_simp
       ·simp at hv; subst hv; go_simp
       ·simp at hv; subst hv; go_simp
       ·simp at hv; subst hv; go_simp
       ·simp at hv; subst hv; go_simp
       ·simp at hv; subst hv; go_simp
       ·simp at hv; subst hv; go_simp
       ·simp at hv
      ·rw [unhide HX]; refine OpPost.no rfl ?_
       repeat refine Fr.setCell ?_ (.inr (by simp)) _
       exact unhide H3
     | false =>
      rw [hrd] at v3
      have HVR := hide (vredact_any vg (j * 4) (q.fv i j) xo2 xn2 xc2 false w2 hx2 v2 v3 x2 x3)
      have HX := hide ((unhide HE4) v (by trivial) h1 hv' hrd)
      rw [ej] at HX
      have HFN := hide (fun W8 h8 => (unhide HFIN) w2 W8 j vg v hv hvv (unhide H2) h8)
      clear HE0 HE1 HE2 HE3 HE4 hv' hv ej hj hvv HFIN
      have hne : vg ≠ w.heap.size + 1 := by omega
      have hne2 : vg ≠ w.heap.size := by omega
      obtain ⟨e0, e1, e2, e3, e4, e5, e6, y0, y1, y2, y3, y4, y5, y6⟩ := (unhide H2).ans
      clear HHas HVer HFF
      go_wp2_with fail
      refine (unhide HB).mono ?_
      rintro e w' ⟨rfl, rfl⟩
      clear HB
      go_wp2_with fail
      refine (unhide HCV).mono ?_
      rintro e w' ⟨rfl, rfl⟩
      go_wp2_with fail
      refine (unhide HCV).mono ?_
      rintro e w' ⟨rfl, rfl⟩
      go_wp2_with fail
      refine (unhide HVR).mono ?_
      rintro e w' ⟨rfl, rfl⟩
      go_wp2_with fail
      refine bodyPost_ret (results_cell_mid rfl _ _ (w.heap.size + 1) 0 [.int .u32 0, .int .u32 0, .int .u8 0, .int .u32 (r.rc : Nat), .int .u32 (r.ve : Nat), .slice none 0 0, .slice none 0 0] _ rfl ?_ Tryz.underlying45 rfl (by kernel_rfl)) rfl ?_
      ·intro j v hv
       rcases j with _ | _ | _ | _ | _ | _ | _ | j
       ·simp at hv; subst hv; go_simp
       ·simp at hv; subst hv; go_simp
       ·simp at hv; subst hv; go_simp
       ·simp at hv; subst hv; go_simp
       ·simp at hv; subst hv; go_simp
       ·simp at hv; subst hv; go_simp
       ·simp at hv; subst hv; go_simp
       ·simp at hv
      ·rw [unhide HX]; exact OpPost.put rfl ((unhide HFN) _ (set7_fr _ _ _ _ _ _ _ _ _))
    ·have hn : c.V[r.ve - 1]? = none := List.getElem?_eq_none (by omega)
     have HB := hide ((unhide HHas) r.ve w2 (unhide H2).f)
     rw [decide_eq_false h2, Bool.and_false] at HB
     have hvn : ¬ r.ve = 0 := h1
     have HX := hide ((unhide HE2) (by trivial) h1 hn)
     clear HE0 HE1 HE2 HE3 HE4 hn HHas HVer HFIN HFF
     go_wp2_with fail
     refine (unhide HB).mono ?_
     rintro e w' ⟨rfl, rfl⟩
     clear HB
     go_wp2_with fail
     refine ((unhide HRf) 4 _).mono ?_
     rintro e w3 ⟨rfl, hf3⟩
     have h3 := (unhide H2).step hf3
     obtain ⟨e0, e1, e2, e3, e4, e5, e6, z0, z1, z2, z3, z4, z5, z6⟩ := h3.ans
     have H3 := hide h3.f
     clear h3 hf3
     go_wp2_with fail
     (try simp only [Exit.inBlock, Exit.then])
     refine bodyPost_ret (results_cell_mid rfl _ _ (w.heap.size + 1) 0 [.int .u32 0, .int .u32 0, .int .u8 ((4 : Nat) : Int), .int .u32 0, .int .u32 0, .slice none 0 0, .slice none 0 0] _ rfl ?_ Tryz.underlying45 rfl (by kernel_rfl)) rfl ?_
     ·intro j v hv
      rcases j with _ | _ | _ | _ | _ | _ | _ | j
      ·simp at hv; subst hv; go_simp
      ·simp at hv; subst hv; go_simp
      ·simp at hv; subst hv; go_simp
      ·simp at hv; subst hv; go_simp
      ·simp at hv; subst hv; go_simp
      ·simp at hv; subst hv; go_simp
      ·simp at hv; subst hv; go_simp
      ·simp at hv
     ·rw [unhide HX]; refine OpPost.no rfl ?_
      repeat refine Fr.setCell ?_ (.inr (by simp)) _
      exact unhide H3
  ·have hc' : ((code : Int) != 0) = true := by rw [bne_iff_ne]; omega
   have HX := hide ((unhide HE0) hz)
   clear HE0 HE1 HE2 HE3 HE4 HR4 HHas HVer HFIN HFF
   go_wp2_with fail
   refine ((unhide HRf) code _).mono ?_
   rintro e w3 ⟨rfl, hf3⟩
   have h3 := (unhide H2).step hf3
   obtain ⟨e0, e1, e2, e3, e4, e5, e6, z0, z1, z2, z3, z4, z5, z6⟩ := h3.ans
   have H3 := hide h3.f
   clear h3 hf3
   go_wp2_with fail
   (try simp only [Exit.inBlock, Exit.then])
   refine bodyPost_ret (results_cell_mid rfl _ _ (w.heap.size + 1) 0 [.int .u32 0, .int .u32 0, .int .u8 ((code : Nat) : Int), .int .u32 0, .int .u32 0, .slice none 0 0, .slice none 0 0] _ rfl ?_ Tryz.underlying45 rfl (by kernel_rfl)) rfl ?_
   ·intro j v hv
    rcases j with _ | _ | _ | _ | _ | _ | _ | j
    ·simp at hv; subst hv; go_simp
    ·simp at hv; subst hv; go_simp
    ·simp at hv; subst hv; go_simp
    ·simp at hv; subst hv; go_simp
    ·simp at hv; subst hv; go_simp
    ·simp at hv; subst hv; go_simp
    ·simp at hv; subst hv; go_simp
    ·simp at hv
   ·rw [unhide HX]; refine OpPost.no rfl ?_
    repeat refine Fr.setCell ?_ (.inr (by simp)) _
    exact unhide H3
end Go.Proofs.YtiknjghcjaaenaaGreatDoor
