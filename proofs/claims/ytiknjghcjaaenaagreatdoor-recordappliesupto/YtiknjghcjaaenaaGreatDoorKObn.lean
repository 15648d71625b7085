import Derived.Test.YtiknjghcjaaenaaGreatDoorKObm
namespace Go.Proofs.YtiknjghcjaaenaaGreatDoor
open Go.RowKit Go.Shelf
set_option linter.unusedSimpArgs false in
set_option maxHeartbeats 4000000 in
set_option maxRecDepth 100000 in
theorem amend_any (b : Nat) (s : RM) (q : RW) (M : Nat → Prop) (r : RQ) (xo : Option Addr) (xn xc : Nat) (place i : Nat) (c : CM) (w : World) (h : RsAt w b s q M) (hfv : r.fv = .slice xo xn xc) (hS : s.S.length ≤ 140737488355328) (hl : s.C.length ≤ 256) (hc : s.C[i]? = some c) (hrc : r.rc = i + 1) (hG : c.G.length ≤ 140737488355328) (F : List F5) (hF : FdC w w.heap.size r.fv F) (hFl : F.length ≤ 32) (hFo : ∀ f ∈ F, FOk f) (hFu : ∀ f ∈ F, f.u < 256) (hgu : GU w) (hV1 : 1 ≤ c.V.length) (hV : c.V.length ≤ 64) (hnl : c.now.length ≤ 32) (hnu : ∀ f ∈ c.now, f.u < 256) :
  Calls Tryz.prog 58 #[.pointer (some ⟨b, 0, none⟩), r.v, .int .u32 (place : Nat)] w fun e w' => OpPost w b s q M 0 0 (s.amend r c F place) e w' := by
 obtain ⟨W1, hW1⟩ : ∃ W1, W1 = (w.alloc (.cells r.cs 41)).alloc (.cells #[.int .u32 0, .int .u32 0, .int .u8 0, .int .u32 0, .int .u32 0, .slice none 0 0, .slice none 0 0] 45) := ⟨_, rfl⟩
 have hCB : CB w W1 w.heap.size r := by rw [hW1]; exact CB.new w r
 obtain ⟨g, ccap, hcv, _⟩ := h.chart hc
 obtain ⟨so, sc, hse⟩ := h.st.form
 obtain ⟨go, gc, hge⟩ := own_formX (h.gr i c hc)
 have HCt : Hid (∀ W, Fr (fun _ => False) w W → Calls Tryz.prog 72 #[.pointer (some ⟨b, 0, none⟩), .int .u32 (r.rc : Nat)] W fun e w' => e = .returned (.pointer (some ⟨g, i * 5, none⟩)) ∧ w' = W) := fun W hW => by rw [hrc]; exact chart_any b i c s q M W (h.fr hW) hc hl g ccap hcv
 have HSh : Hid (∀ W, Fr (fun _ => False) w W → Calls Tryz.prog 77 #[.pointer (some ⟨g, i * 5, none⟩)] W fun e w' => e = .returned (.agg #[.int .u32 (c.wa : Nat), .int .u32 (c.ow : Nat), .bool c.sl, .slice go c.G.length gc]) ∧ Fr (fun _ => False) W w') := fun W hW => by
  obtain ⟨g2, cc2, hcv2, k0, k1, k2, k3, k4, kz⟩ := (h.fr hW).chart hc
  rw [hcv] at hcv2
  cases hcv2
  rw [← hge]
  exact sheet_any g (i * 5) c.wa c.ow c.sl (q.gv i) go c.G.length gc W hge k0 k1 k2 k3
 have HP : Hid (∀ W, Fr (fun _ => False) w W → Calls Tryz.prog 76 #[.slice so s.S.length sc, .agg #[.int .u32 (c.wa : Nat), .int .u32 (c.ow : Nat), .bool c.sl, .slice go c.G.length gc], .int .u32 (r.ac : Nat), .slice xo xn xc] W fun e w' => e = .returned (.int .u8 ((amCode s.S r.ac c F : Nat) : Int)) ∧ Fr (fun _ => False) W w') := fun W hW => by
  rw [← hse, ← hge, ← hfv]
  exact pamend_any q.sv s.S c.wa c.ow c.sl (q.gv i) c.G r.ac r.fv F W ((h.fr hW).st) hS (own_us ((h.fr hW).gr i c hc)) hG (hF.f.fr hW) (by omega)
 have HSt : Hid (∀ W, Fr (fun _ => False) w W → W.cell? ⟨b, 0, none⟩ = some (.slice so s.S.length sc)) := fun W hW => by rw [← hse]; exact (h.fr hW).cells.1
 have HC := hide hCB
 have HH := hide h
 have HS : Hid (∀ W, CB w W w.heap.size r → W.cell? ⟨b, 0, none⟩ = some (.slice so s.S.length sc) ∧ W.cell? ⟨w.heap.size, 2, none⟩ = some (.int .u32 (r.ac : Nat)) ∧ W.cell? ⟨w.heap.size, 8, none⟩ = some (.slice xo xn xc)) := fun W hW => ⟨(unhide HSt) W hW.f, hW.cells.2.2.1, by rw [← hfv]; exact hW.cells.2.2.2.2.2.2.2.2.1⟩
 have HR4 : Hid (∀ W, CB w W w.heap.size r → W.cell? ⟨w.heap.size, 4, none⟩ = some (.int .u32 (r.rc : Nat)) ∧ W.cell? ⟨w.heap.size, 5, none⟩ = some (.int .u32 (r.ve : Nat)) ∧ W.cell? ⟨w.heap.size, 2, none⟩ = some (.int .u32 (r.ac : Nat))) := fun W hW => ⟨hW.cells.2.2.2.2.1, hW.cells.2.2.2.2.2.1, hW.cells.2.2.1⟩
 have HRf : Hid (∀ (cd : Nat) W, Calls Tryz.prog 36 #[.int .u8 (cd : Nat)] W fun e w' => e = .returned (.agg #[.int .u32 0, .int .u32 0, .int .u8 (cd : Nat), .int .u32 0, .int .u32 0, .slice none 0 0, .slice none 0 0]) ∧ Fr (fun _ => False) W w') := fun cd W => refusal_any cd W
 have HE0 : Hid (amCode s.S r.ac c F ≠ 0 → s.amend r c F place = (s, RA.no (amCode s.S r.ac c F))) := fun h => by simp [RM.amend, h]
 have HE1 : Hid (amCode s.S r.ac c F = 0 → r.ve = 0 → s.amend r c F place = (s, RA.no 4)) := fun h h1 => by simp [RM.amend, h, h1]
 have HE2 : Hid (amCode s.S r.ac c F = 0 → c.V.length < r.ve → s.amend r c F place = (s, RA.no 4)) := fun h h1 => by simp [RM.amend, h, h1]
 have HE3 : Hid (amCode s.S r.ac c F = 0 → ¬ r.ve = 0 → r.ve ≤ c.V.length → ¬ r.ve = c.V.length → s.amend r c F place = (s, RA.no 7)) := fun h h1 h2 h3 => by rw [RM.amend, if_neg (by simp [h]), if_neg (by omega), if_pos h3]
 have HE4 : Hid (amCode s.S r.ac c F = 0 → r.ve = c.V.length → (64 ≤ c.V.length ∨ 32 < (c.mrg F).length) → s.amend r c F place = (s, RA.no 9)) := fun h h1 h2 => by rw [RM.amend, if_neg (by simp [h]), if_neg (by omega), if_neg (by simp [h1]), if_pos h2]
 have HE5 : Hid (amCode s.S r.ac c F = 0 → r.ve = c.V.length → ¬ (64 ≤ c.V.length ∨ 32 < (c.mrg F).length) → remU c.now F = true → s.amend r c F place = (s, RA.no 10)) := fun h h1 h2 h3 => by rw [RM.amend, if_neg (by simp [h]), if_neg (by omega), if_neg (by simp [h1]), if_neg h2, if_pos h3]
 have HE6 : Hid (amCode s.S r.ac c F = 0 → r.ve = c.V.length → ¬ (64 ≤ c.V.length ∨ 32 < (c.mrg F).length) → remU c.now F = false → s.amend r c F place = (⟨s.S, s.C.set i ⟨c.wa, c.ow, c.sl, c.G, c.V ++ [⟨r.ac, place, c.mrg F, false⟩]⟩⟩, ⟨0, r.rc, c.V.length + 1, [], []⟩)) := fun h h1 h2 h3 => by rw [RM.amend, if_neg (by simp [h]), if_neg (by omega), if_neg (by simp [h1]), if_neg h2, if_neg (by simp [h3]), show r.rc - 1 = i by omega]
 generalize s.amend r c F place = X at *
 generalize amCode s.S r.ac c F = code at *
 obtain ⟨j, hj⟩ : ∃ j, c.V.length = j + 1 := ⟨c.V.length - 1, by omega⟩
 obtain ⟨v, hv⟩ : ∃ v, c.V[j]? = some v := ⟨c.V[j], List.getElem?_eq_getElem (by omega)⟩
 have hnow : c.now = v.F := by rw [CM.now, show c.V.length - 1 = j by omega, hv]; rfl
 obtain ⟨vg, vc, hve0, _⟩ := h.version hc hv
 obtain ⟨xo2, xc2, ex⟩ := (h.fl i c j v hc hv).f.form
 have HV4 : Hid (∀ W, Fr (fun _ => False) w W → W.cell? ⟨g, i * 5 + 4, none⟩ = some (.slice (some ⟨vg, 0, none⟩) c.V.length vc)) := fun W hW => by
  obtain ⟨g2, cc2, hcv2, k0, k1, k2, k3, k4, kz⟩ := (h.fr hW).chart hc
  rw [hcv] at hcv2
  cases hcv2
  rw [← hve0]
  exact k4
 have HLa : Hid (∀ W, Fr (fun _ => False) w W → Calls Tryz.prog 74 #[.pointer (some ⟨g, i * 5, none⟩)] W fun e w' => e = .returned (.int .u32 (c.V.length : Nat)) ∧ w' = W) := fun W hW => last_any g (i * 5) c.V.length _ vc W ((unhide HV4) W hW) (by omega)
 have HHas : Hid (∀ W, Fr (fun _ => False) w W → Calls Tryz.prog 78 #[.pointer (some ⟨g, i * 5, none⟩), .int .u32 (r.ve : Nat)] W fun e w' => e = .returned (.bool (decide (1 ≤ r.ve) && decide (r.ve ≤ c.V.length))) ∧ w' = W) := fun W hW => chas_any g (i * 5) c.V.length r.ve _ vc W ((unhide HV4) W hW) (by omega)
 have HCV : Hid (∀ W, Fr (fun _ => False) w W → Calls Tryz.prog 73 #[.pointer (some ⟨g, i * 5, none⟩), .int .u32 (c.V.length : Nat)] W fun e w' => e = .returned (.pointer (some ⟨vg, j * 4, none⟩)) ∧ w' = W) := fun W hW => by
  have h1 := (unhide HV4) W hW
  rw [hj] at h1 ⊢
  exact version_any g (i * 5) (j + 1) j vg vc W h1 (by omega) (by omega)
 have HVf : Hid (∀ W, Fr (fun _ => False) w W → W.cell? ⟨vg, j * 4 + 2, none⟩ = some (.slice xo2 v.F.length xc2)) := fun W hW => by
  obtain ⟨vg3, cc3, e3, k0, k1, k2, k3, kz⟩ := (h.fr hW).version hc hv
  rw [hve0] at e3
  cases e3
  rw [← ex]
  exact k2
 have HMg : Hid (∀ W, Fr (fun _ => False) w W → Calls Tryz.prog 75 #[.slice xo2 v.F.length xc2, .slice xo xn xc] W fun e w' => ∃ x, e = .returned x ∧ OwF w' W.heap.size x (c.mrg F) ∧ Fr (fun _ => False) W w') := fun W hW => by
  have hw := (h.fr hW).fl i c j v hc hv
  rw [← ex, ← hfv, CM.mrg, hnow]
  exact merged_any (q.fv i j) r.fv v.F F W ⟨hw.f, fun g o n c e h0 => hw.ltg e h0, hw.c, hw.z⟩ ⟨hF.f.fr hW, fun g o n c e h0 => Nat.lt_of_lt_of_le (hF.b g o n c e h0) hW.size, hF.c, hF.z⟩ (by rw [hnow] at hnl; omega) hFo
 have HRm : Hid (∀ W, Fr (fun _ => False) w W → Calls Tryz.prog 79 #[.slice xo2 v.F.length xc2, .slice xo xn xc] W fun e w' => e = .returned (.bool (remU c.now F)) ∧ Fr (fun _ => False) W w') := fun W hW => by
  have hw := (h.fr hW).fl i c j v hc hv
  rw [← ex, ← hfv, hnow]
  exact remeasures_any (q.fv i j) r.fv v.F F W hw.f (hF.f.fr hW) (by rw [hnow] at hnl; omega) (by omega) (fun f hf => by
   rcases List.mem_append.1 hf with hf | hf
   ·exact hnu f (by rw [hnow]; exact hf)
   ·exact hFu f hf) (hgu.fr hW)
 have HHc := hide (And.intro hc (And.intro hcv hve0))
 have HD8 : Hid (∀ W, CB w W w.heap.size r → W.cell? ⟨w.heap.size, 8, none⟩ = some (.slice xo xn xc)) := fun W hW => by rw [← hfv]; exact hW.cells.2.2.2.2.2.2.2.2.1
 obtain ⟨MF, hMF⟩ : ∃ MF, c.mrg F = MF := ⟨_, rfl⟩
 obtain ⟨rm, hrm⟩ : ∃ rm, remU c.now F = rm := ⟨_, rfl⟩
 rw [hMF] at HMg
 rw [hrm] at HRm
 simp only [hMF] at HE4 HE5 HE6
 simp only [hrm] at HE5 HE6
 have hL := hV
 clear hF hFl hFo hFu hgu hV1 hV hnl hnu hj hv hnow hve0 ex hMF hrm hcv
 obtain ⟨d3, d4, _⟩ := (unhide HR4) _ (unhide HC)
 simp only [RQ.v, RQ.cs] at *
 rw [hfv] at hW1 ⊢
 clear hCB h hse hge hc hrc hG
 go_enter Tryz.func58, Tryz.ntmps58
 go_wp2_with fail
 rw [← hW1]
 clear hW1
 go_wp2_with fail
 refine ((unhide HCt) _ (unhide HC).f).mono ?_
 rintro e w' ⟨rfl, hw⟩
 obtain rfl := hw.symm
 clear hw
 clear d3 d4
 go_wp2_with fail
 refine ((unhide HLa) _ (unhide HC).f).mono ?_
 rintro e w5 ⟨rfl, hw⟩
 obtain rfl := hw.symm
 clear hw
 go_wp2_with fail
 refine ((unhide HCV) _ (unhide HC).f).mono ?_
 rintro e w5 ⟨rfl, hw⟩
 obtain rfl := hw.symm
 clear hw
 have v2 := (unhide HVf) _ (unhide HC).f
 have d8 := ((unhide HS) _ (unhide HC)).2.2
 go_wp2_with fail
 refine ((unhide HMg) _ (unhide HC).f).mono ?_
 rintro e w5 ⟨x5, rfl, ho5, hf5⟩
 obtain ⟨ao5, cap5, rfl⟩ := own_formX ho5
 have HO5 := hide (ownsRow_base ho5 (unhide HC).f.size)
 have HC5 := hide ((unhide HC).step hf5)
 clear ho5 hf5 HC v2 d8 HMg HCV
 have HC := HC5
 clear HC5
 go_wp2_with fail
 go_region_held3 (fun W => W.cell? ⟨b, 0, none⟩ = some (.slice so s.S.length sc) ∧ W.cell? ⟨w.heap.size, 2, none⟩ = some (.int .u32 (r.ac : Nat)) ∧ W.cell? ⟨w.heap.size, 8, none⟩ = some (.slice xo xn xc))
  (first | exact (unhide HS) _ ((unhide HC).step (Fr.refl _ _).drew) | exact (unhide HS) _ (unhide H1) | exact (unhide HS) _ (unhide H2))
  (first
   | (go_at_call 77; refine ((unhide HSh) _ ((unhide HC).step (Fr.refl _ _).drew).f).mono ?_; rintro e w1 ⟨rfl, hf1⟩; have H1 := hide (((unhide HC).step (Fr.refl _ _).drew).step hf1); have G1 := hide ((Fr.refl (fun _ => False) _).drew.trans hf1 (fun _ _ h => h)); clear hf1)
   | (go_at_call 76; refine ((unhide HP) _ (unhide H1).f).mono ?_; rintro e w2 ⟨rfl, hf2⟩; have H2 := hide ((unhide H1).step hf2); have G2 := hide ((unhide G1).trans hf2 (fun _ _ h => h)); clear hf2))
 all_goals
  clear HP HS HSt HC HCt HSh H1 G1
  have HO2 := hide (OwF.fr (unhide HO5) (unhide G2) (fun _ _ h => h))
  clear HO5 G2
  by_cases hz : code = 0
  ·subst hz
   obtain ⟨d3, d4, _⟩ := (unhide HR4) _ (unhide H2)
   have HB := hide ((unhide HHas) w2 (unhide H2).f)
   clear HHas
   by_cases h1 : r.ve = 0
   ·rw [h1, show (decide (1 ≤ 0) && decide (0 ≤ c.V.length)) = false from rfl] at HB
    rw [h1] at d4
    have HX := hide ((unhide HE1) (by trivial) h1)
    clear HE0 HE1 HE2 HE3 HE4 HE5 HE6 HVf HRm HV4 HLa
    go_wp2_with fail
    refine (unhide HB).mono ?_
    rintro e w' ⟨rfl, rfl⟩
    clear HB
    go_wp2_with fail
    refine ((unhide HRf) 4 _).mono ?_
    rintro e w3 ⟨rfl, hf3⟩
    have h3 := (unhide H2).step hf3
    obtain ⟨e0, e1, e2, e3, e4, e5, e6, z0, z1, z2, z3, z4, z5, z6⟩ := h3.ans
    have H3 := hide h3.f
    clear h3 hf3
    go_wp2_with fail
    (try simp only [Exit.inBlock, Exit.then])
    refine bodyPost_ret (results_cell_mid rfl _ _ (w.heap.size + 1) 0 [.int .u32 0, .int .u32 0, .int .u8 ((4 : Nat) : Int), .int .u32 0, .int .u32 0, .slice none 0 0, .slice none 0 0] _ rfl ?_ Tryz.underlying45 rfl (by kernel_rfl)) rfl ?_
    ·intro j v hv
     rcases j with _ | _ | _ | _ | _ | _ | _ | j
     ·simp at hv; subst hv; go_simp
     ·simp at hv; subst hv; go_simp
     ·simp at hv; subst hv; go_simp
     ·simp at hv; subst hv; go_simp
     ·simp at hv; subst hv; go_simp
     ·simp at hv; subst hv; go_simp
     ·simp at hv; subst hv; go_simp
     ·simp at hv
    ·rw [unhide HX]; refine OpPost.no rfl ?_
     repeat refine Fr.setCell ?_ (.inr (by simp)) _
     exact unhide H3
   ·by_cases h2 : r.ve ≤ c.V.length
    ·rw [decide_eq_true (by omega : 1 ≤ r.ve), decide_eq_true h2, Bool.true_and] at HB
     by_cases h3 : r.ve = c.V.length
     ·have HS5 : Hid (∀ W, CB w W w.heap.size r → W.cell? ⟨w.heap.size, 5, none⟩ = some (.int .u32 (c.V.length : Nat))) := fun W hW => by rw [← h3]; exact ((unhide HR4) W hW).2.1
      rw [h3] at d4 HB
      have H3 := hide h3
      clear h1 h2 h3 HE0 HE1 HE2 HE3
      go_wp2_with fail
      refine (unhide HB).mono ?_
      rintro e w' ⟨rfl, hw⟩
      obtain rfl := hw.symm
      clear HB hw
      go_wp2_with fail
      go_region_held3 (fun W => W.cell? ⟨w.heap.size, 5, none⟩ = some (.int .u32 (c.V.length : Nat)))
       (exact (unhide HS5) _ ((unhide H2).step (Fr.refl _ _).drew))
       (first | (go_at_call 74; refine ((unhide HLa) _ ((unhide H2).step (Fr.refl _ _).drew).f).mono ?_; rintro e w' ⟨rfl, hw⟩; obtain rfl := hw.symm; clear hw))
      all_goals
       have H2' := hide ((unhide H2).step (Fr.refl _ _).drew)
       have HO2' := hide (OwF.fr (unhide HO2) (Fr.refl (fun _ => False) _).drew (fun _ _ h => h))
       clear H2 HO2 HS5 HLa d3 d4
       have H2 := H2'
       have HO2 := HO2'
       clear H2' HO2'
       have k4 := (unhide HV4) _ (unhide H2).f
       by_cases h4 : 64 ≤ c.V.length
       ·have HX := hide ((unhide HE4) (by trivial) (unhide H3) (.inl h4))
        have hk : (64 : Int) ≤ (c.V.length : Int) := by omega
        clear HE4 HE5 HE6 HVf HRm HV4
        go_wp2_with fail
        refine ((unhide HRf) 9 _).mono ?_
        rintro e w3 ⟨rfl, hf3⟩
        have h3 := (unhide H2).step hf3
        obtain ⟨e0, e1, e2, e3, e4, e5, e6, z0, z1, z2, z3, z4, z5, z6⟩ := h3.ans
        have H3 := hide h3.f
        clear h3 hf3
        go_wp2_with fail
        (try simp only [Exit.inBlock, Exit.then])
        refine bodyPost_ret (results_cell_mid rfl _ _ (w.heap.size + 1) 0 [.int .u32 0, .int .u32 0, .int .u8 ((9 : Nat) : Int), .int .u32 0, .int .u32 0, .slice none 0 0, .slice none 0 0] _ rfl ?_ Tryz.underlying45 rfl (by kernel_rfl)) rfl ?_
        ·intro j v hv
         rcases j with _ | _ | _ | _ | _ | _ | _ | j
         ·simp at hv; subst hv; go_simp
         ·simp at hv; subst hv; go_simp
         ·simp at hv; subst hv; go_simp
         ·simp at hv; subst hv; go_simp
         ·simp at hv; subst hv; go_simp
         ·simp at hv; subst hv; go_simp
         ·simp at hv; subst hv; go_simp
         ·simp at hv
        ·rw [unhide HX]; refine OpPost.no rfl ?_
         repeat refine Fr.setCell ?_ (.inr (by simp)) _
         exact unhide H3
       ·have hk : ¬ (64 : Int) ≤ (c.V.length : Int) := by omega
        by_cases h5 : 32 < MF.length
        ·have HX := hide ((unhide HE4) (by trivial) (unhide H3) (.inr h5))
         have hm : (32 : Int) < (MF.length : Int) := by omega
         clear HE4 HE5 HE6 HVf HRm HV4
         go_wp2_with fail
         refine ((unhide HRf) 9 _).mono ?_
         rintro e w3 ⟨rfl, hf3⟩
         have h3 := (unhide H2).step hf3
         obtain ⟨e0, e1, e2, e3, e4, e5, e6, z0, z1, z2, z3, z4, z5, z6⟩ := h3.ans
         have H3 := hide h3.f
         clear h3 hf3
         go_wp2_with fail
         (try simp only [Exit.inBlock, Exit.then])
         refine bodyPost_ret (results_cell_mid rfl _ _ (w.heap.size + 1) 0 [.int .u32 0, .int .u32 0, .int .u8 ((9 : Nat) : Int), .int .u32 0, .int .u32 0, .slice none 0 0, .slice none 0 0] _ rfl ?_ Tryz.underlying45 rfl (by kernel_rfl)) rfl ?_
         ·intro j v hv
          rcases j with _ | _ | _ | _ | _ | _ | _ | j
          ·simp at hv; subst hv; go_simp
          ·simp at hv; subst hv; go_simp
          ·simp at hv; subst hv; go_simp
          ·simp at hv; subst hv; go_simp
          ·simp at hv; subst hv; go_simp
          ·simp at hv; subst hv; go_simp
          ·simp at hv; subst hv; go_simp
          ·simp at hv
         ·rw [unhide HX]; refine OpPost.no rfl ?_
          repeat refine Fr.setCell ?_ (.inr (by simp)) _
          exact unhide H3
        ·have hm : ¬ (32 : Int) < (MF.length : Int) := by omega
         have d8 := (unhide HD8) _ (unhide H2)
         have HN : Hid (¬ (64 ≤ c.V.length ∨ 32 < MF.length)) := by show ¬ _; omega
         go_wp2_with fail
         refine ((unhide HRm) _ (unhide H2).f).mono ?_
         rintro e w6 ⟨rfl, hf6⟩
         have H6 := hide ((unhide H2).step hf6)
         have HO6 := hide (OwF.fr (unhide HO2) hf6 (fun _ _ h => h))
         clear hf6 H2 HO2 k4 d8
         have H2 := H6
         have HO2 := HO6
         clear H6 HO6
         cases rm with
         | true =>
          have HX := hide ((unhide HE5) (by trivial) (unhide H3) (unhide HN) (by trivial))
          clear HE4 HE5 HE6 HVf HRm HV4
          go_wp2_with fail
          refine ((unhide HRf) 10 _).mono ?_
          rintro e w3 ⟨rfl, hf3⟩
          have h3 := (unhide H2).step hf3
          obtain ⟨e0, e1, e2, e3, e4, e5, e6, z0, z1, z2, z3, z4, z5, z6⟩ := h3.ans
          have H3 := hide h3.f
          clear h3 hf3
          go_wp2_with fail
          (try simp only [Exit.inBlock, Exit.then])
          refine bodyPost_ret (results_cell_mid rfl _ _ (w.heap.size + 1) 0 [.int .u32 0, .int .u32 0, .int .u8 ((10 : Nat) : Int), .int .u32 0, .int .u32 0, .slice none 0 0, .slice none 0 0] _ rfl ?_ Tryz.underlying45 rfl (by kernel_rfl)) rfl ?_
          ·intro j v hv
           rcases j with _ | _ | _ | _ | _ | _ | _ | j
           ·simp at hv; subst hv; go_simp
           ·simp at hv; subst hv; go_simp
           ·simp at hv; subst hv; go_simp
           ·simp at hv; subst hv; go_simp
           ·simp at hv; subst hv; go_simp
           ·simp at hv; subst hv; go_simp
           ·simp at hv; subst hv; go_simp
           ·simp at hv
          ·rw [unhide HX]; refine OpPost.no rfl ?_
           repeat refine Fr.setCell ?_ (.inr (by simp)) _
           exact unhide H3
         | false =>
          have HX := hide ((unhide HE6) (by trivial) (unhide H3) (unhide HN) (by trivial))
          obtain ⟨N1, hN1⟩ : ∃ N1, N1 = c.V.length + 1 := ⟨_, rfl⟩
          rw [← hN1] at HX
          obtain ⟨hc, hcv, hve0⟩ := unhide HHc
          have hh := unhide HH
          have h2 := unhide H2
          have hsz6 : w.heap.size + 1 < w6.heap.size := lt_of_block h2.a
          have hgl : g < w.heap.size := hh.lt g (hh.mc g (by rw [hcv]; rfl))
          obtain ⟨Wd, hWd⟩ : ∃ Wd, Wd = w6.drew.alloc (.cells #[.int .u32 (r.ac : Nat), .int .u32 (place : Nat), .slice ao5 MF.length cap5, .bool false] 110) := ⟨_, rfl⟩
          have f6d : Fr (fun _ => False) w6 Wd := by rw [hWd]; exact (Fr.refl _ _).drew.alloc _
          have hrow : Wd.ownsRow 0 110 4 (.slice (some ⟨vg, 0, none⟩) c.V.length vc) c.V.length (vcells (q.fv i) 0 c.V) := by rw [← hve0]; exact (hh.fr (h2.f.trans f6d (fun _ _ h => h))).ve i c hc
          obtain ⟨ao7, cap7, w7, hr7, ho7, hf7, hn7⟩ := app_version Wd w6.heap.size (.slice (some ⟨vg, 0, none⟩) c.V.length vc) c.V.length (vcells (q.fv i) 0 c.V) (.int .u32 (r.ac : Nat)) (.int .u32 (place : Nat)) (.slice ao5 MF.length cap5) (.bool false) hrow (by omega) (by rw [hWd]; exact Array.getElem?_push_size) (fun u hu => by simp at hu; rcases hu with rfl | rfl | rfl | rfl <;> rfl)
          rw [← hve0] at hf7 hn7
          have hvl : ∀ k, (q.vv i).ownBlock = some k → k < w.heap.size := fun k hk => hh.lt k (hh.mv i c hc k hk)
          have f67 : Fr (fun k => (q.vv i).ownBlock = some k) w6 w7 := (f6d.mono (fun _ _ h => h.elim)).trans hf7 (fun _ _ h => h)
          have rc7 : w7.ownsRow 0 87 5 q.cv s.C.length (ccells q 0 s.C) := ownsRow_of_block (hh.fr h2.f).ch (fun k hk => f67.block k ((hh.fr h2.f).lt k (hh.mc k hk)) (fun hx => own_ne (hh.ve i c hc) hh.ch (by decide) k hx hk))
          have b7 := (f67.block w.heap.size (lt_of_block h2.r) (fun hx => by have := hvl _ hx; omega)).trans h2.r
          have a7 := (f67.block (w.heap.size + 1) (lt_of_block h2.a) (fun hx => by have := hvl _ hx; omega)).trans h2.a
          have c7 : w7.cell? ⟨g, i * 5 + 4, none⟩ = some (.slice (some ⟨vg, 0, none⟩) c.V.length vc) := (f67.cell (p := ⟨g, i * 5 + 4, none⟩) (Nat.lt_of_lt_of_le hgl h2.f.size) (fun hx => own_ne (hh.ve i c hc) hh.ch (by decide) g hx (by rw [hcv]; rfl))).trans ((unhide HV4) _ h2.f)
          have z7 : w7.frozen? ⟨g, i * 5 + 4, none⟩ = false := by rw [hcv] at rc7; exact rc7.frozenAt _
          have d7 : w7.cell? ⟨w.heap.size, 2, none⟩ = some (.int .u32 (r.ac : Nat)) := by simp only [World.cell?, b7]; rfl
          have HFIN : Hid (∀ W8, Fr (fun k => k = g ∨ k = w.heap.size + 1) w7 W8 → W8.ownsRow 0 87 5 q.cv s.C.length ((ccells q 0 s.C).set (i * 5 + 4) (.slice ao7 (c.V.length + 1) cap7)) → RsTo w W8 b s ⟨s.S, s.C.set i ⟨c.wa, c.ow, c.sl, c.G, c.V ++ [⟨r.ac, place, MF, false⟩]⟩⟩ q M) := fun W8 h8 hch => amend_end hh hc hcv h2 (unhide HO2) hWd ho7 hf7 hn7 h8 hch
          have HS15 : Hid (∀ W, Fr (fun _ => False) w6 W → W.cell? ⟨g, i * 5 + 4, none⟩ = some (.slice (some ⟨vg, 0, none⟩) c.V.length vc) ∧ W.cell? ⟨w.heap.size, 2, none⟩ = some (.int .u32 (r.ac : Nat))) := fun W hW => ⟨(unhide HV4) W (h2.f.trans hW (fun _ _ h => h)), (h2.step hW).cells.2.2.1⟩
          have HS7 := hide (And.intro c7 d7)
          have HE9 : Hid (∀ W9, W9 = w7.setCell ⟨g, i * 5 + 4, none⟩ (.slice ao7 N1 cap7) → ∃ W8, (Instr.storeAt 45 (.pointer (some ⟨w.heap.size + 1, 0, none⟩)) (.agg #[.int .u32 0, .int .u32 0, .int .u8 0, .int .u32 (r.rc : Nat), .int .u32 (N1 : Nat), .slice none 0 0, .slice none 0 0])).run Tryz.prog W9.drew = .ok () W8 ∧ W8.heap[w.heap.size + 1]? = some (.cells [Value.int .u32 0, .int .u32 0, .int .u8 0, .int .u32 (r.rc : Nat), .int .u32 (N1 : Nat), .slice none 0 0, .slice none 0 0].toArray 45) ∧ RsTo w W8 b s ⟨s.S, s.C.set i ⟨c.wa, c.ow, c.sl, c.G, c.V ++ [⟨r.ac, place, MF, false⟩]⟩⟩ q M ∧ W9.drew.cell? ⟨w.heap.size, 4, none⟩ = some (.int .u32 (r.rc : Nat)) ∧ Calls Tryz.prog 74 #[.pointer (some ⟨g, i * 5, none⟩)] W9.drew fun e w' => e = .returned (.int .u32 (N1 : Nat)) ∧ w' = W9.drew) := fun W9 hW9 => by
           have a9 : W9.heap[w.heap.size + 1]? = some (.cells (AN.no 0).cs.toArray 45) := by rw [hW9]; exact (heap_setCell_other w7 ⟨g, i * 5 + 4, none⟩ _ _ (by show w.heap.size + 1 ≠ g; omega)).trans a7
           have b9 : W9.heap[w.heap.size]? = some (.cells r.cs 41) := by rw [hW9]; exact (heap_setCell_other w7 ⟨g, i * 5 + 4, none⟩ _ _ (by show w.heap.size ≠ g; omega)).trans b7
           have r9 : W9.ownsRow 0 87 5 q.cv s.C.length ((ccells q 0 s.C).set (i * 5 + 4) (.slice ao7 N1 cap7)) := by rw [hW9]; exact own_set rc7 hcv (i * 5 + 4) _
           have f9 : Fr (fun k => k = g ∨ k = w.heap.size + 1) w7 W9 := by rw [hW9]; exact (Fr.refl _ _).setCell (.inl (.inl rfl)) _
           have c9 : W9.cell? ⟨g, i * 5 + 4, none⟩ = some (.slice ao7 N1 cap7) := by rw [hW9]; exact World.cell?_setCell_same _ _ _ c7
           obtain ⟨W8, hst, hb8, hf8⟩ := ans_put (W := W9.drew) a9 (.int .u32 0) (.int .u32 0) (.int .u8 0) (.int .u32 (r.rc : Nat)) (.int .u32 (N1 : Nat)) (.slice none 0 0) (.slice none 0 0) (fun u hu => by simp at hu; rcases hu with rfl | rfl | rfl | rfl | rfl | rfl | rfl <;> rfl)
           refine ⟨W8, hst, hb8, (unhide HFIN) W8 (f9.drew.trans hf8 (fun _ _ h => .inr h)) ?_, ?_, last_any g (i * 5) N1 ao7 cap7 W9.drew c9 (by omega)⟩
           ·rw [← hN1]
            exact ownsRow_of_block r9 (fun k hk => hf8.block k (r9.lt k hk).2 (fun hx => by
             have e : g = k := by
              rw [hcv] at hk
              exact Option.some.inj hk
             omega))
           ·show W9.cell? _ = _
            simp only [World.cell?, b9]
            rfl
          rw [hWd, ← hN1] at hr7
          have HR7 := hide hr7
          clear HE4 HE5 HE6 HVf HRm HV4 hN1 hc hcv hve0 hh h2 hsz6 hgl hWd f6d hrow hr7 ho7 hf7 hn7 hvl f67 rc7 b7 a7 c7 d7 HFIN HHc HH H3 HN H2 HO2 HR4 HD8 HRf
          go_wp2_with fail
          refine wp_region_last (n := 14) (m := 14) (S := (fun W => W.cell? ⟨g, i * 5 + 4, none⟩ = some (.slice (some ⟨vg, 0, none⟩) c.V.length vc) ∧ W.cell? ⟨w.heap.size, 2, none⟩ = some (.int .u32 (r.ac : Nat)))) (by kernel_rfl) rfl rfl rfl (by kernel_rfl) (by kernel_rfl) ((unhide HS15) _ (Fr.refl _ _).drew) (fun hHeld => ?_)
          refine wtk2 (i := 0) rfl hHeld ?_
          (try simp only [Act.put, nrm])
          refine wtk2 (i := 1) rfl hHeld ?_
          (try simp only [Act.put, nrm])
          refine wtk2 (i := 2) rfl hHeld ?_
          (try simp only [Act.put, nrm])
          refine wtk2 (i := 3) rfl hHeld ?_
          (try simp only [Act.put, nrm])
          refine wtk2 (i := 4) rfl hHeld ?_
          (try simp only [Act.put, nrm])
          refine wtk2 (i := 5) rfl hHeld ?_
          (try simp only [Act.put, nrm])
          refine wtk2 (i := 6) rfl hHeld ?_
          (try simp only [Act.put, nrm])
          refine wtk2 (i := 7) rfl hHeld ?_
          (try simp only [Act.put, nrm])
          refine wtk2 (i := 8) rfl hHeld ?_
          (try simp only [Act.put, nrm])
          refine wtk2 (i := 9) rfl hHeld ?_
          (try simp only [Act.put, nrm])
          refine wpAnyH_ready (rs := [10]) (by kernel_rfl) (by simp) (AllReadyH.cons rfl (fun K hK => ?_) AllReadyH.nil)
          go_simp
          refine hK.out _ _ ((unhide HS15) _ ((Fr.refl _ _).drew.alloc _)) (fun hHeld => ?_)
          clear hK K
          (try simp only [Act.put, nrm])
          refine wpAnyH_ready (rs := [11]) (by kernel_rfl) (by simp) (AllReadyH.cons rfl (fun K hK => ?_) AllReadyH.nil)
          refine step_app rfl (.tmp 79) (.tmp 85) 85 85 rfl _ _ _ (by simp [Act.eval]) (by simp [Act.eval]) (unhide HR7) ?_
          refine hK.out _ _ (unhide HS7) (fun hHeld => ?_)
          clear hK K
          (try simp only [Act.put, nrm])
          refine wtk2 (i := 12) rfl hHeld ?_
          (try simp only [Act.put, nrm])
          refine wtk2 (i := 13) rfl hHeld ?_
          (try simp only [Act.put, nrm])
          refine wpAnyH_done (by kernel_rfl) ?_ _
          have c7 := (unhide HS7).1
          simp only [lastQ]
          go_simp
          generalize hW9 : w7.setCell ⟨g, i * 5 + 4, none⟩ (.slice ao7 N1 cap7) = W9
          obtain ⟨W8, hst, hb8, hrs, hrc4, hla⟩ := (unhide HE9) W9 hW9.symm
          have HST := hide hst
          have HR8 := hide (range_of_block hb8)
          have HRS := hide hrs
          have HC4 := hide hrc4
          have HLA := hide hla
          clear hW9 hst hb8 hrs hrc4 hla c7 z7 HE9 HS7 HS15 HR7 hHeld
          go_wp2_with fail
          refine wp_region_last (n := 5) (m := 5) (S := (fun W => W.cell? ⟨w.heap.size, 4, none⟩ = some (.int .u32 (r.rc : Nat)))) (by kernel_rfl) rfl rfl rfl (by kernel_rfl) (by kernel_rfl) (unhide HC4) (fun hHeld => ?_)
          refine wtk2 (i := 0) rfl hHeld ?_
          (try simp only [Act.put, nrm])
          refine wtk2 (i := 1) rfl hHeld ?_
          (try simp only [Act.put, nrm])
          refine wtk2 (i := 2) rfl hHeld ?_
          (try simp only [Act.put, nrm])
          refine wpAnyH_ready (rs := [3]) (by kernel_rfl) (by simp) (AllReadyH.cons rfl (fun K hK => ?_) AllReadyH.nil)
          go_simp
          refine (unhide HLA).mono ?_
          rintro e w' ⟨rfl, hw⟩
          obtain rfl := hw.symm
          clear hw
          go_simp
          refine hK.out _ _ (unhide HC4) (fun hHeld => ?_)
          clear hK K
          (try simp only [Act.put, nrm])
          refine wtk2 (i := 4) rfl hHeld ?_
          (try simp only [Act.put, nrm])
          refine wpAnyH_done (by kernel_rfl) ?_ _
          simp only [lastQ]
          refine wp_stN 45 (.tmp 6) (.tmp 93) rfl _ _ (by simp [Act.eval]) (by simp [Act.eval]) (unhide HST) ?_
          (try simp only [Act.put, nrm])
          go_wp2_with fail
          refine bodyPost_ret (results_cell_mid rfl _ _ (w.heap.size + 1) 0 _ _ rfl (unhide HR8) Tryz.underlying45 rfl (by kernel_rfl)) rfl ?_
          rw [unhide HX]
          exact OpPost.put rfl (unhide HRS)
     ·have HX := hide ((unhide HE3) (by trivial) h1 h2 h3)
      have hq : ¬ (r.ve : Int) = (c.V.length : Int) := by omega
      have HS5 : Hid (∀ W, CB w W w.heap.size r → W.cell? ⟨w.heap.size, 5, none⟩ = some (.int .u32 (r.ve : Nat))) := fun W hW => ((unhide HR4) W hW).2.1
      clear HE0 HE1 HE2 HE3 HE4 HE5 HE6 HVf HRm HV4 h3
      go_wp2_with fail
      refine (unhide HB).mono ?_
      rintro e w' ⟨rfl, hw⟩
      obtain rfl := hw.symm
      clear HB hw
      go_wp2_with fail
      go_region_held3 (fun W => W.cell? ⟨w.heap.size, 5, none⟩ = some (.int .u32 (r.ve : Nat)))
       (exact (unhide HS5) _ ((unhide H2).step (Fr.refl _ _).drew))
       (first | (go_at_call 74; refine ((unhide HLa) _ ((unhide H2).step (Fr.refl _ _).drew).f).mono ?_; rintro e w' ⟨rfl, hw⟩; obtain rfl := hw.symm; clear hw))
      all_goals
       have H2' := hide ((unhide H2).step (Fr.refl _ _).drew)
       clear H2 HS5 HLa
       have H2 := H2'
       clear H2'
       go_wp2_with fail
       refine ((unhide HRf) 7 _).mono ?_
       rintro e w3 ⟨rfl, hf3⟩
       have h3 := (unhide H2).step hf3
       obtain ⟨e0, e1, e2, e3, e4, e5, e6, z0, z1, z2, z3, z4, z5, z6⟩ := h3.ans
       have H3 := hide h3.f
       clear h3 hf3
       go_wp2_with fail
       (try simp only [Exit.inBlock, Exit.then])
       refine bodyPost_ret (results_cell_mid rfl _ _ (w.heap.size + 1) 0 [.int .u32 0, .int .u32 0, .int .u8 ((7 : Nat) : Int), .int .u32 0, .int .u32 0, .slice none 0 0, .slice none 0 0] _ rfl ?_ Tryz.underlying45 rfl (by kernel_rfl)) rfl ?_
       ·intro j v hv
        rcases j with _ | _ | _ | _ | _ | _ | _ | j
        ·simp at hv; subst hv; go_simp
        ·simp at hv; subst hv; go_simp
        ·simp at hv; subst hv; go_simp
        ·simp at hv; subst hv; go_simp
        ·simp at hv; subst hv; go_simp
        ·simp at hv; subst hv; go_simp
        ·simp at hv; subst hv; go_simp
        ·simp at hv
       ·rw [unhide HX]; refine OpPost.no rfl ?_
        repeat refine Fr.setCell ?_ (.inr (by simp)) _
        exact unhide H3
    ·rw [decide_eq_false h2, Bool.and_false] at HB
     have HX := hide ((unhide HE2) (by trivial) (by omega))
     clear HE0 HE1 HE2 HE3 HE4 HE5 HE6 HVf HRm HV4 HLa
     go_wp2_with fail
     refine (unhide HB).mono ?_
     rintro e w' ⟨rfl, rfl⟩
     clear HB
     go_wp2_with fail
     refine ((unhide HRf) 4 _).mono ?_
     rintro e w3 ⟨rfl, hf3⟩
     have h3 := (unhide H2).step hf3
     obtain ⟨e0, e1, e2, e3, e4, e5, e6, z0, z1, z2, z3, z4, z5, z6⟩ := h3.ans
     have H3 := hide h3.f
     clear h3 hf3
     go_wp2_with fail
     (try simp only [Exit.inBlock, Exit.then])
     refine bodyPost_ret (results_cell_mid rfl _ _ (w.heap.size + 1) 0 [.int .u32 0, .int .u32 0, .int .u8 ((4 : Nat) : Int), .int .u32 0, .int .u32 0, .slice none 0 0, .slice none 0 0] _ rfl ?_ Tryz.underlying45 rfl (by kernel_rfl)) rfl ?_
     ·intro j v hv
      rcases j with _ | _ | _ | _ | _ | _ | _ | j
      ·simp at hv; subst hv; go_simp
      ·simp at hv; subst hv; go_simp
      ·simp at hv; subst hv; go_simp
      ·simp at hv; subst hv; go_simp
      ·simp at hv; subst hv; go_simp
      ·simp at hv; subst hv; go_simp
      ·simp at hv; subst hv; go_simp
      ·simp at hv
     ·rw [unhide HX]; refine OpPost.no rfl ?_
      repeat refine Fr.setCell ?_ (.inr (by simp)) _
      exact unhide H3
  ·have hc' : ((code : Int) != 0) = true := by rw [bne_iff_ne]; omega
   have HX := hide ((unhide HE0) hz)
   clear HE0 HE1 HE2 HE3 HE4 HE5 HE6 HR4 HHas HVf HRm HV4 HLa
   go_wp2_with fail
   refine ((unhide HRf) code _).mono ?_
   rintro e w3 ⟨rfl, hf3⟩
   have h3 := (unhide H2).step hf3
   obtain ⟨e0, e1, e2, e3, e4, e5, e6, z0, z1, z2, z3, z4, z5, z6⟩ := h3.ans
   have H3 := hide h3.f
   clear h3 hf3
   go_wp2_with fail
   (try simp only [Exit.inBlock, Exit.then])
   refine bodyPost_ret (results_cell_mid rfl _ _ (w.heap.size + 1) 0 [.int .u32 0, .int .u32 0, .int .u8 ((code : Nat) : Int), .int .u32 0, .int .u32 0, .slice none 0 0, .slice none 0 0] _ rfl ?_ Tryz.underlying45 rfl (by kernel_rfl)) rfl ?_
   ·intro j v hv
    rcases j with _ | _ | _ | _ | _ | _ | _ | j
    ·simp at hv; subst hv; go_simp
    ·simp at hv; subst hv; go_simp
    ·simp at hv; subst hv; go_simp
    ·simp at hv; subst hv; go_simp
    ·simp at hv; subst hv; go_simp
    ·simp at hv; subst hv; go_simp
    ·simp at hv; subst hv; go_simp
    ·simp at hv
   ·rw [unhide HX]; refine OpPost.no rfl ?_
    repeat refine Fr.setCell ?_ (.inr (by simp)) _
    exact unhide H3
end Go.Proofs.YtiknjghcjaaenaaGreatDoor
