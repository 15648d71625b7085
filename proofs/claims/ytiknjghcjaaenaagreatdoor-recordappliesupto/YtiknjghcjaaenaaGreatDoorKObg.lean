import Derived.Test.YtiknjghcjaaenaaGreatDoorKObf
import Derived.Test.YtiknjghcjaaenaaGreatDoorKOcc
namespace Go.Proofs.YtiknjghcjaaenaaGreatDoor
open Go.RowKit Go.Shelf
theorem OwF.out {w W w' w'' : World} {B : Nat} {v : Value} {l : List F5} (h : OwF w' W.heap.size v l) (hs : w.heap.size ≤ W.heap.size) (hB : B < W.heap.size) (h2 : Fr (fun k => k = B) w' w'') : OwF w'' w.heap.size v l :=
 ownsRow_base (ownsRow_of_block h (fun g hg => h2.block g (h.lt g hg).2 (fun hk => by have := (h.lt g hg).1; omega))) hs
set_option linter.unusedSimpArgs false in
set_option maxHeartbeats 4000000 in
set_option maxRecDepth 100000 in
theorem read_A (b : Nat) (s : RM) (q : RW) (M : Nat → Prop) (r : RQ) (xo : Option Addr) (xn xc : Nat) (place i : Nat) (c : CM) (w : World) (h : RsAt w b s q M) (hfv : r.fv = .slice xo xn xc) (hS : s.S.length ≤ 140737488355328) (hl : s.C.length ≤ 256) (hc : s.C[i]? = some c) (hrc : r.rc = i + 1) (hG : c.G.length ≤ 140737488355328) (hV : c.V.length ≤ 1000) (hVF : ∀ v ∈ c.V, v.F.length ≤ 1000) (hv0 : r.ve = 0) :
  Calls Tryz.prog 59 #[.pointer (some ⟨b, 0, none⟩), r.v, .int .u32 (place : Nat)] w fun e w' => OpPost w b s q M 0 0 (s.read r c) e w' := by
 obtain ⟨N, hN⟩ : ∃ N, r.vn c = N := ⟨_, rfl⟩
 have hNv : N = c.V.length := by rw [← hN, RQ.vn, if_pos hv0]
 obtain ⟨W1, hW1⟩ : ∃ W1, W1 = (w.alloc (.cells r.cs 41)).alloc (.cells #[.int .u32 0, .int .u32 0, .int .u8 0, .int .u32 0, .int .u32 0, .slice none 0 0, .slice none 0 0] 45) := ⟨_, rfl⟩
 have hCB : CB w W1 w.heap.size r := by rw [hW1]; exact CB.new w r
 obtain ⟨g, ccap, hcv, _⟩ := h.chart hc
 obtain ⟨so, sc, hse⟩ := h.st.form
 obtain ⟨go, gc, hge⟩ := own_formX (h.gr i c hc)
 have HCt : Hid (∀ W, Fr (fun _ => False) w W → Calls Tryz.prog 72 #[.pointer (some ⟨b, 0, none⟩), .int .u32 (r.rc : Nat)] W fun e w' => e = .returned (.pointer (some ⟨g, i * 5, none⟩)) ∧ w' = W) := fun W hW => by rw [hrc]; exact chart_any b i c s q M W (h.fr hW) hc hl g ccap hcv
 have HSh : Hid (∀ W, Fr (fun _ => False) w W → Calls Tryz.prog 77 #[.pointer (some ⟨g, i * 5, none⟩)] W fun e w' => e = .returned (.agg #[.int .u32 (c.wa : Nat), .int .u32 (c.ow : Nat), .bool c.sl, .slice go c.G.length gc]) ∧ Fr (fun _ => False) W w') := fun W hW => by
  obtain ⟨g2, cc2, hcv2, k0, k1, k2, k3, k4, kz⟩ := (h.fr hW).chart hc
  rw [hcv] at hcv2
  cases hcv2
  rw [← hge]
  exact sheet_any g (i * 5) c.wa c.ow c.sl (q.gv i) go c.G.length gc W hge k0 k1 k2 k3
 have HP : Hid (∀ W, Fr (fun _ => False) w W → Calls Tryz.prog 80 #[.slice so s.S.length sc, .agg #[.int .u32 (c.wa : Nat), .int .u32 (c.ow : Nat), .bool c.sl, .slice go c.G.length gc], .int .u32 (r.ac : Nat)] W fun e w' => e = .returned (.int .u8 ((rdCode s.S r.ac c : Nat) : Int)) ∧ Fr (fun _ => False) W w') := fun W hW => by
  rw [← hse, ← hge]
  exact pread_any q.sv s.S c.wa c.ow c.sl (q.gv i) c.G r.ac W ((h.fr hW).st) hS (own_us ((h.fr hW).gr i c hc)) hG
 have HSt : Hid (∀ W, Fr (fun _ => False) w W → W.cell? ⟨b, 0, none⟩ = some (.slice so s.S.length sc)) := fun W hW => by rw [← hse]; exact (h.fr hW).cells.1
 have HC := hide hCB
 have HH := hide h
 have HS : Hid (∀ W, CB w W w.heap.size { r with ve := N } → W.cell? ⟨b, 0, none⟩ = some (.slice so s.S.length sc) ∧ W.cell? ⟨w.heap.size, 2, none⟩ = some (.int .u32 (r.ac : Nat))) := fun W hW => ⟨(unhide HSt) W hW.f, hW.cells.2.2.1⟩
 have HR4 : Hid (∀ W, CB w W w.heap.size { r with ve := N } → W.cell? ⟨w.heap.size, 4, none⟩ = some (.int .u32 (r.rc : Nat)) ∧ W.cell? ⟨w.heap.size, 5, none⟩ = some (.int .u32 (N : Nat)) ∧ W.cell? ⟨w.heap.size, 2, none⟩ = some (.int .u32 (r.ac : Nat))) := fun W hW => ⟨hW.cells.2.2.2.2.1, hW.cells.2.2.2.2.2.1, hW.cells.2.2.1⟩
 have HRf : Hid (∀ (cd : Nat) W, Calls Tryz.prog 36 #[.int .u8 (cd : Nat)] W fun e w' => e = .returned (.agg #[.int .u32 0, .int .u32 0, .int .u8 (cd : Nat), .int .u32 0, .int .u32 0, .slice none 0 0, .slice none 0 0]) ∧ Fr (fun _ => False) W w') := fun cd W => refusal_any cd W
 have HE0 : Hid (rdCode s.S r.ac c ≠ 0 → s.read r c = (s, RA.no (rdCode s.S r.ac c))) := fun h => by simp [RM.read, h]
 have HE1 : Hid (rdCode s.S r.ac c = 0 → N = 0 → s.read r c = (s, RA.no 4)) := fun h h1 => by simp [RM.read, h, hN, h1]
 have HE2 : Hid (rdCode s.S r.ac c = 0 → ¬ N = 0 → c.V[N - 1]? = none → s.read r c = (s, RA.no 4)) := fun h h1 h2 => by simp [RM.read, h, hN, h1, h2]
 have HE3 : Hid (∀ v, rdCode s.S r.ac c = 0 → ¬ N = 0 → c.V[N - 1]? = some v → v.rd = true → s.read r c = (s, RA.no 8)) := fun v h h1 h2 h3 => by simp [RM.read, h, hN, h1, h2, h3]
 have HE4 : Hid (∀ v, rdCode s.S r.ac c = 0 → ¬ N = 0 → c.V[N - 1]? = some v → v.rd = false → s.read r c = (s, ⟨0, r.rc, N, v.F, []⟩)) := fun v h h1 h2 h3 => by simp [RM.read, h, hN, h1, h2, h3]
 generalize s.read r c = X at *
 generalize rdCode s.S r.ac c = code at *
 obtain ⟨vo, vc, hve0⟩ := own_formX (h.ve i c hc)
 have HV4 : Hid (∀ W, Fr (fun _ => False) w W → W.cell? ⟨g, i * 5 + 4, none⟩ = some (.slice vo c.V.length vc)) := fun W hW => by
  obtain ⟨g2, cc2, hcv2, k0, k1, k2, k3, k4, kz⟩ := (h.fr hW).chart hc
  rw [hcv] at hcv2
  cases hcv2
  rw [← hve0]
  exact k4
 have HLa : Hid (∀ W, Fr (fun _ => False) w W → Calls Tryz.prog 74 #[.pointer (some ⟨g, i * 5, none⟩)] W fun e w' => e = .returned (.int .u32 (c.V.length : Nat)) ∧ w' = W) := fun W hW => last_any g (i * 5) c.V.length vo vc W ((unhide HV4) W hW) hV
 rw [← hNv] at HLa
 have HHas : Hid (∀ W, Fr (fun _ => False) w W → Calls Tryz.prog 78 #[.pointer (some ⟨g, i * 5, none⟩), .int .u32 (N : Nat)] W fun e w' => e = .returned (.bool (decide (1 ≤ N) && decide (N ≤ c.V.length))) ∧ w' = W) := fun W hW => chas_any g (i * 5) c.V.length N vo vc W ((unhide HV4) W hW) hV
 have HVer : Hid (∀ (j : Nat) (v : VM), N = j + 1 → c.V[j]? = some v → ∃ vg xo2 xn2 xc2, q.fv i j = .slice xo2 xn2 xc2 ∧ (∀ W, Fr (fun _ => False) w W → W.cell? ⟨vg, j * 4 + 2, none⟩ = some (.slice xo2 xn2 xc2) ∧ W.cell? ⟨vg, j * 4 + 3, none⟩ = some (.bool v.rd)) ∧ vg < w.heap.size ∧ (∀ W, Fr (fun _ => False) w W → Calls Tryz.prog 73 #[.pointer (some ⟨g, i * 5, none⟩), .int .u32 (N : Nat)] W fun e w' => e = .returned (.pointer (some ⟨vg, j * 4, none⟩)) ∧ w' = W) ∧ ∀ W, Fr (fun _ => False) w W → Calls Tryz.prog 53 #[.slice xo2 xn2 xc2] W fun e w' => ∃ x, e = .returned x ∧ OwF w' W.heap.size x v.F ∧ Fr (fun _ => False) W w') := fun j v hm hv => by
  obtain ⟨vg, cc2, e1, _⟩ := h.version hc hv
  have hfl := h.fl i c j v hc hv
  obtain ⟨xo2, xc2, ex⟩ := hfl.f.form
  have e2 := hve0
  rw [e1] at e2
  cases e2
  subst hm
  refine ⟨vg, xo2, _, xc2, ex, fun W hW => ?_, h.lt vg (h.mv i c hc vg (by rw [e1]; rfl)), fun W hW => version_any g (i * 5) c.V.length j vg vc W (by rw [(unhide HV4) W hW]) (List.getElem?_eq_some_iff.1 hv).1 hV, fun W hW => ?_⟩
  ·obtain ⟨vg3, cc3, e3, k0, k1, k2, k3, kz⟩ := (h.fr hW).version hc hv
   rw [e1] at e3
   cases e3
   rw [← ex]
   exact ⟨k2, k3⟩
  ·have hw := (h.fr hW).fl i c j v hc hv
   rw [← ex]
   exact fclone_any _ v.F W ⟨hw.f, fun g o n c e h0 => hw.ltg e h0, hw.c, hw.z⟩ (hVF v (List.mem_of_getElem? hv))
 have HNv := hide hNv
 have HV0 := hide hv0
 clear hve0 hVF hN hv0
 clear hNv
 obtain ⟨_, _, _, _, d3, d4, _⟩ := (unhide HC).cells
 have HZ := hide (unhide HC).r
 simp only [RQ.v, RQ.cs] at *
 rw [hfv] at hW1 ⊢
 clear hCB h hse hge hc hrc hG
 go_enter Tryz.func59, Tryz.ntmps59
 go_wp2_with fail
 rw [← hW1]
 clear hW1
 go_wp2_with fail
 refine ((unhide HCt) _ (unhide HC).f).mono ?_
 rintro e w' ⟨rfl, hw⟩
 obtain rfl := hw.symm
 clear hw
 rw [unhide HV0] at d4
 go_wp2_with fail
 refine ((unhide HLa) _ (unhide HC).f).mono ?_
 rintro e w' ⟨rfl, hw⟩
 obtain rfl := hw.symm
 have z5 : W1.frozen? ⟨w.heap.size, 5, none⟩ = false := by simp [World.frozen?, unhide HZ]
 clear hw
 go_wp2_with fail
 generalize hW2 : W1.setCell ⟨w.heap.size, 5, none⟩ (.int .u32 (N : Nat)) = W2
 have HC2 : Hid (CB w W2 w.heap.size { r with ve := N }) := by rw [← hW2]; exact (unhide HC).setVe N
 clear hW2 HC d3 d4 z5 HZ
 have HC := HC2
 clear HC2
 go_wp2_with fail
 go_region_held3 (fun W => W.cell? ⟨b, 0, none⟩ = some (.slice so s.S.length sc) ∧ W.cell? ⟨w.heap.size, 2, none⟩ = some (.int .u32 (r.ac : Nat)))
  (first | exact (unhide HS) _ ((unhide HC).step (Fr.refl _ _).drew) | exact (unhide HS) _ (unhide H1) | exact (unhide HS) _ (unhide H2))
  (first
   | (go_at_call 77; refine ((unhide HSh) _ ((unhide HC).step (Fr.refl _ _).drew).f).mono ?_; rintro e w1 ⟨rfl, hf1⟩; have H1 := hide (((unhide HC).step (Fr.refl _ _).drew).step hf1); clear hf1)
   | (go_at_call 80; refine ((unhide HP) _ (unhide H1).f).mono ?_; rintro e w2 ⟨rfl, hf2⟩; have H2 := hide ((unhide H1).step hf2); clear hf2))
 all_goals
  clear HP HS HSt HC HCt HSh H1
  have HR4' := hide ((unhide HR4) _ (unhide H2))
  by_cases hz : code = 0
  ·subst hz
   obtain ⟨d3, d4, _⟩ := unhide HR4'
   by_cases h1 : N = 0
   ·have HB := hide ((unhide HHas) w2 (unhide H2).f)
    rw [h1, show (decide (1 ≤ 0) && decide (0 ≤ c.V.length)) = false from rfl] at HB
    rw [h1] at d4
    have HX := hide ((unhide HE1) (by trivial) h1)
    clear HE0 HE1 HE2 HE3 HE4 HHas HVer HLa HV4 HR4'
    go_wp2_with fail
    refine (unhide HB).mono ?_
    rintro e w' ⟨rfl, rfl⟩
    clear HB
    go_wp2_with fail
    refine ((unhide HRf) 4 _).mono ?_
    rintro e w3 ⟨rfl, hf3⟩
    have h3 := (unhide H2).step hf3
    obtain ⟨e0, e1, e2, e3, e4, e5, e6, z0, z1, z2, z3, z4, z5, z6⟩ := h3.ans
    have H3 := hide h3.f
    clear h3 hf3
    go_wp2_with fail
    (try simp only [Exit.inBlock, Exit.then])
    refine bodyPost_ret (results_cell_mid rfl _ _ (w.heap.size + 1) 0 [.int .u32 0, .int .u32 0, .int .u8 ((4 : Nat) : Int), .int .u32 0, .int .u32 0, .slice none 0 0, .slice none 0 0] _ rfl ?_ Tryz.underlying45 rfl (by kernel_rfl)) rfl ?_
    ·intro j v hv
     rcases j with _ | _ | _ | _ | _ | _ | _ | j
     ·simp at hv; subst hv; go_simp
     ·simp at hv; subst hv; go_simp
     ·simp at hv; subst hv; go_simp
     ·simp at hv; subst hv; go_simp
     ·simp at hv; subst hv; go_simp
     ·simp at hv; subst hv; go_simp
     ·simp at hv; subst hv; go_simp
     ·simp at hv
    ·rw [unhide HX]; refine OpPost.no rfl ?_
     repeat refine Fr.setCell ?_ (.inr (by simp)) _
     exact unhide H3
   ·by_cases h2 : N ≤ c.V.length
    ·obtain ⟨j, hj⟩ : ∃ j, N = j + 1 := ⟨N - 1, by omega⟩
     obtain ⟨v, hv⟩ : ∃ v, c.V[j]? = some v := ⟨c.V[j], List.getElem?_eq_getElem (by omega)⟩
     obtain ⟨vg, xo2, xn2, xc2, hx2, hvc, hvl, hcall, hclone⟩ := (unhide HVer) j v hj hv
     have HVc := hide hvc
     have HCV := hide hcall
     have HCl := hide hclone
     have ej : N - 1 = j := by omega
     have HB := hide ((unhide HHas) w2 (unhide H2).f)
     rw [decide_eq_true (by omega : 1 ≤ N), decide_eq_true h2, Bool.true_and] at HB
     have hv' : c.V[N - 1]? = some v := by rw [ej]; exact hv
     obtain ⟨v2, v3⟩ := (unhide HVc) _ (unhide H2).f
     cases hrd : v.rd with
     | true =>
      have HX := hide ((unhide HE3) v (by trivial) h1 hv' hrd)
      rw [hrd] at v3
      clear HE0 HE1 HE2 HE3 HE4 hv' hv ej hj hcall hclone hvc HHas HVer HLa HV4 hx2 hvl HVc HCl
      go_wp2_with fail
      refine (unhide HB).mono ?_
      rintro e w' ⟨rfl, rfl⟩
      clear HB
      go_wp2_with fail
      refine ((unhide HCV) _ (unhide H2).f).mono ?_
      rintro e w' ⟨rfl, rfl⟩
      go_wp2_with fail
      refine ((unhide HRf) 8 _).mono ?_
      rintro e w3 ⟨rfl, hf3⟩
      have h3 := (unhide H2).step hf3
      obtain ⟨e0, e1, e2, e3, e4, e5, e6, z0, z1, z2, z3, z4, z5, z6⟩ := h3.ans
      have H3 := hide h3.f
      clear h3 hf3
      go_wp2_with fail
      (try simp only [Exit.inBlock, Exit.then])
      refine bodyPost_ret (results_cell_mid rfl _ _ (w.heap.size + 1) 0 [.int .u32 0, .int .u32 0, .int .u8 ((8 : Nat) : Int), .int .u32 0, .int .u32 0, .slice none 0 0, .slice none 0 0] _ rfl ?_ Tryz.underlying45 rfl (by kernel_rfl)) rfl ?_
      ·intro j v hv
       rcases j with _ | _ | _ | _ | _ | _ | _ | j
       ·simp at hv; subst hv; go_simp
       ·simp at hv; subst hv; go_simp
       ·simp at hv; subst hv; go_simp
       ·simp at hv; subst hv; go_simp
       ·simp at hv; subst hv; go_simp
       ·simp at hv; subst hv; go_simp
       ·simp at hv; subst hv; go_simp
       ·simp at hv
      ·rw [unhide HX]; refine OpPost.no rfl ?_
       repeat refine Fr.setCell ?_ (.inr (by simp)) _
       exact unhide H3
     | false =>
      have HX := hide ((unhide HE4) v (by trivial) h1 hv' hrd)
      rw [hrd] at v3 HVc
      have HS11 : Hid (∀ W, CB w W w.heap.size { r with ve := N } → W.cell? ⟨w.heap.size, 4, none⟩ = some (.int .u32 (r.rc : Nat)) ∧ W.cell? ⟨w.heap.size, 5, none⟩ = some (.int .u32 (N : Nat)) ∧ W.cell? ⟨vg, j * 4 + 2, none⟩ = some (.slice xo2 xn2 xc2)) := fun W hW => ⟨((unhide HR4) W hW).1, ((unhide HR4) W hW).2.1, ((unhide HVc) W hW.f).1⟩
      have HPUT : Hid (∀ x w4, OwF w4 w2.drew.heap.size x v.F → Fr (fun _ => False) w2.drew w4 → ∃ xo4 xc4 W8, x = .slice xo4 v.F.length xc4 ∧ (Instr.storeAt 45 (.pointer (some ⟨w.heap.size + 1, 0, none⟩)) (.agg #[.int .u32 0, .int .u32 0, .int .u8 0, .int .u32 (r.rc : Nat), .int .u32 (N : Nat), .slice xo4 v.F.length xc4, .slice none 0 0])).run Tryz.prog w4 = .ok () W8 ∧ (W8.cell? ⟨w.heap.size, 4, none⟩ = some (.int .u32 (r.rc : Nat)) ∧ W8.cell? ⟨w.heap.size, 5, none⟩ = some (.int .u32 (N : Nat)) ∧ W8.cell? ⟨vg, j * 4 + 2, none⟩ = some (.slice xo2 xn2 xc2)) ∧ (W8.heap[w.heap.size + 1]? = some (.cells [Value.int .u32 0, .int .u32 0, .int .u8 0, .int .u32 (r.rc : Nat), .int .u32 (N : Nat), .slice xo4 v.F.length xc4, .slice none 0 0].toArray 45) ∧ Fr (fun _ => False) w W8 ∧ OwF W8 w.heap.size (.slice xo4 v.F.length xc4) v.F)) := fun x w4 ho hf => by
       obtain ⟨xo4, xc4, rfl⟩ := own_formX ho
       have h4 := ((unhide H2).step (Fr.refl _ _).drew).step hf
       obtain ⟨W8, hst, hb8, hf8⟩ := ans_put h4.a (.int .u32 0) (.int .u32 0) (.int .u8 0) (.int .u32 (r.rc : Nat)) (.int .u32 (N : Nat)) (.slice xo4 v.F.length xc4) (.slice none 0 0) (fun u hu => by simp at hu; rcases hu with rfl | rfl | rfl | rfl | rfl | rfl | rfl <;> rfl)
       obtain ⟨s1, s2, s3⟩ := (unhide HS11) w4 h4
       have hB : w.heap.size + 1 < w2.drew.heap.size := lt_of_block (unhide H2).a
       exact ⟨xo4, xc4, W8, rfl, hst, ⟨(hf8.cell (p := ⟨w.heap.size, 4, none⟩) (lt_of_cell s1) (by show ¬ w.heap.size = w.heap.size + 1; omega)).trans s1, (hf8.cell (p := ⟨w.heap.size, 5, none⟩) (lt_of_cell s2) (by show ¬ w.heap.size = w.heap.size + 1; omega)).trans s2, (hf8.cell (p := ⟨vg, j * 4 + 2, none⟩) (lt_of_cell s3) (by show ¬ vg = w.heap.size + 1; omega)).trans s3⟩, hb8, h4.f.absorb hf8 (fun i hi => by omega), ho.out (by have := (unhide H2).f.size; exact this) hB hf8⟩
      clear HE0 HE1 HE2 HE3 HE4 hv' hv ej hj hcall hclone hvc HHas HVer HLa HV4 hx2 hrd
      go_wp2_with fail
      refine (unhide HB).mono ?_
      rintro e w' ⟨rfl, hw⟩
      obtain rfl := hw.symm
      clear HB hw
      go_wp2_with fail
      refine ((unhide HCV) _ (unhide H2).f).mono ?_
      rintro e w' ⟨rfl, hw⟩
      obtain rfl := hw.symm
      clear hw
      go_wp2_with fail
      refine wp_region_last (n := 13) (m := 13) (S := (fun W => W.cell? ⟨w.heap.size, 4, none⟩ = some (.int .u32 (r.rc : Nat)) ∧ W.cell? ⟨w.heap.size, 5, none⟩ = some (.int .u32 (N : Nat)) ∧ W.cell? ⟨vg, j * 4 + 2, none⟩ = some (.slice xo2 xn2 xc2))) (by kernel_rfl) rfl rfl rfl (by kernel_rfl) (by kernel_rfl) ((unhide HS11) _ ((unhide H2).step (Fr.refl _ _).drew)) (fun hHeld => ?_)
      refine wtk2 (i := 0) rfl hHeld ?_
      (try simp only [Act.put, nrm])
      refine wtk2 (i := 1) rfl hHeld ?_
      (try simp only [Act.put, nrm])
      refine wtk2 (i := 2) rfl hHeld ?_
      (try simp only [Act.put, nrm])
      refine wtk2 (i := 3) rfl hHeld ?_
      (try simp only [Act.put, nrm])
      refine wtk2 (i := 4) rfl hHeld ?_
      (try simp only [Act.put, nrm])
      refine wtk2 (i := 5) rfl hHeld ?_
      (try simp only [Act.put, nrm])
      refine wtk2 (i := 6) rfl hHeld ?_
      (try simp only [Act.put, nrm])
      refine wpAnyH_ready (rs := [7]) (by kernel_rfl) (by simp) (AllReadyH.cons rfl (fun K hK => ?_) AllReadyH.nil)
      go_simp
      refine ((unhide HCV) _ ((unhide H2).step (Fr.refl _ _).drew).f).mono ?_
      rintro e w' ⟨rfl, hw⟩
      obtain rfl := hw.symm
      clear hw
      go_simp
      refine hK.out _ _ ((unhide HS11) _ ((unhide H2).step (Fr.refl _ _).drew)) (fun hHeld => ?_)
      clear hK K
      (try simp only [Act.put, nrm])
      refine wtk2 (i := 8) rfl hHeld ?_
      (try simp only [Act.put, nrm])
      refine wtk2 (i := 9) rfl hHeld ?_
      (try simp only [Act.put, nrm])
      refine wtk2 (i := 10) rfl hHeld ?_
      (try simp only [Act.put, nrm])
      refine wpAnyH_ready (rs := [11]) (by kernel_rfl) (by simp) (AllReadyH.cons rfl (fun K hK => ?_) AllReadyH.nil)
      go_simp
      refine ((unhide HCl) _ ((unhide H2).step (Fr.refl _ _).drew).f).mono ?_
      rintro e w4 ⟨x, rfl, ho, hf4⟩
      obtain ⟨xo4, xc4, W8, rfl, hst, hS8, hO8⟩ := (unhide HPUT) x w4 ho hf4
      have H4 := hide (((unhide H2).step (Fr.refl _ _).drew).step hf4)
      have HST := hide hst
      have HO8 := hide hO8
      clear ho hf4 hst hO8 hS8
      go_simp
      refine hK.out _ _ ((unhide HS11) _ (unhide H4)) (fun hHeld => ?_)
      clear hK K
      (try simp only [Act.put, nrm])
      refine wtk2 (i := 12) rfl hHeld ?_
      (try simp only [Act.put, nrm])
      refine wpAnyH_done (by kernel_rfl) ?_ _
      simp only [lastQ]
      refine wp_stN 45 (.tmp 6) (.tmp 61) rfl _ _ (by simp [Act.eval]) (by simp [Act.eval]) (unhide HST) ?_
      (try simp only [Act.put, nrm])
      (
       obtain ⟨b8, f8, o8⟩ := unhide HO8
       have HR8 := hide (range_of_block b8)
       have HO9 := hide (And.intro f8 o8)
       clear b8 f8 o8 HO8 H4 HST HPUT HS11 HCV HCl HVc
       go_wp2_with fail
       refine bodyPost_ret (results_cell_mid rfl _ _ (w.heap.size + 1) 0 _ _ rfl (unhide HR8) Tryz.underlying45 rfl (by kernel_rfl)) rfl ?_
       rw [unhide HX]
       exact ⟨_, _, rfl, .inl ⟨rfl, (unhide HO9).1, (unhide HO9).2, World.ownsRow_nil _ _ _ _⟩⟩)
    ·have hn : c.V[N - 1]? = none := List.getElem?_eq_none (by omega)
     have HB := hide ((unhide HHas) w2 (unhide H2).f)
     rw [decide_eq_false h2, Bool.and_false] at HB
     have HX := hide ((unhide HE2) (by trivial) h1 hn)
     clear HE0 HE1 HE2 HE3 HE4 hn HHas HVer HLa HV4
     go_wp2_with fail
     refine (unhide HB).mono ?_
     rintro e w' ⟨rfl, rfl⟩
     clear HB
     go_wp2_with fail
     refine ((unhide HRf) 4 _).mono ?_
     rintro e w3 ⟨rfl, hf3⟩
     have h3 := (unhide H2).step hf3
     obtain ⟨e0, e1, e2, e3, e4, e5, e6, z0, z1, z2, z3, z4, z5, z6⟩ := h3.ans
     have H3 := hide h3.f
     clear h3 hf3
     go_wp2_with fail
     (try simp only [Exit.inBlock, Exit.then])
     refine bodyPost_ret (results_cell_mid rfl _ _ (w.heap.size + 1) 0 [.int .u32 0, .int .u32 0, .int .u8 ((4 : Nat) : Int), .int .u32 0, .int .u32 0, .slice none 0 0, .slice none 0 0] _ rfl ?_ Tryz.underlying45 rfl (by kernel_rfl)) rfl ?_
     ·intro j v hv
      rcases j with _ | _ | _ | _ | _ | _ | _ | j
      ·simp at hv; subst hv; go_simp
      ·simp at hv; subst hv; go_simp
      ·simp at hv; subst hv; go_simp
      ·simp at hv; subst hv; go_simp
      ·simp at hv; subst hv; go_simp
      ·simp at hv; subst hv; go_simp
      ·simp at hv; subst hv; go_simp
      ·simp at hv
     ·rw [unhide HX]; refine OpPost.no rfl ?_
      repeat refine Fr.setCell ?_ (.inr (by simp)) _
      exact unhide H3
  ·have hc' : ((code : Int) != 0) = true := by rw [bne_iff_ne]; omega
   have HX := hide ((unhide HE0) hz)
   clear HE0 HE1 HE2 HE3 HE4 HR4 HR4' HHas HVer HLa HV4
   go_wp2_with fail
   refine ((unhide HRf) code _).mono ?_
   rintro e w3 ⟨rfl, hf3⟩
   have h3 := (unhide H2).step hf3
   obtain ⟨e0, e1, e2, e3, e4, e5, e6, z0, z1, z2, z3, z4, z5, z6⟩ := h3.ans
   have H3 := hide h3.f
   clear h3 hf3
   go_wp2_with fail
   (try simp only [Exit.inBlock, Exit.then])
   refine bodyPost_ret (results_cell_mid rfl _ _ (w.heap.size + 1) 0 [.int .u32 0, .int .u32 0, .int .u8 ((code : Nat) : Int), .int .u32 0, .int .u32 0, .slice none 0 0, .slice none 0 0] _ rfl ?_ Tryz.underlying45 rfl (by kernel_rfl)) rfl ?_
   ·intro j v hv
    rcases j with _ | _ | _ | _ | _ | _ | _ | j
    ·simp at hv; subst hv; go_simp
    ·simp at hv; subst hv; go_simp
    ·simp at hv; subst hv; go_simp
    ·simp at hv; subst hv; go_simp
    ·simp at hv; subst hv; go_simp
    ·simp at hv; subst hv; go_simp
    ·simp at hv; subst hv; go_simp
    ·simp at hv
   ·rw [unhide HX]; refine OpPost.no rfl ?_
    repeat refine Fr.setCell ?_ (.inr (by simp)) _
    exact unhide H3
set_option linter.unusedSimpArgs false in
set_option maxHeartbeats 4000000 in
set_option maxRecDepth 100000 in
theorem read_B (b : Nat) (s : RM) (q : RW) (M : Nat → Prop) (r : RQ) (xo : Option Addr) (xn xc : Nat) (place i : Nat) (c : CM) (w : World) (h : RsAt w b s q M) (hfv : r.fv = .slice xo xn xc) (hS : s.S.length ≤ 140737488355328) (hl : s.C.length ≤ 256) (hc : s.C[i]? = some c) (hrc : r.rc = i + 1) (hG : c.G.length ≤ 140737488355328) (hV : c.V.length ≤ 1000) (hVF : ∀ v ∈ c.V, v.F.length ≤ 1000) (hv0 : ¬ r.ve = 0) :
  Calls Tryz.prog 59 #[.pointer (some ⟨b, 0, none⟩), r.v, .int .u32 (place : Nat)] w fun e w' => OpPost w b s q M 0 0 (s.read r c) e w' := by
 obtain ⟨N, hN⟩ : ∃ N, r.vn c = N := ⟨_, rfl⟩
 have hNv : N = r.ve := by rw [← hN, RQ.vn, if_neg hv0]
 obtain ⟨W1, hW1⟩ : ∃ W1, W1 = (w.alloc (.cells r.cs 41)).alloc (.cells #[.int .u32 0, .int .u32 0, .int .u8 0, .int .u32 0, .int .u32 0, .slice none 0 0, .slice none 0 0] 45) := ⟨_, rfl⟩
 have hCB : CB w W1 w.heap.size r := by rw [hW1]; exact CB.new w r
 obtain ⟨g, ccap, hcv, _⟩ := h.chart hc
 obtain ⟨so, sc, hse⟩ := h.st.form
 obtain ⟨go, gc, hge⟩ := own_formX (h.gr i c hc)
 have HCt : Hid (∀ W, Fr (fun _ => False) w W → Calls Tryz.prog 72 #[.pointer (some ⟨b, 0, none⟩), .int .u32 (r.rc : Nat)] W fun e w' => e = .returned (.pointer (some ⟨g, i * 5, none⟩)) ∧ w' = W) := fun W hW => by rw [hrc]; exact chart_any b i c s q M W (h.fr hW) hc hl g ccap hcv
 have HSh : Hid (∀ W, Fr (fun _ => False) w W → Calls Tryz.prog 77 #[.pointer (some ⟨g, i * 5, none⟩)] W fun e w' => e = .returned (.agg #[.int .u32 (c.wa : Nat), .int .u32 (c.ow : Nat), .bool c.sl, .slice go c.G.length gc]) ∧ Fr (fun _ => False) W w') := fun W hW => by
  obtain ⟨g2, cc2, hcv2, k0, k1, k2, k3, k4, kz⟩ := (h.fr hW).chart hc
  rw [hcv] at hcv2
  cases hcv2
  rw [← hge]
  exact sheet_any g (i * 5) c.wa c.ow c.sl (q.gv i) go c.G.length gc W hge k0 k1 k2 k3
 have HP : Hid (∀ W, Fr (fun _ => False) w W → Calls Tryz.prog 80 #[.slice so s.S.length sc, .agg #[.int .u32 (c.wa : Nat), .int .u32 (c.ow : Nat), .bool c.sl, .slice go c.G.length gc], .int .u32 (r.ac : Nat)] W fun e w' => e = .returned (.int .u8 ((rdCode s.S r.ac c : Nat) : Int)) ∧ Fr (fun _ => False) W w') := fun W hW => by
  rw [← hse, ← hge]
  exact pread_any q.sv s.S c.wa c.ow c.sl (q.gv i) c.G r.ac W ((h.fr hW).st) hS (own_us ((h.fr hW).gr i c hc)) hG
 have HSt : Hid (∀ W, Fr (fun _ => False) w W → W.cell? ⟨b, 0, none⟩ = some (.slice so s.S.length sc)) := fun W hW => by rw [← hse]; exact (h.fr hW).cells.1
 have HC := hide hCB
 have HH := hide h
 have HS : Hid (∀ W, CB w W w.heap.size { r with ve := N } → W.cell? ⟨b, 0, none⟩ = some (.slice so s.S.length sc) ∧ W.cell? ⟨w.heap.size, 2, none⟩ = some (.int .u32 (r.ac : Nat))) := fun W hW => ⟨(unhide HSt) W hW.f, hW.cells.2.2.1⟩
 have HR4 : Hid (∀ W, CB w W w.heap.size { r with ve := N } → W.cell? ⟨w.heap.size, 4, none⟩ = some (.int .u32 (r.rc : Nat)) ∧ W.cell? ⟨w.heap.size, 5, none⟩ = some (.int .u32 (N : Nat)) ∧ W.cell? ⟨w.heap.size, 2, none⟩ = some (.int .u32 (r.ac : Nat))) := fun W hW => ⟨hW.cells.2.2.2.2.1, hW.cells.2.2.2.2.2.1, hW.cells.2.2.1⟩
 have HRf : Hid (∀ (cd : Nat) W, Calls Tryz.prog 36 #[.int .u8 (cd : Nat)] W fun e w' => e = .returned (.agg #[.int .u32 0, .int .u32 0, .int .u8 (cd : Nat), .int .u32 0, .int .u32 0, .slice none 0 0, .slice none 0 0]) ∧ Fr (fun _ => False) W w') := fun cd W => refusal_any cd W
 have HE0 : Hid (rdCode s.S r.ac c ≠ 0 → s.read r c = (s, RA.no (rdCode s.S r.ac c))) := fun h => by simp [RM.read, h]
 have HE1 : Hid (rdCode s.S r.ac c = 0 → N = 0 → s.read r c = (s, RA.no 4)) := fun h h1 => by simp [RM.read, h, hN, h1]
 have HE2 : Hid (rdCode s.S r.ac c = 0 → ¬ N = 0 → c.V[N - 1]? = none → s.read r c = (s, RA.no 4)) := fun h h1 h2 => by simp [RM.read, h, hN, h1, h2]
 have HE3 : Hid (∀ v, rdCode s.S r.ac c = 0 → ¬ N = 0 → c.V[N - 1]? = some v → v.rd = true → s.read r c = (s, RA.no 8)) := fun v h h1 h2 h3 => by simp [RM.read, h, hN, h1, h2, h3]
 have HE4 : Hid (∀ v, rdCode s.S r.ac c = 0 → ¬ N = 0 → c.V[N - 1]? = some v → v.rd = false → s.read r c = (s, ⟨0, r.rc, N, v.F, []⟩)) := fun v h h1 h2 h3 => by simp [RM.read, h, hN, h1, h2, h3]
 generalize s.read r c = X at *
 generalize rdCode s.S r.ac c = code at *
 obtain ⟨vo, vc, hve0⟩ := own_formX (h.ve i c hc)
 have HV4 : Hid (∀ W, Fr (fun _ => False) w W → W.cell? ⟨g, i * 5 + 4, none⟩ = some (.slice vo c.V.length vc)) := fun W hW => by
  obtain ⟨g2, cc2, hcv2, k0, k1, k2, k3, k4, kz⟩ := (h.fr hW).chart hc
  rw [hcv] at hcv2
  cases hcv2
  rw [← hve0]
  exact k4
 have HLa : Hid (∀ W, Fr (fun _ => False) w W → Calls Tryz.prog 74 #[.pointer (some ⟨g, i * 5, none⟩)] W fun e w' => e = .returned (.int .u32 (c.V.length : Nat)) ∧ w' = W) := fun W hW => last_any g (i * 5) c.V.length vo vc W ((unhide HV4) W hW) hV
 have HHas : Hid (∀ W, Fr (fun _ => False) w W → Calls Tryz.prog 78 #[.pointer (some ⟨g, i * 5, none⟩), .int .u32 (N : Nat)] W fun e w' => e = .returned (.bool (decide (1 ≤ N) && decide (N ≤ c.V.length))) ∧ w' = W) := fun W hW => chas_any g (i * 5) c.V.length N vo vc W ((unhide HV4) W hW) hV
 have HVer : Hid (∀ (j : Nat) (v : VM), N = j + 1 → c.V[j]? = some v → ∃ vg xo2 xn2 xc2, q.fv i j = .slice xo2 xn2 xc2 ∧ (∀ W, Fr (fun _ => False) w W → W.cell? ⟨vg, j * 4 + 2, none⟩ = some (.slice xo2 xn2 xc2) ∧ W.cell? ⟨vg, j * 4 + 3, none⟩ = some (.bool v.rd)) ∧ vg < w.heap.size ∧ (∀ W, Fr (fun _ => False) w W → Calls Tryz.prog 73 #[.pointer (some ⟨g, i * 5, none⟩), .int .u32 (N : Nat)] W fun e w' => e = .returned (.pointer (some ⟨vg, j * 4, none⟩)) ∧ w' = W) ∧ ∀ W, Fr (fun _ => False) w W → Calls Tryz.prog 53 #[.slice xo2 xn2 xc2] W fun e w' => ∃ x, e = .returned x ∧ OwF w' W.heap.size x v.F ∧ Fr (fun _ => False) W w') := fun j v hm hv => by
  obtain ⟨vg, cc2, e1, _⟩ := h.version hc hv
  have hfl := h.fl i c j v hc hv
  obtain ⟨xo2, xc2, ex⟩ := hfl.f.form
  have e2 := hve0
  rw [e1] at e2
  cases e2
  subst hm
  refine ⟨vg, xo2, _, xc2, ex, fun W hW => ?_, h.lt vg (h.mv i c hc vg (by rw [e1]; rfl)), fun W hW => version_any g (i * 5) c.V.length j vg vc W (by rw [(unhide HV4) W hW]) (List.getElem?_eq_some_iff.1 hv).1 hV, fun W hW => ?_⟩
  ·obtain ⟨vg3, cc3, e3, k0, k1, k2, k3, kz⟩ := (h.fr hW).version hc hv
   rw [e1] at e3
   cases e3
   rw [← ex]
   exact ⟨k2, k3⟩
  ·have hw := (h.fr hW).fl i c j v hc hv
   rw [← ex]
   exact fclone_any _ v.F W ⟨hw.f, fun g o n c e h0 => hw.ltg e h0, hw.c, hw.z⟩ (hVF v (List.mem_of_getElem? hv))
 have HNv := hide hNv
 have HV0 := hide hv0
 clear hve0 hVF hN hv0
 clear hNv
 obtain ⟨_, _, _, _, d3, d4, _⟩ := (unhide HC).cells
 have HZ := hide (unhide HC).r
 simp only [RQ.v, RQ.cs] at *
 rw [hfv] at hW1 ⊢
 clear hCB h hse hge hc hrc hG
 go_enter Tryz.func59, Tryz.ntmps59
 go_wp2_with fail
 rw [← hW1]
 clear hW1
 go_wp2_with fail
 refine ((unhide HCt) _ (unhide HC).f).mono ?_
 rintro e w' ⟨rfl, hw⟩
 obtain rfl := hw.symm
 clear hw
 have h5 : ¬ (r.ve : Int) = 0 := by have := unhide HV0; omega
 go_wp2_with fail
 have HC2 : Hid (CB w W1 w.heap.size { r with ve := N }) := by rw [unhide HNv]; exact unhide HC
 clear HC d3 d4 HZ h5
 have HC := HC2
 clear HC2
 go_wp2_with fail
 go_region_held3 (fun W => W.cell? ⟨b, 0, none⟩ = some (.slice so s.S.length sc) ∧ W.cell? ⟨w.heap.size, 2, none⟩ = some (.int .u32 (r.ac : Nat)))
  (first | exact (unhide HS) _ ((unhide HC).step (Fr.refl _ _).drew) | exact (unhide HS) _ (unhide H1) | exact (unhide HS) _ (unhide H2))
  (first
   | (go_at_call 77; refine ((unhide HSh) _ ((unhide HC).step (Fr.refl _ _).drew).f).mono ?_; rintro e w1 ⟨rfl, hf1⟩; have H1 := hide (((unhide HC).step (Fr.refl _ _).drew).step hf1); clear hf1)
   | (go_at_call 80; refine ((unhide HP) _ (unhide H1).f).mono ?_; rintro e w2 ⟨rfl, hf2⟩; have H2 := hide ((unhide H1).step hf2); clear hf2))
 all_goals
  clear HP HS HSt HC HCt HSh H1
  have HR4' := hide ((unhide HR4) _ (unhide H2))
  by_cases hz : code = 0
  ·subst hz
   obtain ⟨d3, d4, _⟩ := unhide HR4'
   by_cases h1 : N = 0
   ·have HB := hide ((unhide HHas) w2 (unhide H2).f)
    rw [h1, show (decide (1 ≤ 0) && decide (0 ≤ c.V.length)) = false from rfl] at HB
    rw [h1] at d4
    have HX := hide ((unhide HE1) (by trivial) h1)
    clear HE0 HE1 HE2 HE3 HE4 HHas HVer HLa HV4 HR4'
    go_wp2_with fail
    refine (unhide HB).mono ?_
    rintro e w' ⟨rfl, rfl⟩
    clear HB
    go_wp2_with fail
    refine ((unhide HRf) 4 _).mono ?_
    rintro e w3 ⟨rfl, hf3⟩
    have h3 := (unhide H2).step hf3
    obtain ⟨e0, e1, e2, e3, e4, e5, e6, z0, z1, z2, z3, z4, z5, z6⟩ := h3.ans
    have H3 := hide h3.f
    clear h3 hf3
    go_wp2_with fail
    (try simp only [Exit.inBlock, Exit.then])
    refine bodyPost_ret (results_cell_mid rfl _ _ (w.heap.size + 1) 0 [.int .u32 0, .int .u32 0, .int .u8 ((4 : Nat) : Int), .int .u32 0, .int .u32 0, .slice none 0 0, .slice none 0 0] _ rfl ?_ Tryz.underlying45 rfl (by kernel_rfl)) rfl ?_
    ·intro j v hv
     rcases j with _ | _ | _ | _ | _ | _ | _ | j
     ·simp at hv; subst hv; go_simp
     ·simp at hv; subst hv; go_simp
     ·simp at hv; subst hv; go_simp
     ·simp at hv; subst hv; go_simp
     ·simp at hv; subst hv; go_simp
     ·simp at hv; subst hv; go_simp
     ·simp at hv; subst hv; go_simp
     ·simp at hv
    ·rw [unhide HX]; refine OpPost.no rfl ?_
     repeat refine Fr.setCell ?_ (.inr (by simp)) _
     exact unhide H3
   ·by_cases h2 : N ≤ c.V.length
    ·obtain ⟨j, hj⟩ : ∃ j, N = j + 1 := ⟨N - 1, by omega⟩
     obtain ⟨v, hv⟩ : ∃ v, c.V[j]? = some v := ⟨c.V[j], List.getElem?_eq_getElem (by omega)⟩
     obtain ⟨vg, xo2, xn2, xc2, hx2, hvc, hvl, hcall, hclone⟩ := (unhide HVer) j v hj hv
     have HVc := hide hvc
     have HCV := hide hcall
     have HCl := hide hclone
     have ej : N - 1 = j := by omega
     have HB := hide ((unhide HHas) w2 (unhide H2).f)
     rw [decide_eq_true (by omega : 1 ≤ N), decide_eq_true h2, Bool.true_and] at HB
     have hv' : c.V[N - 1]? = some v := by rw [ej]; exact hv
     obtain ⟨v2, v3⟩ := (unhide HVc) _ (unhide H2).f
     cases hrd : v.rd with
     | true =>
      have HX := hide ((unhide HE3) v (by trivial) h1 hv' hrd)
      rw [hrd] at v3
      clear HE0 HE1 HE2 HE3 HE4 hv' hv ej hj hcall hclone hvc HHas HVer HLa HV4 hx2 hvl HVc HCl
      go_wp2_with fail
      refine (unhide HB).mono ?_
      rintro e w' ⟨rfl, rfl⟩
      clear HB
      go_wp2_with fail
      refine ((unhide HCV) _ (unhide H2).f).mono ?_
      rintro e w' ⟨rfl, rfl⟩
      go_wp2_with fail
      refine ((unhide HRf) 8 _).mono ?_
      rintro e w3 ⟨rfl, hf3⟩
      have h3 := (unhide H2).step hf3
      obtain ⟨e0, e1, e2, e3, e4, e5, e6, z0, z1, z2, z3, z4, z5, z6⟩ := h3.ans
      have H3 := hide h3.f
      clear h3 hf3
      go_wp2_with fail
      (try simp only [Exit.inBlock, Exit.then])
      refine bodyPost_ret (results_cell_mid rfl _ _ (w.heap.size + 1) 0 [.int .u32 0, .int .u32 0, .int .u8 ((8 : Nat) : Int), .int .u32 0, .int .u32 0, .slice none 0 0, .slice none 0 0] _ rfl ?_ Tryz.underlying45 rfl (by kernel_rfl)) rfl ?_
      ·intro j v hv
       rcases j with _ | _ | _ | _ | _ | _ | _ | j
       ·simp at hv; subst hv; go_simp
       ·simp at hv; subst hv; go_simp
       ·simp at hv; subst hv; go_simp
       ·simp at hv; subst hv; go_simp
       ·simp at hv; subst hv; go_simp
       ·simp at hv; subst hv; go_simp
       ·simp at hv; subst hv; go_simp
       ·simp at hv
      ·rw [unhide HX]; refine OpPost.no rfl ?_
       repeat refine Fr.setCell ?_ (.inr (by simp)) _
       exact unhide H3
     | false =>
      have HX := hide ((unhide HE4) v (by trivial) h1 hv' hrd)
      rw [hrd] at v3 HVc
      have HS11 : Hid (∀ W, CB w W w.heap.size { r with ve := N } → W.cell? ⟨w.heap.size, 4, none⟩ = some (.int .u32 (r.rc : Nat)) ∧ W.cell? ⟨w.heap.size, 5, none⟩ = some (.int .u32 (N : Nat)) ∧ W.cell? ⟨vg, j * 4 + 2, none⟩ = some (.slice xo2 xn2 xc2)) := fun W hW => ⟨((unhide HR4) W hW).1, ((unhide HR4) W hW).2.1, ((unhide HVc) W hW.f).1⟩
      have HPUT : Hid (∀ x w4, OwF w4 w2.drew.heap.size x v.F → Fr (fun _ => False) w2.drew w4 → ∃ xo4 xc4 W8, x = .slice xo4 v.F.length xc4 ∧ (Instr.storeAt 45 (.pointer (some ⟨w.heap.size + 1, 0, none⟩)) (.agg #[.int .u32 0, .int .u32 0, .int .u8 0, .int .u32 (r.rc : Nat), .int .u32 (N : Nat), .slice xo4 v.F.length xc4, .slice none 0 0])).run Tryz.prog w4 = .ok () W8 ∧ (W8.cell? ⟨w.heap.size, 4, none⟩ = some (.int .u32 (r.rc : Nat)) ∧ W8.cell? ⟨w.heap.size, 5, none⟩ = some (.int .u32 (N : Nat)) ∧ W8.cell? ⟨vg, j * 4 + 2, none⟩ = some (.slice xo2 xn2 xc2)) ∧ (W8.heap[w.heap.size + 1]? = some (.cells [Value.int .u32 0, .int .u32 0, .int .u8 0, .int .u32 (r.rc : Nat), .int .u32 (N : Nat), .slice xo4 v.F.length xc4, .slice none 0 0].toArray 45) ∧ Fr (fun _ => False) w W8 ∧ OwF W8 w.heap.size (.slice xo4 v.F.length xc4) v.F)) := fun x w4 ho hf => by
       obtain ⟨xo4, xc4, rfl⟩ := own_formX ho
       have h4 := ((unhide H2).step (Fr.refl _ _).drew).step hf
       obtain ⟨W8, hst, hb8, hf8⟩ := ans_put h4.a (.int .u32 0) (.int .u32 0) (.int .u8 0) (.int .u32 (r.rc : Nat)) (.int .u32 (N : Nat)) (.slice xo4 v.F.length xc4) (.slice none 0 0) (fun u hu => by simp at hu; rcases hu with rfl | rfl | rfl | rfl | rfl | rfl | rfl <;> rfl)
       obtain ⟨s1, s2, s3⟩ := (unhide HS11) w4 h4
       have hB : w.heap.size + 1 < w2.drew.heap.size := lt_of_block (unhide H2).a
       exact ⟨xo4, xc4, W8, rfl, hst, ⟨(hf8.cell (p := ⟨w.heap.size, 4, none⟩) (lt_of_cell s1) (by show ¬ w.heap.size = w.heap.size + 1; omega)).trans s1, (hf8.cell (p := ⟨w.heap.size, 5, none⟩) (lt_of_cell s2) (by show ¬ w.heap.size = w.heap.size + 1; omega)).trans s2, (hf8.cell (p := ⟨vg, j * 4 + 2, none⟩) (lt_of_cell s3) (by show ¬ vg = w.heap.size + 1; omega)).trans s3⟩, hb8, h4.f.absorb hf8 (fun i hi => by omega), ho.out (by have := (unhide H2).f.size; exact this) hB hf8⟩
      clear HE0 HE1 HE2 HE3 HE4 hv' hv ej hj hcall hclone hvc HHas HVer HLa HV4 hx2 hrd
      go_wp2_with fail
      refine (unhide HB).mono ?_
      rintro e w' ⟨rfl, hw⟩
      obtain rfl := hw.symm
      clear HB hw
      go_wp2_with fail
      refine ((unhide HCV) _ (unhide H2).f).mono ?_
      rintro e w' ⟨rfl, hw⟩
      obtain rfl := hw.symm
      clear hw
      go_wp2_with fail
      refine wp_region_last (n := 13) (m := 13) (S := (fun W => W.cell? ⟨w.heap.size, 4, none⟩ = some (.int .u32 (r.rc : Nat)) ∧ W.cell? ⟨w.heap.size, 5, none⟩ = some (.int .u32 (N : Nat)) ∧ W.cell? ⟨vg, j * 4 + 2, none⟩ = some (.slice xo2 xn2 xc2))) (by kernel_rfl) rfl rfl rfl (by kernel_rfl) (by kernel_rfl) ((unhide HS11) _ ((unhide H2).step (Fr.refl _ _).drew)) (fun hHeld => ?_)
      refine wtk2 (i := 0) rfl hHeld ?_
      (try simp only [Act.put, nrm])
      refine wtk2 (i := 1) rfl hHeld ?_
      (try simp only [Act.put, nrm])
      refine wtk2 (i := 2) rfl hHeld ?_
      (try simp only [Act.put, nrm])
      refine wtk2 (i := 3) rfl hHeld ?_
      (try simp only [Act.put, nrm])
      refine wtk2 (i := 4) rfl hHeld ?_
      (try simp only [Act.put, nrm])
      refine wtk2 (i := 5) rfl hHeld ?_
      (try simp only [Act.put, nrm])
      refine wtk2 (i := 6) rfl hHeld ?_
      (try simp only [Act.put, nrm])
      refine wpAnyH_ready (rs := [7]) (by kernel_rfl) (by simp) (AllReadyH.cons rfl (fun K hK => ?_) AllReadyH.nil)
      go_simp
      refine ((unhide HCV) _ ((unhide H2).step (Fr.refl _ _).drew).f).mono ?_
      rintro e w' ⟨rfl, hw⟩
      obtain rfl := hw.symm
      clear hw
      go_simp
      refine hK.out _ _ ((unhide HS11) _ ((unhide H2).step (Fr.refl _ _).drew)) (fun hHeld => ?_)
      clear hK K
      (try simp only [Act.put, nrm])
      refine wtk2 (i := 8) rfl hHeld ?_
      (try simp only [Act.put, nrm])
      refine wtk2 (i := 9) rfl hHeld ?_
      (try simp only [Act.put, nrm])
      refine wtk2 (i := 10) rfl hHeld ?_
      (try simp only [Act.put, nrm])
      refine wpAnyH_ready (rs := [11]) (by kernel_rfl) (by simp) (AllReadyH.cons rfl (fun K hK => ?_) AllReadyH.nil)
      go_simp
      refine ((unhide HCl) _ ((unhide H2).step (Fr.refl _ _).drew).f).mono ?_
      rintro e w4 ⟨x, rfl, ho, hf4⟩
      obtain ⟨xo4, xc4, W8, rfl, hst, hS8, hO8⟩ := (unhide HPUT) x w4 ho hf4
      have H4 := hide (((unhide H2).step (Fr.refl _ _).drew).step hf4)
      have HST := hide hst
      have HO8 := hide hO8
      clear ho hf4 hst hO8 hS8
      go_simp
      refine hK.out _ _ ((unhide HS11) _ (unhide H4)) (fun hHeld => ?_)
      clear hK K
      (try simp only [Act.put, nrm])
      refine wtk2 (i := 12) rfl hHeld ?_
      (try simp only [Act.put, nrm])
      refine wpAnyH_done (by kernel_rfl) ?_ _
      simp only [lastQ]
      refine wp_stN 45 (.tmp 6) (.tmp 61) rfl _ _ (by simp [Act.eval]) (by simp [Act.eval]) (unhide HST) ?_
      (try simp only [Act.put, nrm])
      (
       obtain ⟨b8, f8, o8⟩ := unhide HO8
       have HR8 := hide (range_of_block b8)
       have HO9 := hide (And.intro f8 o8)
       clear b8 f8 o8 HO8 H4 HST HPUT HS11 HCV HCl HVc
       go_wp2_with fail
       refine bodyPost_ret (results_cell_mid rfl _ _ (w.heap.size + 1) 0 _ _ rfl (unhide HR8) Tryz.underlying45 rfl (by kernel_rfl)) rfl ?_
       rw [unhide HX]
       exact ⟨_, _, rfl, .inl ⟨rfl, (unhide HO9).1, (unhide HO9).2, World.ownsRow_nil _ _ _ _⟩⟩)
    ·have hn : c.V[N - 1]? = none := List.getElem?_eq_none (by omega)
     have HB := hide ((unhide HHas) w2 (unhide H2).f)
     rw [decide_eq_false h2, Bool.and_false] at HB
     have HX := hide ((unhide HE2) (by trivial) h1 hn)
     clear HE0 HE1 HE2 HE3 HE4 hn HHas HVer HLa HV4
     go_wp2_with fail
     refine (unhide HB).mono ?_
     rintro e w' ⟨rfl, rfl⟩
     clear HB
     go_wp2_with fail
     refine ((unhide HRf) 4 _).mono ?_
     rintro e w3 ⟨rfl, hf3⟩
     have h3 := (unhide H2).step hf3
     obtain ⟨e0, e1, e2, e3, e4, e5, e6, z0, z1, z2, z3, z4, z5, z6⟩ := h3.ans
     have H3 := hide h3.f
     clear h3 hf3
     go_wp2_with fail
     (try simp only [Exit.inBlock, Exit.then])
     refine bodyPost_ret (results_cell_mid rfl _ _ (w.heap.size + 1) 0 [.int .u32 0, .int .u32 0, .int .u8 ((4 : Nat) : Int), .int .u32 0, .int .u32 0, .slice none 0 0, .slice none 0 0] _ rfl ?_ Tryz.underlying45 rfl (by kernel_rfl)) rfl ?_
     ·intro j v hv
      rcases j with _ | _ | _ | _ | _ | _ | _ | j
      ·simp at hv; subst hv; go_simp
      ·simp at hv; subst hv; go_simp
      ·simp at hv; subst hv; go_simp
      ·simp at hv; subst hv; go_simp
      ·simp at hv; subst hv; go_simp
      ·simp at hv; subst hv; go_simp
      ·simp at hv; subst hv; go_simp
      ·simp at hv
     ·rw [unhide HX]; refine OpPost.no rfl ?_
      repeat refine Fr.setCell ?_ (.inr (by simp)) _
      exact unhide H3
  ·have hc' : ((code : Int) != 0) = true := by rw [bne_iff_ne]; omega
   have HX := hide ((unhide HE0) hz)
   clear HE0 HE1 HE2 HE3 HE4 HR4 HR4' HHas HVer HLa HV4
   go_wp2_with fail
   refine ((unhide HRf) code _).mono ?_
   rintro e w3 ⟨rfl, hf3⟩
   have h3 := (unhide H2).step hf3
   obtain ⟨e0, e1, e2, e3, e4, e5, e6, z0, z1, z2, z3, z4, z5, z6⟩ := h3.ans
   have H3 := hide h3.f
   clear h3 hf3
   go_wp2_with fail
   (try simp only [Exit.inBlock, Exit.then])
   refine bodyPost_ret (results_cell_mid rfl _ _ (w.heap.size + 1) 0 [.int .u32 0, .int .u32 0, .int .u8 ((code : Nat) : Int), .int .u32 0, .int .u32 0, .slice none 0 0, .slice none 0 0] _ rfl ?_ Tryz.underlying45 rfl (by kernel_rfl)) rfl ?_
   ·intro j v hv
    rcases j with _ | _ | _ | _ | _ | _ | _ | j
    ·simp at hv; subst hv; go_simp
    ·simp at hv; subst hv; go_simp
    ·simp at hv; subst hv; go_simp
    ·simp at hv; subst hv; go_simp
    ·simp at hv; subst hv; go_simp
    ·simp at hv; subst hv; go_simp
    ·simp at hv; subst hv; go_simp
    ·simp at hv
   ·rw [unhide HX]; refine OpPost.no rfl ?_
    repeat refine Fr.setCell ?_ (.inr (by simp)) _
    exact unhide H3
end Go.Proofs.YtiknjghcjaaenaaGreatDoor
