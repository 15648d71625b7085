import Derived.Test.YtdcopmkgmbiikaaGreatDoorPw5
import Derived.Test.YtdcopmkgmbiikaaGreatDoorKBase
import Derived.Deep.MidRow
import Derived.Test.YtdcopmkgmbiikaaGreatDoorPw4
import Derived.Test.YtdcopmkgmbiikaaGreatDoorPw2
import Derived.Maps.AppendAt
import Derived.Test.YtdcopmkgmbiikaaGreatDoorPw3
import Derived.Deep.Cut
import Derived.Deep.CutRange
import Derived.Laws.OwnMore
namespace Go.Proofs.YtdcopmkgmbiikaaGreatDoor
open Go.RowKit
set_option maxHeartbeats 4000000 in
set_option maxRecDepth 100000 in
theorem message_any (c : CS) (v : MsM) (a0 a1 a2 a3 a4 : Option Addr) (n0 n1 n2 n3 n4 : Nat) (x0 x1 x2 x3 x4 : Value) (cb b g : Nat) (F : Nat → Prop) (E : Nat → Addr) (w : World) (h : Cd w cb b F c E) (hp : MsC w g v x0 x1 x2 x3 x4)
  (e0 : x0 = .slice a0 v.rq.fs.length n0) (e1 : x1 = .slice a1 v.an.fs.length n1) (e2 : x2 = .slice a2 v.an.hi.length n2) (e3 : x3 = .slice a3 v.ev.rq.fs.length n3) (e4 : x4 = .slice a4 v.ev.dg.length n4)
  (hX0 : FdX w c x0 v.rq.fs F g) (hX1 : FdX w c x1 v.an.fs F g) (hX2 : SuX w c x2 v.an.hi F g) (hX3 : FdX w c x3 v.ev.rq.fs F g) (hX4 : BVg w x4 v.ev.dg F g) (hR4 : ∀ q, c = .rd q → x4 = .slice none 0 0 ∧ v.ev.dg = []) (hL : ∀ i, Loc w cb F g i) (hv : v.ok) (hroom : c.room 501) :
  Calls Tryz.prog 114 #[.pointer (some ⟨cb, 0, none⟩), .pointer (some ⟨g, 0, none⟩)] w fun e w' => e = .returned (.tuple #[]) ∧ ∃ F' y0 y1 y2 y3 y4, MsO w w' cb b g F F' c E (c.pMessage v) x0 x1 x2 x3 y0 y1 y2 y3 y4 := by
 have hn : v.lens := ⟨hX0.n, hX1.n, hX2.n, hX3.n, hX4.len⟩
 have k5 := h.g7.k5
 have hsf := st_func
 have HK := hid (fun (V : World) (hv : Fr (fun _ => False) w V) => kpC hv k5)
 have HM : Hid (∀ V : World, Fr (fun _ => False) w V → V.rangeAt g 0 (v.vals x0 x1 x2 x3 x4).toList) := hid (fun V hv j u hu => kpC hv (hp.range j u hu))
 have hBS := fun (V : World) => beside_any v a0 a1 a2 a3 a4 n0 n1 n2 n3 n4 V hv hn
 rw [← e0, ← e1, ← e2, ← e3, ← e4] at hBS
 have HB := hid hBS
 clear hBS e0 e1 e2 e3 e4
 have hm0 := hp.c0
 have HN : Hid (∀ (w3 : World) (f1 f2 : Value) (T : TypeId), Fr (fun _ => False) w w3 → RR enU8 w w3 E f1 (wiN 1 7 5) → RR enU8 w w3 E f2 (unN v.beside) → Calls Tryz.prog 127 #[.pointer (some ⟨cb, 0, none⟩), .string n_kind, .pointer (some ⟨g, 0, none⟩), .slice (some ⟨w3.heap.size, 0, none⟩) 2 2] (w3.alloc (.cells #[f1, f2] T)) fun e w' => e = .returned (.tuple #[]) ∧ ∃ F', Cd w' cb b F' (c.pU8 n_kind [wiN 1 7 5, unN v.beside] v.kd).1 E ∧ w'.cell? ⟨g, 0, none⟩ = some (.int .u8 ((c.pU8 n_kind [wiN 1 7 5, unN v.beside] v.kd).2 : Nat)) ∧ Stp w w' F F' (fun k j => k = g ∧ j = 0)) := fun w3 f1 f2 T hf3 h1 h2 => by
  have hf2 := hf3.trans (box1 w3 (.cells #[f1, f2] T)) (fun _ _ h => h)
  refine (number_u8 c n_kind [wiN 1 7 5, unN v.beside] v.kd cb b g 0 F E _ _ (h.fr0 hf2) (kpC hf2 hm0) ((hL 0).fr0 hf2) hv.kd (ruc_two T h (hL 0) hf3 h1 h2) (by simp only [CS.room] at *; omega)).mono ?_
  rintro e w' ⟨rfl, F', hC, hc, hs⟩
  exact ⟨rfl, F', hC, hc, (Stp.of_fr hf2 F _).trans hs (fun _ _ _ h => h)⟩
 have HG := hid h.g7
 obtain ⟨c1, hc1⟩ : ∃ c1, (c.pU8 n_kind [wiN 1 7 5, unN v.beside] v.kd).1 = c1 := ⟨_, rfl⟩
 obtain ⟨kd, hkd⟩ : ∃ kd, (c.pU8 n_kind [wiN 1 7 5, unN v.beside] v.kd).2 = kd := ⟨_, rfl⟩
 have hP : c.pMessage v = c1.pM kd v := by rw [← hc1, ← hkd]; rfl
 rw [hP]
 have hkl : kd < 256 := by rw [← hkd]; exact CS.pU8_lt c n_kind [wiN 1 7 5, unN v.beside] v.kd hv.kd
 have HT : Hid (∀ (w4 : World) (F4 : Nat → Prop), Cd w4 cb b F4 c1 E → w4.cell? ⟨g, 0, none⟩ = some (.int .u8 (kd : Nat)) → Stp w w4 F F4 (fun k j => k = g ∧ j = 0) → MsT w w4 cb b g F F4 c c1 E v kd x0 x1 x2 x3 x4) := hid (fun w4 F4 hC hc hs => by
  have hg := (hL 0).lt
  have hgF := (hL 0).nF
  refine ⟨hC, ⟨hc, hp.r.stp hs hgF (fun i hi e => by omega), (hs.oth g 11 hg hgF (fun e => by omega)).trans hp.c11, (hs.oth g 12 hg hgF (fun e => by omega)).trans hp.c12, hp.a.stp hs hgF (fun i hi e => by omega), (hs.oth g 20 hg hgF (fun e => by omega)).trans hp.c20, hp.e.stp hs hgF (fun i hi e => by omega), (hs.oth g 34 hg hgF (fun e => by omega)).trans hp.c34⟩, hX0, hX1, hX2, hX3, hX4, hR4, hL, hs.mono (fun k j _ e => ⟨e.1, by omega, by omega⟩), by rw [← hc1]; exact CS.pU8_sm _ _ _ _, hv, by rw [← hc1]; exact CS.pU8_room hroom _ _ _⟩)
 rw [hc1, hkd] at HN
 clear h hp hX0 hX1 hX2 hX3 hX4 hR4 hL hv hroom hn hP hc1 hkd k5 hm0
 go_enter Tryz.func114, Tryz.ntmps114
 go_wp2_with fail
 refine wp_region_last (n := 12) (m := 12) (S := fun V => Fr (fun _ => False) w V) (by kernel_rfl) rfl rfl rfl (by kernel_rfl) (by kernel_rfl) ((Fr.refl _ _).drew) (fun hHeld => ?_)
 refine wtk (i := 0) (v := ?_) rfl (Or.inl ⟨by rfl, ?_⟩) hHeld ?_
 rotate_left
 ·intro V hSw; (try dsimp only at hSw); have q0 := (uh HK) V hSw; go_simp; (try with_reducible rfl)
 (try simp only [Act.put, nrm])
 refine wtk (i := 1) (v := ?_) rfl (Or.inl ⟨by rfl, ?_⟩) hHeld ?_
 rotate_left
 ·intro V hSw; (try dsimp only at hSw); have q0 := (uh HK) V hSw; go_simp; (try with_reducible rfl)
 (try simp only [Act.put, nrm])
 refine wtk (i := 2) (v := ?_) rfl (Or.inl ⟨by rfl, ?_⟩) hHeld ?_
 rotate_left
 ·intro V hSw; (try dsimp only at hSw); have q0 := (uh HK) V hSw; go_simp; (try with_reducible rfl)
 (try simp only [Act.put, nrm])
 refine wtk (i := 3) (v := ?_) rfl (Or.inl ⟨by rfl, ?_⟩) hHeld ?_
 rotate_left
 ·intro V hSw; (try dsimp only at hSw); have q0 := (uh HK) V hSw; go_simp; (try with_reducible rfl)
 (try simp only [Act.put, nrm])
 refine wtk (i := 4) (v := ?_) rfl (Or.inl ⟨by rfl, ?_⟩) hHeld ?_
 rotate_left
 ·intro V hSw; (try dsimp only at hSw); have q0 := (uh HK) V hSw; go_simp; (try with_reducible rfl)
 (try simp only [Act.put, nrm])
 refine wtk (i := 6) (v := ?_) rfl (Or.inl ⟨by rfl, ?_⟩) hHeld ?_
 rotate_left
 ·intro V hSw; (try dsimp only at hSw); have q0 := (uh HK) V hSw; go_simp; (try with_reducible rfl)
 (try simp only [Act.put, nrm])
 refine wtk (i := 7) (v := ?_) rfl (Or.inl ⟨by rfl, ?_⟩) hHeld ?_
 rotate_left
 ·intro V hSw; (try dsimp only at hSw); have q0 := (uh HK) V hSw; go_simp; (try with_reducible rfl)
 (try simp only [Act.put, nrm])
 refine wtk (i := 8) rfl (yieldsIf_load_mid rfl 42 (.tmp 11) rfl g 0 rfl (v.vals x0 x1 x2 x3 x4).toList _ (fun V hSw => (uh HM) V hSw) Tryz.underlying42 rfl Tryz.sizeMs7) hHeld ?_
 (try simp only [Act.put, nrm])
 refine wpAnyH_ready (rs := [5]) (by kernel_rfl) (by simp) (AllReadyH.cons rfl (fun K hK => ?_) AllReadyH.nil)
 go_simp
 refine (within_u8 1 7 5 E _ (by decide)).mono ?_
 rintro e w1 ⟨fv1, rfl, K1, hF1, hf1, hK1⟩
 have H1 := hid (And.intro (show RR enU8 w w1 E fv1 (wiN 1 7 5) from ⟨K1, hF1, hK1.mono (Nat.le_refl _)⟩) ((Fr.refl _ _).drew.trans hf1 (fun _ _ h => h)))
 obtain ⟨Fc1, caps1, rfl, _⟩ := hF1.ex
 clear hF1 hf1 hK1
 go_simp
 refine hK.out _ _ ((uh H1).2) (fun hHeld => ?_)
 clear hK K
 (try simp only [Act.put, nrm])
 refine wpAnyH_ready (rs := [9]) (by kernel_rfl) (by simp) (AllReadyH.cons rfl (fun K hK => ?_) AllReadyH.nil)
 go_simp
 refine ((uh HB) _).mono ?_
 rintro e w2 ⟨rfl, hf2⟩
 have H2 := hid (And.intro ((uh H1).1.fr hf2) ((uh H1).2.trans hf2 (fun _ _ h => h)))
 clear hf2 H1
 go_simp
 refine hK.out _ _ ((uh H2).2) (fun hHeld => ?_)
 clear hK K
 (try simp only [Act.put, nrm])
 refine wpAnyH_ready (rs := [10]) (by kernel_rfl) (by simp) (AllReadyH.cons rfl (fun K hK => ?_) AllReadyH.nil)
 go_simp
 refine (unless_any v.beside E _ ((uh HG).fr (uh H2).2 (fun _ h => h.elim))).mono ?_
 rintro e w3 ⟨fv3, rfl, K3, hF3, hf3, hK3⟩
 have H3 := hid (And.intro ((uh H2).1.fr hf3) (And.intro (show RR enU8 w w3 E fv3 (unN v.beside) from ⟨K3, hF3, hK3.mono (uh H2).2.size⟩) ((uh H2).2.trans hf3 (fun _ _ h => h))))
 obtain ⟨Fc3, caps3, rfl, _⟩ := hF3.ex
 clear hF3 hf3 hK3 H2
 go_simp
 refine hK.out _ _ ((uh H3).2.2) (fun hHeld => ?_)
 clear hK K
 (try simp only [Act.put, nrm])
 refine wpAnyH_ready (rs := [11]) (by kernel_rfl) (by simp) (AllReadyH.cons rfl (fun K hK => ?_) AllReadyH.nil)
 go_simp
 refine hK.out _ _ ((uh H3).2.2.alloc _) (fun hHeld => ?_)
 clear hK K
 (try simp only [Act.put, nrm])
 refine wpAnyH_done (by kernel_rfl) ?_ _
 simp only [lastQ]
 go_simp
 refine ((uh HN) w3 _ _ _ (uh H3).2.2 (uh H3).1 (uh H3).2.1).mono ?_
 rintro e w4 ⟨rfl, F4, hC4, hk4, hs4⟩
 have HT4 := hid ((uh HT) w4 F4 hC4 hk4 hs4)
 clear hC4 hs4 H3 HN HT HK HM HB HG
 have hL4 := fun i => ((uh HT4).L i).stp (uh HT4).s
 have HL := hid hL4
 clear hL4
 by_cases k1 : kd = 1
 ·subst k1
  have HQ := hid (request_any c1 v.rq x0 cb b g 1 F4 E w4 (uh HT4).C (uh HT4).m.r ((uh HT4).X0.stp (uh HT4).s (fun k j _ e => e.1) (uh HT4).sm.1 (uh HT4).sm.2) (uh HL) (uh HT4).ok.rq (CS.room_le (uh HT4).room (by decide)))
  go_wp2_with fail
  refine (uh HQ).mono ?_
  rintro e w5 ⟨rfl, F5, y, hC5, hr5, hO5, hs5⟩
  have HE := hid ((uh HT4).end1 rfl hC5 hr5 hO5 hs5)
  clear hC5 hr5 hO5 hs5 HQ
  go_wp2_with fail
  go_end0
  exact ⟨rfl, F5, _, _, _, _, _, uh HE⟩
 by_cases k2 : kd = 2
 ·subst k2
  have HQ := hid (id_any c1 (v.icl, v.inu) cb b g 11 F4 E w4 (uh HT4).C (uh HT4).m.c11 (uh HT4).m.c12 (uh HL) (uh HT4).ok.icl (uh HT4).ok.inu (CS.room_le (uh HT4).room (by decide)))
  go_wp2_with fail
  refine (uh HQ).mono ?_
  rintro e w5 ⟨rfl, F5, hC5, h1, h2, hs5⟩
  have HE := hid ((uh HT4).end2 rfl hC5 h1 h2 hs5)
  clear hC5 h1 h2 hs5 HQ
  go_wp2_with fail
  go_end0
  exact ⟨rfl, F5, _, _, _, _, _, uh HE⟩
 by_cases k3 : kd = 3
 ·subst k3
  have HQ := hid (answer_any c1 v.an x1 x2 cb b g 13 F4 E w4 (uh HT4).C (uh HT4).m.a ((uh HT4).X1.stp (uh HT4).s (fun k j _ e => e.1) (uh HT4).sm.1 (uh HT4).sm.2) ((uh HT4).X2.stp (uh HT4).s (fun k j _ e => e.1) (uh HT4).sm) (uh HL) (uh HT4).ok.an (uh HT4).room)
  go_wp2_with fail
  refine (uh HQ).mono ?_
  rintro e w5 ⟨rfl, F5, y, z, hC5, hr5, hO5, hZ5, hs5⟩
  have HE := hid ((uh HT4).end3 rfl hC5 hr5 hO5 hZ5 hs5)
  clear hC5 hr5 hO5 hZ5 hs5 HQ
  go_wp2_with fail
  go_end0
  exact ⟨rfl, F5, _, _, _, _, _, uh HE⟩
 by_cases k4 : kd = 4
 ·subst k4
  have HQ := hid (id_any c1 (v.icl, v.inu) cb b g 11 F4 E w4 (uh HT4).C (uh HT4).m.c11 (uh HT4).m.c12 (uh HL) (uh HT4).ok.icl (uh HT4).ok.inu (CS.room_le (uh HT4).room (by decide)))
  go_wp2_with fail
  refine (uh HQ).mono ?_
  rintro e w5 ⟨rfl, F5, hC5, h1, h2, hs5⟩
  have hL5 := fun i => ((uh HL) i).stp hs5
  have r5 : (c1.pId (v.icl, v.inu)).1.room 1 := CS.pId_room (n := 1) (CS.room_le (uh HT4).room (by decide)) _
  have c20 : w5.cell? ⟨g, 20, none⟩ = some (.int .u8 (v.co : Nat)) := (hs5.oth g 20 (uh HT4).lt (uh HT4).nF (fun e => by have := e.2; omega)).trans (uh HT4).m.c20
  have H5 := hid (And.intro hC5 (And.intro h1 (And.intro h2 (And.intro hs5 (And.intro hL5 (And.intro r5 c20))))))
  have k4 := hC5.g7.k4
  have HK5 := hid (fun (V : World) (hv : Fr (fun _ => False) w5 V) => kpC hv k4)
  clear hC5 h1 h2 hs5 hL5 r5 c20 HQ k4
  go_wp2_with fail
  refine wp_region_last (n := 7) (m := 7) (S := fun V => Fr (fun _ => False) w5 V) (by kernel_rfl) rfl rfl rfl (by kernel_rfl) (by kernel_rfl) ((Fr.refl _ _).drew) (fun hHeld => ?_)
  refine wtk (i := 0) (v := ?_) rfl (Or.inl ⟨by rfl, ?_⟩) hHeld ?_
  rotate_left
  ·intro V hSw; (try dsimp only at hSw); have q0 := (uh HK5) V hSw; go_simp; (try with_reducible rfl)
  (try simp only [Act.put, nrm])
  refine wtk (i := 1) (v := ?_) rfl (Or.inl ⟨by rfl, ?_⟩) hHeld ?_
  rotate_left
  ·intro V hSw; (try dsimp only at hSw); have q0 := (uh HK5) V hSw; go_simp; (try with_reducible rfl)
  (try simp only [Act.put, nrm])
  refine wtk (i := 2) (v := ?_) rfl (Or.inl ⟨by rfl, ?_⟩) hHeld ?_
  rotate_left
  ·intro V hSw; (try dsimp only at hSw); have q0 := (uh HK5) V hSw; go_simp; (try with_reducible rfl)
  (try simp only [Act.put, nrm])
  refine wtk (i := 3) (v := ?_) rfl (Or.inl ⟨by rfl, ?_⟩) hHeld ?_
  rotate_left
  ·intro V hSw; (try dsimp only at hSw); have q0 := (uh HK5) V hSw; go_simp; (try with_reducible rfl)
  (try simp only [Act.put, nrm])
  refine wtk (i := 4) (v := ?_) rfl (Or.inl ⟨by rfl, ?_⟩) hHeld ?_
  rotate_left
  ·intro V hSw; (try dsimp only at hSw); have q0 := (uh HK5) V hSw; go_simp; (try with_reducible rfl)
  (try simp only [Act.put, nrm])
  refine wpAnyH_ready (rs := [5]) (by kernel_rfl) (by simp) (AllReadyH.cons rfl (fun K hK => ?_) AllReadyH.nil)
  go_simp
  refine (within_u8 1 15 4 E _ (by decide)).mono ?_
  rintro e w6 ⟨fv1, rfl, K1, hF1, hf1, hK1⟩
  have H6 := hid (And.intro (show RR enU8 w5 w6 E fv1 (wiN 1 15 4) from ⟨K1, hF1, hK1.mono (Nat.le_refl _)⟩) ((Fr.refl _ _).drew.trans hf1 (fun _ _ h => h)))
  obtain ⟨Fc1, caps1, rfl, _⟩ := hF1.ex
  clear hF1 hf1 hK1
  go_simp
  refine hK.out _ _ ((uh H6).2) (fun hHeld => ?_)
  clear hK K
  (try simp only [Act.put, nrm])
  refine wpAnyH_ready (rs := [6]) (by kernel_rfl) (by simp) (AllReadyH.cons rfl (fun K hK => ?_) AllReadyH.nil)
  go_simp
  refine hK.out _ _ ((uh H6).2.alloc _) (fun hHeld => ?_)
  clear hK K
  (try simp only [Act.put, nrm])
  refine wpAnyH_done (by kernel_rfl) ?_ _
  simp only [lastQ]
  go_simp
  refine (num_u8_R (nm := n_busy) _ (uh H5).1 (uh H5).2.2.2.2.2.2 ((uh H5).2.2.2.2.1 _) (uh HT4).ok.co (uh H6).1 (uh H6).2 (uh H5).2.2.2.2.2.1).mono ?_
  rintro e w7 ⟨rfl, F7, hC7, hc7, hs7⟩
  obtain ⟨hC5, h1, h2, hs5, hL5, r5, c20⟩ := uh H5
  have hg5 := (hL5 0).lt
  have hgF5 := (hL5 0).nF
  have HE := hid ((uh HT4).end4 rfl hC7 ((hs7.oth g 11 hg5 hgF5 (fun e => by omega)).trans h1) ((hs7.oth g 12 hg5 hgF5 (fun e => by omega)).trans h2) hc7 ((hs5.mono (P' := fun k j => cellsAt g 11 2 k j ∨ (k = g ∧ j = 20)) (fun k j _ e => .inl e)).trans hs7 (fun k j _ e => .inr e)))
  clear hC5 h1 h2 hs5 hL5 r5 c20 hC7 hc7 hs7 hg5 hgF5 H5 H6 HK5
  go_wp2_with fail
  go_end0
  exact ⟨rfl, F7, _, _, _, _, _, uh HE⟩
 by_cases k5 : kd = 5
 ·subst k5
  have HQ := hid (event_any c1 v.ev x3 x4 cb b g 21 F4 E w4 (uh HT4).C (uh HT4).m.e ((uh HT4).X3.stp (uh HT4).s (fun k j _ e => e.1) (uh HT4).sm.1 (uh HT4).sm.2) ((uh HT4).X4.stp (uh HT4).s (fun k j _ e => e.1)) (uh HL) (uh HT4).ok.ev (CS.room_le (uh HT4).room (by decide)))
  go_wp2_with fail
  refine (uh HQ).mono ?_
  rintro e w5 ⟨rfl, F5, y, z, hC5, hr5, hO5, hZ5, hs5⟩
  have HE := hid ((uh HT4).end5 rfl hC5 hr5 hO5 hZ5 hs5)
  clear hC5 hr5 hO5 hZ5 hs5 HQ
  go_wp2_with fail
  go_end0
  exact ⟨rfl, F5, _, _, _, _, _, uh HE⟩
 by_cases k6 : kd = 6
 ·subst k6
  have HQ := hid (number_u32 c1 n_length [] v.le cb b g 34 F4 E (.slice none 0 0) w4 (uh HT4).C (uh HT4).m.c34 ((uh HL) _) (uh HT4).ok.le (RuC.nil _ w4 F4 g E) (CS.room_le (uh HT4).room (by decide)))
  go_wp2_with fail
  refine (uh HQ).mono ?_
  rintro e w5 ⟨rfl, F5, hC5, h1, hs5⟩
  have HE := hid ((uh HT4).end6 rfl hC5 h1 hs5)
  clear hC5 h1 hs5 HQ
  go_wp2_with fail
  go_end0
  exact ⟨rfl, F5, _, _, _, _, _, uh HE⟩
 have m1 : ((kd : Int) == 1) = false := by simp; omega
 have m2 : ((kd : Int) == 2) = false := by simp; omega
 have m3 : ((kd : Int) == 3) = false := by simp; omega
 have m4 : ((kd : Int) == 4) = false := by simp; omega
 have m5 : ((kd : Int) == 5) = false := by simp; omega
 have m6 : ((kd : Int) == 6) = false := by simp; omega
 have HE := hid ((uh HT4).end7 (by omega))
 clear k1 k2 k3 k4 k5 k6
 go_wp2_with fail
 go_end0
 exact ⟨rfl, F4, _, _, _, _, _, uh HE⟩
theorem blkset {w : World} {b t : Nat} {cs : Array Value} (h : w.heap[b]? = some (.cells cs t)) (o : Nat) (v : Value) : (w.setCell ⟨b, o, none⟩ v).heap[b]? = some (.cells (cs.setIfInBounds o v) t) := by
 simp [World.setCell, Array.getElem?_modify, h]
theorem setCells_blk (g t : Nat) : ∀ (vs olds pre : List Value) (o : Nat) (w : World), w.heap[g]? = some (.cells (pre ++ olds).toArray t) → olds.length = vs.length → pre.length = o → (w.setCells g o vs).heap[g]? = some (.cells (pre ++ vs).toArray t)
 | [], olds, pre, o, w, h, hl, _ => by
  obtain rfl := List.eq_nil_of_length_eq_zero hl
  exact h
 | v :: vs, [], pre, o, w, h, hl, _ => by cases hl
 | v :: vs, a :: olds, pre, o, w, h, hl, ho => by
  rw [World.setCells]
  have := setCells_blk g t vs olds (pre ++ [v]) (o + 1) (w.setCell ⟨g, o, none⟩ v) (by rw [blkset h]; subst ho; simp) (by simpa using hl) (by simp [ho])
  simpa using this
theorem setCells_fr (g : Nat) : ∀ (vs : List Value) (o : Nat) (w : World), Fr (fun k => k = g) w (w.setCells g o vs)
 | [], o, w => Fr.refl _ _
 | v :: vs, o, w => by
  rw [World.setCells]
  exact ((Fr.refl (fun k => k = g) w).setCell (p := ⟨g, o, none⟩) (.inl rfl) v).trans (setCells_fr g vs (o + 1) _) (fun _ _ h => h)
theorem st_all {P : Program} {W : World} {g t ty : Nat} (olds news : List Value) (hb : W.heap[g]? = some (.cells olds.toArray t)) (hl : olds.length = news.length) (hi : (P.info? ty).map (·.size) = some news.length) (h1 : ∀ v ∈ news, v.oneCell' = true) :
  ∃ W8, (Instr.storeAt ty (.pointer (some ⟨g, 0, none⟩)) (.agg news.toArray)).run P W = .ok () W8 ∧ W8.heap[g]? = some (.cells news.toArray t) ∧ Fr (fun k => k = g) W W8 := by
 refine ⟨W.setCells g 0 news, run_storeAt_mid W g 0 ty news.toArray (fun j hj => ?_) (by simpa using hi) (all_oneCell_toArray h1), ?_, setCells_fr g news 0 W⟩
 ·have hj : j < news.length := by simpa using hj
  have hj2 : j < olds.length := by omega
  refine ⟨?_, by simp [World.frozen?, hb]⟩
  simp [World.cell?, hb, hj2]
 ·have := setCells_blk g t news olds [] 0 W (by simpa using hb) hl rfl
  simpa using this
theorem wpList_stN {P : Program} {w w' : World} {ops : Array Oper} {rest : List Oper} {op : Oper} {a : Act} {Q : Exit → Act → World → Prop} (hgd : op.guard = none) (ty : TypeId) (x y : Operand) (ho : op.op = .store ty x y)
  (p v : Value) (hx : a.eval x = p) (hy : a.eval y = v) (hr : (Instr.storeAt ty p v).run P w = .ok () w')
  (h : wpList P ops Q rest (a.put op.dst undef) w') : wpList P ops Q (op :: rest) a w :=
 wpList_plain hgd fun _ hK => by
  unfold Oper.wp execOp
  simp only [ho, hx, hy, Sem.run_bind, hr, Result.andThen_ok, Sem.run_pure]
  exact hK _ _ h
theorem rOB {W : World} {b : Nat} {cs : List Value} {t : TypeId} (h : W.heap[b]? = some (.cells cs.toArray t)) : W.rangeAt b 0 cs := by
 intro j v hv
 simp only [World.cell?, h]
 simpa using hv
end Go.Proofs.YtdcopmkgmbiikaaGreatDoor
namespace Go.Proofs.YtdcopmkgmbiikaaGreatDoor
open Go.RowKit
end Go.Proofs.YtdcopmkgmbiikaaGreatDoor
namespace Go.Proofs.YtdcopmkgmbiikaaGreatDoor
open Go.RowKit
set_option maxRecDepth 100000 in
set_option maxHeartbeats 2000000 in
theorem whole_Message (c : CS) (v : MsM) (a0 a1 a2 a3 a4 : Option Addr) (n0 n1 n2 n3 n4 : Nat) (x0 x1 x2 x3 x4 : Value) (cb b g : Nat) (F : Nat → Prop) (E : Nat → Addr) (w : World) (h : Cd w cb b F c E) (hp : MsC w g v x0 x1 x2 x3 x4)
  (e0 : x0 = .slice a0 v.rq.fs.length n0) (e1 : x1 = .slice a1 v.an.fs.length n1) (e2 : x2 = .slice a2 v.an.hi.length n2) (e3 : x3 = .slice a3 v.ev.rq.fs.length n3) (e4 : x4 = .slice a4 v.ev.dg.length n4)
  (hX0 : FdX w c x0 v.rq.fs F g) (hX1 : FdX w c x1 v.an.fs F g) (hX2 : SuX w c x2 v.an.hi F g) (hX3 : FdX w c x3 v.ev.rq.fs F g) (hX4 : BVg w x4 v.ev.dg F g) (hR4 : ∀ q, c = .rd q → x4 = .slice none 0 0 ∧ v.ev.dg = []) (hL : ∀ i, Loc w cb F g i) (hv : v.ok) (hroom : c.room 502) :
  Calls Tryz.prog 68 #[.pointer (some ⟨cb, 0, none⟩), .iface 145 (.pointer (some ⟨g, 0, none⟩))] w fun e w' => e = .returned (.tuple #[]) ∧ ∃ F' y0 y1 y2 y3 y4, MsO w w' cb b g F F' c E ((c.pForm 7).pMessage v) x0 x1 x2 x3 y0 y1 y2 y3 y4 := by
 have t0 := Tryz.wh_Message
 have t1 := Tryz.wm_Message_Request
 have t2 := Tryz.wm_Message_Answer
 have t3 := Tryz.wm_Message_Event
 have t4 := Tryz.wm_Message_Head
 have t5 := Tryz.wm_Message_Signed
 have t6 := Tryz.wm_Message_Proof
 have HF := hid (form_any c 7 cb b F E w h (by decide) (by simp only [CS.room] at *; omega))
 have hgF := (hL 0).nF
 have hM := c.pForm_sm 7
 have H := hid (And.intro hp (And.intro hL (And.intro hX0 (And.intro hX1 (And.intro hX2 (And.intro hX3 (And.intro hX4 hR4)))))))
 clear h hp hL hX0 hX1 hX2 hX3 hX4 hR4
 go_enter Tryz.func68, Tryz.ntmps68
 go_wp2_with fail
 refine (uh HF).mono ?_
 rintro e w1 ⟨rfl, F1, hC1, hs1⟩
 obtain ⟨hp, hL, hX0, hX1, hX2, hX3, hX4, hR4⟩ := uh H
 have hg := (hL 0).lt
 have hm1 : MsC w1 g v x0 x1 x2 x3 x4 := ⟨(hs1.oth g 0 hg hgF (fun h => h)).trans hp.c0, hp.r.stp hs1 hgF (fun _ _ h => h), (hs1.oth g 11 hg hgF (fun h => h)).trans hp.c11, (hs1.oth g 12 hg hgF (fun h => h)).trans hp.c12, hp.a.stp hs1 hgF (fun _ _ h => h), (hs1.oth g 20 hg hgF (fun h => h)).trans hp.c20, hp.e.stp hs1 hgF (fun _ _ h => h), (hs1.oth g 34 hg hgF (fun h => h)).trans hp.c34⟩
 have HH := hid (message_any (c.pForm 7) v a0 a1 a2 a3 a4 n0 n1 n2 n3 n4 x0 x1 x2 x3 x4 cb b g F1 E w1 hC1 hm1 e0 e1 e2 e3 e4 (hX0.stp (c' := c.pForm 7) hs1 (fun _ _ _ h => h.elim) hM.1 hM.2) (hX1.stp (c' := c.pForm 7) hs1 (fun _ _ _ h => h.elim) hM.1 hM.2) (hX2.stp (c' := c.pForm 7) hs1 (fun _ _ _ h => h.elim) hM) (hX3.stp (c' := c.pForm 7) hs1 (fun _ _ _ h => h.elim) hM.1 hM.2) (hX4.stp hs1 (fun _ _ _ h => h.elim)) (fun q e => by obtain ⟨q', e'⟩ := hM.2 q e; exact hR4 q' e') (fun i => (hL i).stp hs1) hv (CS.pForm_room (by simp only [CS.room] at *; omega) 7))
 have H1 := hid (And.intro hs1 hX4)
 clear hC1 hs1 hp hL hX0 hX1 hX2 hX3 hX4 hR4 hm1 e0 e1 e2 e3 e4
 go_wp2_with fail
 refine (uh HH).mono ?_
 rintro e w2 ⟨rfl, F2, y0, y1, y2, y3, y4, hO⟩
 have hmd : ∀ q, c = .rd q → ∃ q', c.pForm 7 = .rd q' := by rintro q rfl; exact ⟨_, rfl⟩
 have H2 : Hid (MsO w w2 cb b g F F2 c E ((c.pForm 7).pMessage v) x0 x1 x2 x3 y0 y1 y2 y3 y4) := hid ⟨hO.C, hO.m, hO.o0.of hM (uh H1).1.size, hO.o1.of hM (uh H1).1.size, hO.o2.of hM (uh H1).1.size, hO.o3.of hM (uh H1).1.size, hO.o4.mode (uh H1).1.size hmd, ((uh H1).1.mono (fun _ _ _ h => h.elim)).trans hO.s (fun _ _ _ h => h)⟩
 clear hO hmd
 go_wp2_with fail
 go_end0
 exact ⟨rfl, F2, y0, y1, y2, y3, y4, uh H2⟩
theorem CS.pM_sm (c : CS) (k : Nat) (v : MsM) : c.sm (c.pM k v).1 := by
 unfold CS.pM
 split
 ·exact CS.pRequest_sm _ _
 split
 ·exact CS.pId_sm _ _
 split
 ·exact CS.pAnswer_sm _ _
 split
 ·exact CS.sm_trans (CS.pId_sm _ _) (CS.pU8_sm _ _ _ _)
 split
 ·exact CS.pEvent_sm _ _
 split
 ·exact CS.pU32_sm _ _ _ _
 ·exact CS.sm_refl _
theorem CS.pMessage_sm (c : CS) (v : MsM) : c.sm (c.pMessage v).1 := CS.sm_trans (CS.pU8_sm _ _ _ _) (CS.pM_sm _ _ _)
theorem CS.pM_room (s : Wq) (h : (CS.wr s).room 500) (k : Nat) (v : MsM) : ((CS.wr s).pM k v).1.room 0 := by
 unfold CS.pM
 split
 ·exact CS.pRequest_room (n := 0) (CS.room_le h (by decide)) _
 split
 ·exact CS.pId_room (n := 0) (CS.room_le h (by decide)) _
 split
 ·have R1 : ((CS.wr s).a1 v.an).1.room 498 := CS.pId_room h _
  have R2 : ((CS.wr s).a2 v.an).1.room 497 := CS.pU8_room R1 _ _ _
  have R3 : ((CS.wr s).a3 v.an).1.room 496 := CS.pU32_room R2 _ _ _
  have R4 : ((CS.wr s).a4 v.an).1.room 495 := CS.pU32_room R3 _ _ _
  have R5 : ((CS.wr s).a5 v.an).1.room 366 := CS.pFields_room R4 _ _ _
  have M5 : (CS.wr s).sm ((CS.wr s).a5 v.an).1 := CS.sm_trans (CS.sm_trans (CS.sm_trans (CS.sm_trans (CS.pId_sm _ _) (CS.pU8_sm _ _ _ _)) (CS.pU32_sm _ _ _ _)) (CS.pU32_sm _ _ _ _)) (CS.pFields_sm _ _ _ _)
  have e := sm_wq M5
  show (((CS.wr s).a5 v.an).1.pHist v.an.hi).1.room 0
  rw [e] at R5 ⊢
  exact CS.pHist_room _ (CS.room_le R5 (by decide)) _
 split
 ·exact CS.pU8_room (CS.pId_room (n := 1) (CS.room_le h (by decide)) _) _ _ _
 split
 ·exact CS.pHash_room (CS.pU8_room (CS.pRequest_room (n := 2) (CS.pU32_room (n := 142) (CS.room_le h (by decide)) _ _ _) _) _ _ _) _ _
 split
 ·exact CS.pU32_room (n := 0) (CS.room_le h (by decide)) _ _ _
 ·exact CS.room_le h (by decide)
theorem messageW_eq (v : MsM) : ((cw0.pForm 7).pMessage v).1 = .wr (messageW v) := sm_wq (CS.sm_trans (CS.pForm_sm cw0 7) (CS.pMessage_sm _ _))
theorem messageW_room (v : MsM) : (CS.wr (messageW v)).room 0 := by
 rw [← messageW_eq]
 have R0 : (cw0.pForm 7).room 501 := CS.pForm_room (cw0_room 502 (by decide)) 7
 have R1 : ((cw0.pForm 7).m1 v).1.room 500 := CS.pU8_room R0 _ _ _
 have e := sm_wq (CS.sm_trans (CS.pForm_sm cw0 7) (CS.pU8_sm (cw0.pForm 7) n_kind [wiN 1 7 5, unN v.beside] v.kd))
 show (((cw0.pForm 7).m1 v).1.pM ((cw0.pForm 7).m1 v).2 v).1.room 0
 have e' : ((cw0.pForm 7).m1 v).1 = .wr ((cw0.pForm 7).m1 v).1.wq := e
 rw [e'] at R1 ⊢
 exact CS.pM_room _ R1 _ _
set_option maxRecDepth 100000 in
theorem PutMessage_go (vs : List Value) (hl : vs.length = 35) (w : World) (Q : Ending → World → Prop) (h : Calls Tryz.prog 26 #[.agg vs.toArray] (w.alloc (.cells vs.toArray 42)) fun e w' => (∃ v err, e = .returned (.tuple #[v, err])) ∧ Q e w') : Calls Tryz.prog 10 #[.agg vs.toArray] w fun e w' => (∃ v err, e = .returned (.tuple #[v, err])) ∧ Q e w' := by
 have H := hid h
 have HR : Hid ((w.alloc (.cells vs.toArray 42)).rangeAt w.heap.size 0 vs) := hid (rOB (heap_alloc_new w _))
 have HZ : Hid ((Tryz.prog.info? 42).map (·.size) = some vs.length) := hid (by rw [hl]; exact Tryz.sizeMs7)
 clear h hl
 go_enter Tryz.func10, Tryz.ntmps10
 go_wp2_with (refine wpList_load_mid rfl 42 (.tmp 1) rfl w.heap.size 0 rfl _ _ (uh HR) Tryz.underlying42 rfl (uh HZ) ?_)
 refine (uh H).mono ?_
 rintro e w' ⟨⟨v, err, rfl⟩, hr⟩
 have HR := hid hr
 clear hr
 go_wp2_with fail
 go_ret2
 exact ⟨⟨v, err, rfl⟩, uh HR⟩
structure MsI (w : World) (v : MsM) (x0 x1 x2 x3 x4 : Value) : Prop where
 i0 : FdI w x0 v.rq.fs
 i1 : FdI w x1 v.an.fs
 i2 : SuI w x2 v.an.hi
 i3 : FdI w x3 v.ev.rq.fs
 i4 : SlI w x4 v.ev.dg
theorem MsI.fr0 {w w1 : World} {v : MsM} {x0 x1 x2 x3 x4 : Value} (h : MsI w v x0 x1 x2 x3 x4) (hf : Fr (fun _ => False) w w1) : MsI w1 v x0 x1 x2 x3 x4 := ⟨h.i0.fr0 hf, h.i1.fr0 hf, h.i2.fr0 hf, h.i3.fr0 hf, h.i4.fr0 hf⟩
theorem FdX.form {w : World} {s : Wq} {x : Value} {l : List Fld} {F : Nat → Prop} {g : Nat} (h : FdX w (.wr s) x l F g) : ∃ a n, x = .slice a l.length n := by obtain ⟨xo, xc, e, _⟩ := h.wr s rfl; exact ⟨xo, xc, e⟩
theorem SuX.form {w : World} {s : Wq} {x : Value} {l : List SuM} {F : Nat → Prop} {g : Nat} (h : SuX w (.wr s) x l F g) : ∃ a n, x = .slice a l.length n := by obtain ⟨xo, xc, e, _⟩ := h.wr s rfl; exact ⟨xo, xc, e⟩
set_option maxRecDepth 100000 in
theorem putMessage (v : MsM) (x0 x1 x2 x3 x4 : Value) (E : Nat → Addr) (w : World) (hg : G6 w E) (hw : 9 ≤ w.heap.size) (hx : MsI w v x0 x1 x2 x3 x4) (hv : v.ok) :
  Calls Tryz.prog 10 #[.agg (v.vals x0 x1 x2 x3 x4)] w fun e w' => PutRes w w' e (messageW v) E := by
 have hr := messageW_room v
 obtain ⟨wb, hwb⟩ : ∃ wb, w.alloc (.cells (v.vals x0 x1 x2 x3 x4) 42) = wb := ⟨_, rfl⟩
 have hbx : Fr (fun _ => False) w wb := by rw [← hwb]; exact box1 _ _
 have hx' := hx.fr0 hbx
 have hp := put_Message (v.vals x0 x1 x2 x3 x4) (messageW v) E wb (hg.fr hbx (fun _ h => h.elim)) (by have := hbx.size; omega) (fun w1 cb b F hC hcs hL hF hf => by
  have hF' : ∀ k, F k → wb.heap.size ≤ k := fun k hk => by have := hF k hk; omega
  have X0 := hx'.i0.fdx (s := ⟨ByteArray.empty, [], none⟩) hf hF' wb.heap.size (Nat.le_refl _)
  have X1 := hx'.i1.fdx (s := ⟨ByteArray.empty, [], none⟩) hf hF' wb.heap.size (Nat.le_refl _)
  have X2 := hx'.i2.sux (s := ⟨ByteArray.empty, [], none⟩) hf hF' wb.heap.size (Nat.le_refl _)
  have X3 := hx'.i3.fdx (s := ⟨ByteArray.empty, [], none⟩) hf hF' wb.heap.size (Nat.le_refl _)
  have X4 := hx'.i4.bvg hf hF' wb.heap.size (Nat.le_refl _)
  obtain ⟨a0, n0, e0⟩ := X0.form
  obtain ⟨a1, n1, e1⟩ := X1.form
  obtain ⟨a2, n2, e2⟩ := X2.form
  obtain ⟨a3, n3, e3⟩ := X3.form
  obtain ⟨a4, n4, e4⟩ := X4.bv.src.form
  refine (whole_Message cw0 v a0 a1 a2 a3 a4 n0 n1 n2 n3 n4 x0 x1 x2 x3 x4 cb b wb.heap.size F E w1 hC ⟨hcs 0 _ rfl, ⟨hcs 1 _ rfl, hcs 2 _ rfl, hcs 3 _ rfl, hcs 4 _ rfl, hcs 5 _ rfl, hcs 6 _ rfl, hcs 7 _ rfl, hcs 8 _ rfl, hcs 9 _ rfl, hcs 10 _ rfl⟩, hcs 11 _ rfl, hcs 12 _ rfl, ⟨hcs 13 _ rfl, hcs 14 _ rfl, hcs 15 _ rfl, hcs 16 _ rfl, hcs 17 _ rfl, hcs 18 _ rfl, hcs 19 _ rfl⟩, hcs 20 _ rfl, ⟨hcs 21 _ rfl, ⟨hcs 22 _ rfl, hcs 23 _ rfl, hcs 24 _ rfl, hcs 25 _ rfl, hcs 26 _ rfl, hcs 27 _ rfl, hcs 28 _ rfl, hcs 29 _ rfl, hcs 30 _ rfl, hcs 31 _ rfl⟩, hcs 32 _ rfl, hcs 33 _ rfl⟩, hcs 34 _ rfl⟩ e0 e1 e2 e3 e4 X0 X1 X2 X3 X4 (fun q e => by cases e) hL hv (cw0_room 502 (by decide))).mono ?_
  rintro e w' ⟨rfl, F', _, _, _, _, _, hO⟩
  exact ⟨rfl, F', by rw [← messageW_eq]; exact hO.C, hO.s.mono (fun k j _ h => h.1)⟩) (room_len hr)
 refine (PutMessage_go (v.vals x0 x1 x2 x3 x4).toList rfl w (fun e w' => PutRes w w' e (messageW v) E) ?_).mono (fun e w' h => h.2)
 show Calls Tryz.prog 26 #[.agg (v.vals x0 x1 x2 x3 x4)] (w.alloc (.cells (v.vals x0 x1 x2 x3 x4) 42)) _
 rw [hwb]
 exact hp.mono (fun e w' h => by rw [← hwb] at h; exact PutRes.box h)
set_option linter.unusedSimpArgs false
structure PT where
 nm : ByteArray
 k : Nat
 u : Nat
 b : List Nat
 wy : Nat
def PT.by (p : PT) : List Nat := if p.k = 6 then be 4 p.b.length ++ p.b else if p.k = 5 then be 4 p.u else be p.k p.u
def PT.go (s : Wq) (p : PT) : Wq := ((s.named p.nm).failN p.wy).putB p.by
def runP (s : Wq) (l : List PT) : Wq := l.foldl PT.go s
def Eqf (s t : Wq) : Prop := s.l = t.l ∧ s.f = t.f
theorem Eqf.refl (s : Wq) : Eqf s s := ⟨rfl, rfl⟩
theorem Eqf.symm {s t : Wq} (h : Eqf s t) : Eqf t s := ⟨h.1.symm, h.2.symm⟩
theorem Eqf.trans {s t u : Wq} (h : Eqf s t) (k : Eqf t u) : Eqf s u := ⟨h.1.trans k.1, h.2.trans k.2⟩
theorem runP_app (s : Wq) (a b : List PT) : runP s (a ++ b) = runP (runP s a) b := by unfold runP; rw [List.foldl_append]
theorem runP_cons (s : Wq) (p : PT) (b : List PT) : runP s (p :: b) = runP (p.go s) b := rfl
theorem go_eqf {s t : Wq} (h : Eqf s t) (p : PT) : Eqf (p.go s) (p.go t) := by
 obtain ⟨sn, sl, sf⟩ := s
 obtain ⟨tn, tl, tf⟩ := t
 obtain ⟨h1, h2⟩ := h
 simp only at h1 h2
 subst h1 h2
 exact Eqf.refl _
theorem run_eqf : ∀ (L : List PT) {s t : Wq}, Eqf s t → Eqf (runP s L) (runP t L)
 | [], _, _, h => h
 | p :: r, _, _, h => run_eqf r (go_eqf h p)
theorem go_stuck {s : Wq} (h : s.f ≠ none) (p : PT) : Eqf (p.go s) s := by
 obtain ⟨sn, sl, sf⟩ := s
 simp only at h
 unfold PT.go Wq.putB Wq.failN Wq.named
 simp [h, Eqf]
theorem run_stuck : ∀ (L : List PT) {s : Wq}, s.f ≠ none → Eqf (runP s L) s
 | [], s, _ => Eqf.refl s
 | p :: r, s, h => by
  have e := go_stuck h p
  exact (run_stuck r (by rw [e.2]; exact h)).trans e
theorem go_wrong {s : Wq} {p : PT} (h : p.wy ≠ 0) : (p.go s).f ≠ none := by
 unfold PT.go Wq.putB Wq.failN Wq.named
 by_cases hf : s.f = none <;> simp [h, hf]
theorem run_wrong {s : Wq} {p : PT} (h : p.wy ≠ 0) (a b : List PT) : Eqf (runP s (p :: a)) (runP s (p :: b)) := by
 rw [runP_cons, runP_cons]
 exact (run_stuck a (go_wrong h)).trans (run_stuck b (go_wrong h)).symm
def putP (out : List Nat) : List PT → List Nat × Option (ByteArray × Nat × Nat)
 | [] => (out, none)
 | p :: r => if p.wy ≠ 0 then ([], some (p.nm, out.length, p.wy)) else putP (out ++ p.by) r
def fieldP (last : Nat) (f : Fld) : List PT := ⟨n_kind, 1, f.kind, [], fb [wiN 1 last 5, unN f.beside] f.kind⟩ :: (if f.kind = 1 then [⟨n_text, 6, 0, bytesOf f.text, szN 0 64 f.text.size⟩] else if f.kind = 2 then [⟨n_value, 5, f.value, [], if quantB f.value then 0 else 4⟩, ⟨n_unit, 1, f.unit, [], wiN 1 21 4 f.unit⟩] else [])
def namedP (last : Nat) (a : ByteArray) (f : Fld) : List PT := ⟨n_name, 6, 0, bytesOf f.name, fb [fun v => szN 1 64 v.size, abN a] f.name⟩ :: fieldP last f
def fieldsP1 (last : Nat) : ByteArray → List Fld → List PT
 | _, [] => []
 | a, f :: r => namedP last a f ++ fieldsP1 last f.name r
def fieldsP (last : Nat) (rs : List (Int → Nat)) (l : List Fld) : List PT := ⟨n_fields, 4, l.length, [], fb (lrs 32 rs) (l.length : Int)⟩ :: fieldsP1 last ⟨#[]⟩ l
structure PV where
 p : PT
 x : Value
def PV.cs (q : PV) : List Value := [.string q.p.nm, .int .i64 (q.p.k : Nat), .int .u64 (q.p.u : Nat), q.x, .int .i64 (q.p.wy : Nat)]
structure PV.In (w : World) (q : PV) : Prop where
 src : Src w q.x q.p.b
 lt : ∀ g o n c, q.x = .slice (some ⟨g, o, none⟩) (n + 1) c → g < w.heap.size
def PV.far (q : PV) (S : Nat → Prop) : Prop := ∀ g o n c, q.x = .slice (some ⟨g, o, none⟩) (n + 1) c → ¬ S g
theorem Src.frP {w w' : World} {x : Value} {l : List Nat} {S : Nat → Prop} (h : Src w x l) (hf : Fr S w w') (hS : ∀ g o n c, x = .slice (some ⟨g, o, none⟩) (n + 1) c → ¬ S g) : Src w' x l := by
 rcases h with h | ⟨g, o, c, hx, hc⟩ | h
 ·exact .inl h
 ·cases l with
  | nil => exact .inr (.inr ⟨_, c, hx, rfl⟩)
  | cons a r => exact .inr (.inl ⟨g, o, c, hx, fun j v hv => (hf.cell (p := ⟨g, o + j, none⟩) (ltC (hc j v hv)) (hS g o _ c hx)).trans (hc j v hv)⟩)
 ·exact .inr (.inr h)
theorem PV.In.fr {w w' : World} {q : PV} {S : Nat → Prop} (h : q.In w) (hf : Fr S w w') (hS : q.far S) : q.In w' :=
 ⟨h.src.frP hf hS, fun g o n c e => Nat.lt_of_lt_of_le (h.lt g o n c e) hf.size⟩
theorem PV.In.fr0 {w w' : World} {q : PV} (h : q.In w) (hf : Fr (fun _ => False) w w') : q.In w' := h.fr hf (fun _ _ _ _ _ h => h)
theorem PV.In.one {w : World} {q : PV} (h : q.In w) : ∀ u ∈ q.cs, u.oneCell' = true := by
 obtain ⟨xo, xc, e⟩ := h.src.form
 intro u hu
 simp only [PV.cs, e, List.mem_cons, List.not_mem_nil, or_false] at hu
 rcases hu with rfl | rfl | rfl | rfl | rfl <;> rfl
theorem pcs_len (l : List PV) : (l.flatMap PV.cs).length = l.length * 5 := by
 induction l with
 | nil => rfl
 | cons x r ih => rw [List.flatMap_cons, List.length_append, ih, List.length_cons]; simp only [PV.cs, List.length_cons, List.length_nil]; omega
theorem pcs_at : ∀ (l : List PV) (i j : Nat) (x : PV), l[i]? = some x → j < 5 → (l.flatMap PV.cs)[i * 5 + j]? = x.cs[j]?
 | [], i, j, x, h, _ => by simp at h
 | y :: r, 0, j, x, h, hj => by
  simp only [List.getElem?_cons_zero, Option.some.injEq] at h
  subst h
  rw [List.flatMap_cons, Nat.zero_mul, Nat.zero_add, List.getElem?_append_left (by simp only [PV.cs, List.length_cons, List.length_nil]; omega)]
 | y :: r, i + 1, j, x, h, hj => by
  have ih := pcs_at r i j x (by simpa using h) hj
  have hl : y.cs.length = 5 := rfl
  rw [List.flatMap_cons, List.getElem?_append_right (by rw [hl]; omega), hl, ← ih]
  congr 1
  omega
structure PL (w : World) (base : Nat) (v : Value) (L : List PV) : Prop where
 row : w.ownsRow base 110 5 v L.length (L.flatMap PV.cs)
 el : ∀ q ∈ L, q.In w ∧ q.far (fun g => v.ownBlock = some g)
theorem PL.fr0 {w w' : World} {base : Nat} {v : Value} {L : List PV} (h : PL w base v L) (hf : Fr (fun _ => False) w w') : PL w' base v L :=
 ⟨ownsRow_of_block h.row (fun g hg => hf.block g (h.row.lt g hg).2 (fun h => h)), fun q hq => ⟨(h.el q hq).1.fr0 hf, (h.el q hq).2⟩⟩
theorem PL.base {w : World} {base base' : Nat} {v : Value} {L : List PV} (h : PL w base v L) (hb : base' ≤ base) : PL w base' v L := ⟨ownsRow_base h.row hb, h.el⟩
theorem PL.nil (w : World) (base : Nat) : PL w base (.slice none 0 0) [] := ⟨World.ownsRow_nil _ _ _ _, fun q hq => by simp at hq⟩
theorem PL.form {w : World} {base : Nat} {v : Value} {L : List PV} (h : PL w base v L) : ∃ ao cap, v = .slice ao L.length cap := by
 rcases h.row.2 with ⟨e, e2⟩ | ⟨g, cap, cur, e, _⟩
 ·have : L.length = 0 := e2
  exact ⟨none, 0, by rw [e, this]⟩
 ·exact ⟨some ⟨g, 0, none⟩, cap, e⟩
theorem PL.cells {w : World} {base : Nat} {xo : Option Addr} {n xc : Nat} {L : List PV} (h : PL w base (.slice xo n xc) L) : ∀ j u, (L.flatMap PV.cs)[j]? = some u → ∃ g o, xo = some ⟨g, o, none⟩ ∧ w.cell? ⟨g, o + j, none⟩ = some u := fun j u hu => by
 have hj := (List.getElem?_eq_some_iff.1 hu).1
 rw [pcs_len] at hj
 rcases h.row.2 with ⟨e, e2⟩ | ⟨g, cap, cur, e, _⟩
 ·have : L.length = 0 := e2
  omega
 ·have e3 : xo = some ⟨g, 0, none⟩ := by injection e
  subst e3
  obtain rfl : n = L.length := by injection e
  obtain rfl : xc = cap := by injection e
  refine ⟨g, 0, rfl, ?_⟩
  rw [Nat.zero_add, h.row.cellAt j hj]
  exact hu
theorem Tryz.infoPt : (Tryz.prog.info? 110).map (fun i => (i.zero, i.size, i.bytes)) = some (some (.agg #[.string ⟨#[]⟩, .int .i64 0, .int .u64 0, .slice none 0 0, .int .i64 0]), 5, 64) := by kernel_rfl
theorem PL.app {w : World} {base : Nat} {v : Value} {L : List PV} (h : PL w base v L) (hb : base ≤ w.heap.size) (xo : Option Addr) (xc : Nat) (X : List PV) (hxc : ∀ j u, (X.flatMap PV.cs)[j]? = some u → ∃ g o, xo = some ⟨g, o, none⟩ ∧ w.cell? ⟨g, o + j, none⟩ = some u)
  (hX : ∀ q ∈ X, q.In w ∧ q.far (fun g => v.ownBlock = some g)) (hn : L.length + X.length ≤ 16777216) (hz : xo = none → xc = 0) :
  ∃ ao cap w', (Builtin.append_ #[74, 74] 74 #[v, .slice xo X.length xc]).run Tryz.prog w = .ok (.slice ao (L.length + X.length) cap) w' ∧ PL w' base (.slice ao (L.length + X.length) cap) (L ++ X) ∧ Fr (fun g => v.ownBlock = some g) w w' ∧
   ((Value.slice ao (L.length + X.length) cap).ownBlock = v.ownBlock ∨ (Value.slice ao (L.length + X.length) cap).ownBlock = some w.heap.size) := by
 obtain ⟨i0, hi, hz0, hz1, hz2⟩ := info_parts Tryz.infoPt
 have h1 : ∀ u ∈ X.flatMap PV.cs, u.oneCell' = true := fun u hu => by
  obtain ⟨q, hq, hu⟩ := List.mem_flatMap.1 hu
  exact (hX q hq).1.one u hu
 cases xo with
 | none =>
  obtain rfl := hz rfl
  have hX0 : X = [] := by
   cases X with
   | nil => rfl
   | cons q r =>
    obtain ⟨g, o, e, _⟩ := hxc 0 (.string q.p.nm) (by simp [PV.cs])
    cases e
  subst hX0
  have hr := run_append_owned_none (P := Tryz.prog) w base 74 74 110 i0 5 Tryz.underlying74 hi v L.length _ h.row
  obtain ⟨ao, cap, rfl⟩ := h.form
  exact ⟨ao, cap, w, by simpa using hr, by simpa using h, Fr.refl _ _, .inl rfl⟩
 | some a =>
  obtain ⟨v', w', hr, h2, h3, _, h5⟩ := run_append_own_at (P := Tryz.prog) (w := w) base 74 74 110 i0 (.agg #[.string ⟨#[]⟩, .int .i64 0, .int .u64 0, .slice none 0 0, .int .i64 0]) 5 64 Tryz.underlying74 hi hz0 hz1 hz2 rfl (by decide) v L.length _ h.row a X.length xc (X.flatMap PV.cs) (pcs_len X) (fun j u hu => by
   obtain ⟨g, o, e, hc⟩ := hxc j u hu
   have e' : a = ⟨g, o, none⟩ := by injection e
   subst e'
   rw [addr_add]
   exact hc) h1 (by simp only [maxLen]; omega) (by omega) hb
  have hf : Fr (fun g => v.ownBlock = some g) w w' := (Fr.refl _ w).grown h3 (fun g hg => .inl hg)
  have hform : ∃ ao cap, v' = .slice ao (L.length + X.length) cap := by
   rcases h2.2 with ⟨e, e2⟩ | ⟨g, cap, cur, e, _⟩
   ·exact ⟨none, 0, by rw [e, e2]⟩
   ·exact ⟨some ⟨g, 0, none⟩, cap, e⟩
  obtain ⟨ao, cap, rfl⟩ := hform
  refine ⟨ao, cap, w', hr, ⟨by rw [List.flatMap_append, List.length_append]; exact h2, fun q hq => ?_⟩, hf, h5⟩
  have hq' : q.In w ∧ q.far (fun g => v.ownBlock = some g) := by
   rcases List.mem_append.1 hq with hq | hq
   ·exact h.el q hq
   ·exact hX q hq
  refine ⟨hq'.1.fr hf hq'.2, fun g o n c e hg => ?_⟩
  rcases h5 with e5 | e5
  ·rw [e5] at hg
   exact hq'.2 g o n c e hg
  ·rw [e5] at hg
   have := hq'.1.lt g o n c e
   simp only [Option.some.injEq] at hg
   omega
theorem PL.lit (w : World) (base : Nat) (X : List PV) (hb : base ≤ w.heap.size) (hX : ∀ q ∈ X, q.In w) (hn : X.length ≤ 16777216) : PL (w.alloc (.cells (X.flatMap PV.cs).toArray 110)) base (.slice (some ⟨w.heap.size, 0, none⟩) X.length X.length) X :=
 ⟨by
  have := World.ownsRow_lit (base := base) (e := 110) (size := 5) w (X.flatMap PV.cs).toArray X.length hb (by simp only [maxLen]; omega) (by rw [List.size_toArray, pcs_len])
  simpa using this, fun q hq => ⟨(hX q hq).fr0 (box1 w _), fun g o n c e hg => by
  have := (hX q hq).lt g o n c e
  simp only [Value.ownBlock, Option.some.injEq] at hg
  omega⟩⟩
def Bl (B lo : Nat) (L : List PV) : Prop := ∀ q ∈ L, ∀ g o n c, q.x = .slice (some ⟨g, o, none⟩) (n + 1) c → g < B ∨ lo ≤ g
theorem Bl.app {B lo : Nat} {L X : List PV} (h : Bl B lo L) (k : Bl B lo X) : Bl B lo (L ++ X) := fun q hq => by
 rcases List.mem_append.1 hq with hq | hq
 ·exact h q hq
 ·exact k q hq
theorem Bl.mono {B B' lo lo' : Nat} {L : List PV} (h : Bl B lo L) (hB : B ≤ B') (hl : lo' ≤ lo) : Bl B' lo' L := fun q hq g o n c e => by
 have := h q hq g o n c e
 omega
theorem Bl.nilx (B lo : Nat) {L : List PV} (h : ∀ q ∈ L, q.x = .slice none 0 0) : Bl B lo L := fun q hq g o n c e => by rw [h q hq] at e; cases e
theorem PL.lt {w : World} {base : Nat} {v : Value} {L : List PV} (h : PL w base v L) : ∀ g, v.ownBlock = some g → base ≤ g ∧ g < w.heap.size := fun g hg => h.row.lt g hg
theorem Bl.far {w : World} {base B lo : Nat} {v : Value} {L X : List PV} (h : PL w base v L) (k : Bl B lo X) (hB : B ≤ base) (hl : w.heap.size ≤ lo) : ∀ q ∈ X, q.far (fun g => v.ownBlock = some g) := fun q hq g o n c e hg => by
 have h1 := h.lt g hg
 have h2 := k q hq g o n c e
 omega
theorem absorbP {a w w' : World} {S : Nat → Prop} (h : Fr (fun _ => False) a w) (k : Fr S w w') (hS : ∀ i, S i → a.heap.size ≤ i) : Fr (fun _ => False) a w' :=
 h.trans k (fun i hi hs => by have := hS i hs; omega)
theorem PL.add {w : World} {base : Nat} {v : Value} {L : List PV} (h : PL w base v L) (hb : base ≤ w.heap.size) (X : List PV) (hX : ∀ q ∈ X, q.In w) (hfar : ∀ q ∈ X, q.far (fun g => v.ownBlock = some g)) (hn : L.length + X.length ≤ 16777216) :
  ∃ ao cap w', (Builtin.append_ #[74, 74] 74 #[v, .slice (some ⟨w.heap.size, 0, none⟩) X.length X.length]).run Tryz.prog (w.alloc (.cells (X.flatMap PV.cs).toArray 110)) = .ok (.slice ao (L.length + X.length) cap) w' ∧ PL w' base (.slice ao (L.length + X.length) cap) (L ++ X) ∧ Fr (fun g => v.ownBlock = some g) w w' := by
 have hl := PL.lit w base X hb hX (by omega)
 obtain ⟨ao, cap, w', h1, h2, h3, _⟩ := (h.fr0 (box1 w (.cells (X.flatMap PV.cs).toArray 110))).app (by simp; omega) (some ⟨w.heap.size, 0, none⟩) X.length X hl.cells (fun q hq => ⟨(hX q hq).fr0 (box1 w _), hfar q hq⟩) hn (fun e => by cases e)
 exact ⟨ao, cap, w', h1, h2, ((box1 w _).mono (fun _ _ h => h.elim)).trans h3 (fun _ _ h => h)⟩
theorem ret_boxP {P : Program} {fn : Func} {R : Ending → World → Prop} {p : Tmp} {ty : TypeId} {tmps : Array Value} {w0 : World} (h : fn.results = #[.cell p ty]) (cs : List Value) (d : TypeDesc) (hp : tmps.getD p undef = .pointer (some ⟨w0.heap.size, 0, none⟩))
  (hu : P.underlying ty = some d) (hd : d.isRow = true) (hi : (P.info? ty).map (·.size) = some cs.length) (hR : R (.returned (.agg cs.toArray)) (w0.alloc (.cells cs.toArray ty))) : bodyPost P fn R .ret ⟨tmps, []⟩ (w0.alloc (.cells cs.toArray ty)) := by
 refine bodyPost_ret (v := .agg cs.toArray) ?_ rfl hR
 have hp' : tmps[p]?.getD undef = .pointer (some ⟨w0.heap.size, 0, none⟩) := by simpa using hp
 simp [results, h, hp', asAddr, run_loadVar_mid (w0.alloc (.cells cs.toArray ty)) w0.heap.size 0 ty cs d (rOB (heap_alloc_new w0 _)) hu hd hi]
theorem ret_boxB {P : Program} {fn : Func} {R : Ending → World → Prop} {p : Tmp} {ty t : TypeId} {tmps : Array Value} {W : World} {b : Nat} {cs : List Value} (hb : W.heap[b]? = some (.cells cs.toArray t)) (h : fn.results = #[.cell p ty]) (d : TypeDesc) (hp : tmps.getD p undef = .pointer (some ⟨b, 0, none⟩))
  (hu : P.underlying ty = some d) (hd : d.isRow = true) (hi : (P.info? ty).map (·.size) = some cs.length) (hR : R (.returned (.agg cs.toArray)) W) : bodyPost P fn R .ret ⟨tmps, []⟩ W := by
 refine bodyPost_ret (v := .agg cs.toArray) ?_ rfl hR
 have hp' : tmps[p]?.getD undef = .pointer (some ⟨b, 0, none⟩) := by simpa using hp
 simp [results, h, hp', asAddr, run_loadVar_mid W b 0 ty cs d (rOB hb) hu hd hi]
theorem Tryz.sizePt : (Tryz.prog.info? 110).map (·.size) = some 5 := by kernel_rfl
def zPt : List Value := [.string ⟨#[]⟩, .int .i64 0, .int .u64 0, .slice none 0 0, .int .i64 0]
theorem box_st {w w' : World} (news : List Value) (hf : Fr (fun _ => False) (w.alloc (.cells zPt.toArray 110)) w') (hl : news.length = 5) (h1 : ∀ v ∈ news, v.oneCell' = true) :
  ∃ W4, (Instr.storeAt 110 (.pointer (some ⟨w.heap.size, 0, none⟩)) (.agg news.toArray)).run Tryz.prog w' = .ok () W4 ∧ W4.heap[w.heap.size]? = some (.cells news.toArray 110) ∧ Fr (fun _ => False) w W4 ∧ Fr (fun k => k = w.heap.size) w' W4 := by
 have hb : w'.heap[w.heap.size]? = some (.cells zPt.toArray 110) := (hf.block _ (by simp) (fun h => h)).trans (heap_alloc_new w _)
 obtain ⟨W4, h2, h3, h4⟩ := st_all (P := Tryz.prog) (ty := 110) zPt news hb (by rw [hl]; rfl) (by rw [hl]; exact Tryz.sizePt) h1
 exact ⟨W4, h2, h3, ((box1 w _).trans hf (fun _ _ h => h)).trans h4 (fun g hg e => by omega), h4⟩
set_option maxRecDepth 100000 in
theorem gwhy_any (nm : ByteArray) (k u wy r : Int) (xo : Option Addr) (n xc : Nat) (so : Bool) (w : World) :
  Calls Tryz.prog 89 #[.agg #[.string nm, .int .i64 k, .int .u64 u, .slice xo n xc, .int .i64 wy], .bool so, .int .i64 r] w fun e w' => e = .returned (.agg #[.string nm, .int .i64 k, .int .u64 u, .slice xo n xc, .int .i64 (if so then r else wy)]) ∧ Fr (fun _ => False) w w' := by
 cases so
 ·go_enter Tryz.func89, Tryz.ntmps89
  go_wp2_with fail
  exact ret_boxP rfl [.string nm, .int .i64 k, .int .u64 u, .slice xo n xc, .int .i64 wy] _ (by simp) Tryz.underlying110 rfl Tryz.sizePt ⟨rfl, (box1 w _).alloc _⟩
 ·go_enter Tryz.func89, Tryz.ntmps89
  go_wp2_with fail
  exact ret_boxP rfl [.string nm, .int .i64 k, .int .u64 u, .slice xo n xc, .int .i64 r] _ (by simp) Tryz.underlying110 rfl Tryz.sizePt ⟨rfl, (box1 w _).alloc _⟩
set_option maxRecDepth 100000 in
theorem gu32_any (nm : ByteArray) (v : Nat) (hv : v < 4294967296) (w : World) :
  Calls Tryz.prog 91 #[.string nm, .int .u32 (v : Nat)] w fun e w' => e = .returned (.agg #[.string nm, .int .i64 4, .int .u64 (v : Nat), .slice none 0 0, .int .i64 0]) ∧ Fr (fun _ => False) w w' := by
 have hc : IntKind.u64.wrap ((v : Nat) : Int) = v := by
  have e : ((v : Nat) : Int) % 18446744073709551616 = v := by omega
  simp [IntKind.wrap, IntKind.bits, IntKind.signed, e]
 go_enter Tryz.func91, Tryz.ntmps91
 go_wp2_with fail
 exact ret_boxP rfl [.string nm, .int .i64 4, .int .u64 (v : Nat), .slice none 0 0, .int .i64 0] _ (by simp) Tryz.underlying110 rfl Tryz.sizePt ⟨rfl, box1 w _⟩
set_option maxRecDepth 100000 in
theorem gbytes_any (nm : ByteArray) (xo : Option Addr) (n xc : Nat) (lo hi : Int) (w : World) :
  Calls Tryz.prog 96 #[.string nm, .slice xo n xc, .int .i64 lo, .int .i64 hi] w fun e w' => e = .returned (.agg #[.string nm, .int .i64 6, .int .u64 0, .slice xo n xc, .int .i64 (szN lo hi n : Nat)]) ∧ Fr (fun _ => False) w w' := by
 by_cases h1 : (n : Int) < lo <;> by_cases h2 : hi < (n : Int)
 ·have ez : ((szN lo hi n : Nat) : Int) = 2 := by unfold szN; rw [if_pos h2]; rfl
  rw [ez]
  go_enter Tryz.func96, Tryz.ntmps96
  go_wp2_with fail
  exact ret_boxB (b := w.heap.size) (cs := [.string nm, .int .i64 6, .int .u64 0, .slice xo n xc, .int .i64 2]) ((Below.heap_alloc _ _ _ (by simp)).trans (heap_alloc_new w _)) rfl _ (by simp) Tryz.underlying110 rfl Tryz.sizePt ⟨rfl, (box1 w _).alloc _⟩
 ·have ez : ((szN lo hi n : Nat) : Int) = 4 := by unfold szN; rw [if_neg h2, if_pos h1]; rfl
  rw [ez]
  go_enter Tryz.func96, Tryz.ntmps96
  go_wp2_with fail
  exact ret_boxB (b := w.heap.size) (cs := [.string nm, .int .i64 6, .int .u64 0, .slice xo n xc, .int .i64 4]) ((Below.heap_alloc _ _ _ (by simp)).trans (heap_alloc_new w _)) rfl _ (by simp) Tryz.underlying110 rfl Tryz.sizePt ⟨rfl, (box1 w _).alloc _⟩
 ·have ez : ((szN lo hi n : Nat) : Int) = 2 := by unfold szN; rw [if_pos h2]; rfl
  rw [ez]
  go_enter Tryz.func96, Tryz.ntmps96
  go_wp2_with fail
  exact ret_boxB (b := w.heap.size) (cs := [.string nm, .int .i64 6, .int .u64 0, .slice xo n xc, .int .i64 2]) ((Below.heap_alloc _ _ _ (by simp)).trans (heap_alloc_new w _)) rfl _ (by simp) Tryz.underlying110 rfl Tryz.sizePt ⟨rfl, (box1 w _).alloc _⟩
 ·have ez : ((szN lo hi n : Nat) : Int) = 0 := by unfold szN; rw [if_neg h2, if_neg h1]; rfl
  rw [ez]
  go_enter Tryz.func96, Tryz.ntmps96
  go_wp2_with fail
  exact ret_boxB (b := w.heap.size) (cs := [.string nm, .int .i64 6, .int .u64 0, .slice xo n xc, .int .i64 0]) ((Below.heap_alloc _ _ _ (by simp)).trans (heap_alloc_new w _)) rfl _ (by simp) Tryz.underlying110 rfl Tryz.sizePt ⟨rfl, (box1 w _).alloc _⟩
set_option maxRecDepth 100000 in
theorem gcount_any (nm : ByteArray) (n : Nat) (most : Int) (hn : n < 9223372036854775808) (w : World) :
  Calls Tryz.prog 95 #[.string nm, .int .i64 (n : Nat), .int .i64 most] w fun e w' => e = .returned (.agg #[.string nm, .int .i64 4, .int .u64 (n : Nat), .slice none 0 0, .int .i64 (if most < (n : Int) then 2 else 0)]) ∧ Fr (fun _ => False) w w' := by
 have hc : IntKind.u64.wrap ((n : Nat) : Int) = n := by
  have e : ((n : Nat) : Int) % 18446744073709551616 = n := by omega
  simp [IntKind.wrap, IntKind.bits, IntKind.signed, e]
 by_cases h1 : most < (n : Int)
 ·rw [if_pos h1]
  go_enter Tryz.func95, Tryz.ntmps95
  go_wp2_with fail
  refine (gwhy_any nm 4 (n : Nat) 0 2 none 0 0 true _).mono ?_
  rintro e w' ⟨rfl, hf⟩
  obtain ⟨W4, hst, hb4, hf4, _⟩ := box_st [.string nm, .int .i64 4, .int .u64 (n : Nat), .slice none 0 0, .int .i64 2] hf rfl (by simp [Value.oneCell'])
  have HST := hid hst
  clear hst hf
  go_wp2_with (refine wpList_stN rfl 110 (.tmp 6) (.tmp 14) rfl _ _ rfl rfl (uh HST) ?_)
  exact ret_boxB hb4 rfl _ (by simp) Tryz.underlying110 rfl Tryz.sizePt ⟨rfl, hf4⟩
 ·rw [if_neg h1]
  go_enter Tryz.func95, Tryz.ntmps95
  go_wp2_with fail
  refine (gwhy_any nm 4 (n : Nat) 0 2 none 0 0 false _).mono ?_
  rintro e w' ⟨rfl, hf⟩
  obtain ⟨W4, hst, hb4, hf4, _⟩ := box_st [.string nm, .int .i64 4, .int .u64 (n : Nat), .slice none 0 0, .int .i64 0] hf rfl (by simp [Value.oneCell'])
  have HST := hid hst
  clear hst hf
  go_wp2_with (refine wpList_stN rfl 110 (.tmp 6) (.tmp 14) rfl _ _ rfl rfl (uh HST) ?_)
  exact ret_boxB hb4 rfl _ (by simp) Tryz.underlying110 rfl Tryz.sizePt ⟨rfl, hf4⟩
set_option maxRecDepth 100000 in
theorem gcode_any (v : Nat) (hv : v < 256) (w : World) :
  Calls Tryz.prog 94 #[.int .u8 (v : Nat)] w fun e w' => e = .returned (.agg #[.string n_code, .int .i64 1, .int .u64 (v : Nat), .slice none 0 0, .int .i64 (wiN 0 10 5 v : Nat)]) ∧ Fr (fun _ => False) w w' := by
 have hc : IntKind.u64.wrap ((v : Nat) : Int) = v := by
  have e : ((v : Nat) : Int) % 18446744073709551616 = v := by omega
  simp [IntKind.wrap, IntKind.bits, IntKind.signed, e]
 by_cases h1 : (10 : Int) < (v : Int)
 ·have ez : ((wiN 0 10 5 v : Nat) : Int) = 5 := by unfold wiN; split <;> omega
  rw [ez]
  go_enter Tryz.func94, Tryz.ntmps94
  go_wp2_with fail
  refine (gwhy_any n_code 1 (v : Nat) 0 5 none 0 0 true _).mono ?_
  rintro e w' ⟨rfl, hf⟩
  obtain ⟨W4, hst, hb4, hf4, _⟩ := box_st [.string n_code, .int .i64 1, .int .u64 (v : Nat), .slice none 0 0, .int .i64 5] hf rfl (by simp [Value.oneCell'])
  have HST := hid hst
  clear hst hf
  go_wp2_with (refine wpList_stN rfl 110 (.tmp 2) (.tmp 8) rfl _ _ rfl rfl (uh HST) ?_)
  exact ret_boxB hb4 rfl _ (by simp) Tryz.underlying110 rfl Tryz.sizePt ⟨rfl, hf4⟩
 ·have ez : ((wiN 0 10 5 v : Nat) : Int) = 0 := by unfold wiN; split <;> omega
  rw [ez]
  go_enter Tryz.func94, Tryz.ntmps94
  go_wp2_with fail
  refine (gwhy_any n_code 1 (v : Nat) 0 5 none 0 0 false _).mono ?_
  rintro e w' ⟨rfl, hf⟩
  obtain ⟨W4, hst, hb4, hf4, _⟩ := box_st [.string n_code, .int .i64 1, .int .u64 (v : Nat), .slice none 0 0, .int .i64 0] hf rfl (by simp [Value.oneCell'])
  have HST := hid hst
  clear hst hf
  go_wp2_with (refine wpList_stN rfl 110 (.tmp 2) (.tmp 8) rfl _ _ rfl rfl (uh HST) ?_)
  exact ret_boxB hb4 rfl _ (by simp) Tryz.underlying110 rfl Tryz.sizePt ⟨rfl, hf4⟩
set_option maxRecDepth 100000 in
theorem gonly_any (nm : ByteArray) (v : Nat) (used : Bool) (hv : v < 4294967296) (w : World) :
  Calls Tryz.prog 90 #[.string nm, .int .u32 (v : Nat), .bool used] w fun e w' => e = .returned (.agg #[.string nm, .int .i64 4, .int .u64 (v : Nat), .slice none 0 0, .int .i64 (if used = false ∧ v ≠ 0 then 4 else 0)]) ∧ Fr (fun _ => False) w w' := by
 rcases (by cases used <;> simp; omega : used = true ∨ (used = false ∧ v = 0) ∨ (used = false ∧ v ≠ 0)) with rfl | ⟨rfl, rfl⟩ | ⟨rfl, h0⟩
 ·rw [if_neg (by simp)]
  go_enter Tryz.func90, Tryz.ntmps90
  go_wp2_with fail
  refine (gu32_any nm v hv _).mono ?_
  rintro e w1 ⟨rfl, hf1⟩
  have HF1 := hid hf1
  clear hf1
  go_wp2_with fail
  refine (gwhy_any nm 4 (v : Nat) 0 4 none 0 0 false _).mono ?_
  rintro e w' ⟨rfl, hf2⟩
  have hf := (uh HF1).trans hf2 (fun _ _ h => h)
  clear hf2 HF1
  obtain ⟨W4, hst, hb4, hf4, _⟩ := box_st [.string nm, .int .i64 4, .int .u64 (v : Nat), .slice none 0 0, .int .i64 0] hf rfl (by simp [Value.oneCell'])
  have HST := hid hst
  clear hst hf
  go_wp2_with (refine wpList_stN rfl 110 (.tmp 6) (.tmp 16) rfl _ _ rfl rfl (uh HST) ?_)
  exact ret_boxB hb4 rfl _ (by simp) Tryz.underlying110 rfl Tryz.sizePt ⟨rfl, hf4⟩
 ·rw [if_neg (by simp)]
  go_enter Tryz.func90, Tryz.ntmps90
  go_wp2_with fail
  refine (gu32_any nm 0 hv _).mono ?_
  rintro e w1 ⟨rfl, hf1⟩
  have HF1 := hid hf1
  clear hf1
  go_wp2_with fail
  refine (gwhy_any nm 4 0 0 4 none 0 0 false _).mono ?_
  rintro e w' ⟨rfl, hf2⟩
  have hf := (uh HF1).trans hf2 (fun _ _ h => h)
  clear hf2 HF1
  obtain ⟨W4, hst, hb4, hf4, _⟩ := box_st [.string nm, .int .i64 4, .int .u64 0, .slice none 0 0, .int .i64 0] hf rfl (by simp [Value.oneCell'])
  have HST := hid hst
  clear hst hf
  go_wp2_with (refine wpList_stN rfl 110 (.tmp 6) (.tmp 16) rfl _ _ rfl rfl (uh HST) ?_)
  exact ret_boxB hb4 rfl _ (by simp) Tryz.underlying110 rfl Tryz.sizePt ⟨rfl, hf4⟩
 ·rw [if_pos ⟨rfl, h0⟩]
  have h1 : ((v : Int) != 0) = true := by simp; omega
  go_enter Tryz.func90, Tryz.ntmps90
  go_wp2_with fail
  refine (gu32_any nm v hv _).mono ?_
  rintro e w1 ⟨rfl, hf1⟩
  have HF1 := hid hf1
  clear hf1
  go_wp2_with fail
  refine (gwhy_any nm 4 (v : Nat) 0 4 none 0 0 true _).mono ?_
  rintro e w' ⟨rfl, hf2⟩
  have hf := (uh HF1).trans hf2 (fun _ _ h => h)
  clear hf2 HF1
  obtain ⟨W4, hst, hb4, hf4, _⟩ := box_st [.string nm, .int .i64 4, .int .u64 (v : Nat), .slice none 0 0, .int .i64 4] hf rfl (by simp [Value.oneCell'])
  have HST := hid hst
  clear hst hf
  go_wp2_with (refine wpList_stN rfl 110 (.tmp 6) (.tmp 16) rfl _ _ rfl rfl (uh HST) ?_)
  exact ret_boxB hb4 rfl _ (by simp) Tryz.underlying110 rfl Tryz.sizePt ⟨rfl, hf4⟩
theorem nil_in (w : World) (p : PT) (hp : p.b = []) : (⟨p, .slice none 0 0⟩ : PV).In w := ⟨.inl ⟨rfl, hp⟩, fun _ _ _ _ e => by cases e⟩
def idV (cl nu : Nat) : List PV := [⟨⟨n_client, 4, cl, [], 0⟩, .slice none 0 0⟩, ⟨⟨n_number, 4, nu, [], 0⟩, .slice none 0 0⟩]
set_option maxRecDepth 100000 in
set_option maxHeartbeats 2000000 in
theorem gids_any (cl nu : Nat) (h1 : cl < 4294967296) (h2 : nu < 4294967296) (w : World) :
  Calls Tryz.prog 87 #[.agg #[.int .u32 (cl : Nat), .int .u32 (nu : Nat)]] w fun e w' => ∃ v, e = .returned v ∧ PL w' w.heap.size v (idV cl nu) ∧ Fr (fun _ => False) w w' := by
 go_enter Tryz.func87, Tryz.ntmps87
 obtain ⟨W1, hW1⟩ : ∃ W1, w.alloc (.cells #[.int .u32 (cl : Nat), .int .u32 (nu : Nat)] 27) = W1 := ⟨_, rfl⟩
 have hf1 : Fr (fun _ => False) w W1 := by rw [← hW1]; exact box1 w _
 have hb1 : W1.heap[w.heap.size]? = some (.cells #[.int .u32 (cl : Nat), .int .u32 (nu : Nat)] 27) := by rw [← hW1]; exact heap_alloc_new w _
 have HS : Hid (∀ W', Fr (fun _ => False) W1 W' → W'.cell? ⟨w.heap.size, 0, none⟩ = some (.int .u32 (cl : Nat)) ∧ W'.cell? ⟨w.heap.size, 1, none⟩ = some (.int .u32 (nu : Nat))) := hid (fun W' hf => by
  have hb := (hf.block _ (lt_of_block hb1) (fun h => h)).trans hb1
  exact ⟨cOB hb rfl, cOB hb rfl⟩)
 have HF1 := hid hf1
 clear hf1 hb1
 go_wp2_with fail
 refine wp_region_held_drew (S := (fun W : World => W.cell? ⟨w.heap.size, 0, none⟩ = some (.int .u32 (cl : Nat)) ∧ W.cell? ⟨w.heap.size, 1, none⟩ = some (.int .u32 (nu : Nat)))) (by kernel_rfl) ((uh HS) _ (Fr.refl _ _).drew) (fun hHeld => ?_)
 refine wtk2 (i := 0) rfl hHeld ?_
 (try simp only [Act.put, nrm])
 refine wtk2 (i := 1) rfl hHeld ?_
 (try simp only [Act.put, nrm])
 refine wtk2 (i := 3) rfl hHeld ?_
 (try simp only [Act.put, nrm])
 refine wtk2 (i := 4) rfl hHeld ?_
 (try simp only [Act.put, nrm])
 refine wpAnyH_ready (rs := [2]) (by kernel_rfl) (by simp) (AllReadyH.cons rfl (fun K hK => ?_) AllReadyH.nil)
 go_simp
 refine (gu32_any n_client cl h1 _).mono ?_
 rintro e w2 ⟨rfl, hf2⟩
 have hf12 : Fr (fun _ => False) W1 w2 := (Fr.refl _ _).drew.trans hf2 (fun _ _ h => h)
 clear hf2
 try dsimp only
 refine hK.out _ _ ((uh HS) _ hf12) (fun hHeld => ?_)
 clear hK K
 (try simp only [Act.put, nrm])
 refine wpAnyH_ready (rs := [5]) (by kernel_rfl) (by simp) (AllReadyH.cons rfl (fun K hK => ?_) AllReadyH.nil)
 go_simp
 refine (gu32_any n_number nu h2 _).mono ?_
 rintro e w3 ⟨rfl, hf3⟩
 have hf13 : Fr (fun _ => False) W1 w3 := hf12.trans hf3 (fun _ _ h => h)
 clear hf3 hf12
 try dsimp only
 refine hK.out _ _ ((uh HS) _ hf13) (fun hHeld => ?_)
 clear hK K
 (try simp only [Act.put, nrm])
 refine wpAnyH_ready (rs := [6]) (by kernel_rfl) (by simp) (AllReadyH.cons rfl (fun K hK => ?_) AllReadyH.nil)
 go_simp
 refine hK.out _ _ ((uh HS) _ (hf13.alloc _)) (fun hHeld => ?_)
 clear hK K
 (try simp only [Act.put, nrm])
 refine wtk2 (i := 7) rfl hHeld ?_
 (try simp only [Act.put, nrm])
 refine wpAnyH_done (by kernel_rfl) ?_ _
 clear hHeld HS
 have hsz : w.heap.size ≤ w3.heap.size := Nat.le_trans (uh HF1).size hf13.size
 have hP := PL.lit w3 w.heap.size (idV cl nu) hsz (fun q hq => by
  simp only [idV, List.mem_cons, List.not_mem_nil, or_false] at hq
  rcases hq with rfl | rfl <;> exact nil_in _ _ rfl) (by simp [idV])
 have HP := hid hP
 have HF := hid (((uh HF1).trans hf13 (fun _ _ h => h)).alloc (.cells ((idV cl nu).flatMap PV.cs).toArray 110))
 clear hP hf13 HF1 hsz
 go_wp2_with fail
 go_ret
 exact ⟨_, rfl, uh HP, uh HF⟩
def headV (z : Nat) (r : List Nat) (x : Value) : List PV := [⟨⟨n_size, 4, z, [], 0⟩, .slice none 0 0⟩, ⟨⟨n_root, 6, 0, r, szN 1 32 r.length⟩, x⟩]
set_option maxRecDepth 100000 in
set_option maxHeartbeats 2000000 in
theorem ghead_any (z : Nat) (r : List Nat) (xo : Option Addr) (xc : Nat) (hz : z < 4294967296) (w : World) (hx : SlI w (.slice xo r.length xc) r) :
  Calls Tryz.prog 53 #[.agg #[.int .u32 (z : Nat), .slice xo r.length xc]] w fun e w' => ∃ v, e = .returned v ∧ PL w' w.heap.size v (headV z r (.slice xo r.length xc)) ∧ Fr (fun _ => False) w w' := by
 go_enter Tryz.func53, Tryz.ntmps53
 obtain ⟨W1, hW1⟩ : ∃ W1, w.alloc (.cells #[.int .u32 (z : Nat), .slice xo r.length xc] 25) = W1 := ⟨_, rfl⟩
 have hf1 : Fr (fun _ => False) w W1 := by rw [← hW1]; exact box1 w _
 have hb1 : W1.heap[w.heap.size]? = some (.cells #[.int .u32 (z : Nat), .slice xo r.length xc] 25) := by rw [← hW1]; exact heap_alloc_new w _
 have HS : Hid (∀ W', Fr (fun _ => False) W1 W' → W'.cell? ⟨w.heap.size, 0, none⟩ = some (.int .u32 (z : Nat)) ∧ W'.cell? ⟨w.heap.size, 1, none⟩ = some (.slice xo r.length xc)) := hid (fun W' hf => by
  have hb := (hf.block _ (lt_of_block hb1) (fun h => h)).trans hb1
  exact ⟨cOB hb rfl, cOB hb rfl⟩)
 have HF1 := hid hf1
 have HX := hid hx
 clear hf1 hb1 hx
 go_wp2_with fail
 refine wp_region_held_drew (S := (fun W : World => W.cell? ⟨w.heap.size, 0, none⟩ = some (.int .u32 (z : Nat)) ∧ W.cell? ⟨w.heap.size, 1, none⟩ = some (.slice xo r.length xc))) (by kernel_rfl) ((uh HS) _ (Fr.refl _ _).drew) (fun hHeld => ?_)
 refine wtk2 (i := 0) rfl hHeld ?_
 (try simp only [Act.put, nrm])
 refine wtk2 (i := 1) rfl hHeld ?_
 (try simp only [Act.put, nrm])
 refine wtk2 (i := 3) rfl hHeld ?_
 (try simp only [Act.put, nrm])
 refine wtk2 (i := 4) rfl hHeld ?_
 (try simp only [Act.put, nrm])
 refine wpAnyH_ready (rs := [2]) (by kernel_rfl) (by simp) (AllReadyH.cons rfl (fun K hK => ?_) AllReadyH.nil)
 go_simp
 refine (gu32_any n_size z hz _).mono ?_
 rintro e w2 ⟨rfl, hf2⟩
 have hf12 : Fr (fun _ => False) W1 w2 := (Fr.refl _ _).drew.trans hf2 (fun _ _ h => h)
 try dsimp only
 refine hK.out _ _ ((uh HS) _ hf12) (fun hHeld => ?_)
 clear hK K
 (try simp only [Act.put, nrm])
 refine wpAnyH_ready (rs := [5]) (by kernel_rfl) (by simp) (AllReadyH.cons rfl (fun K hK => ?_) AllReadyH.nil)
 go_simp
 refine (gbytes_any n_root xo r.length xc 1 32 _).mono ?_
 rintro e w3 ⟨rfl, hf3⟩
 have hf13 : Fr (fun _ => False) W1 w3 := hf12.trans hf3 (fun _ _ h => h)
 try dsimp only
 refine hK.out _ _ ((uh HS) _ hf13) (fun hHeld => ?_)
 clear hK K
 (try simp only [Act.put, nrm])
 refine wpAnyH_ready (rs := [6]) (by kernel_rfl) (by simp) (AllReadyH.cons rfl (fun K hK => ?_) AllReadyH.nil)
 go_simp
 refine hK.out _ _ ((uh HS) _ (hf13.alloc _)) (fun hHeld => ?_)
 clear hK K
 (try simp only [Act.put, nrm])
 refine wtk2 (i := 7) rfl hHeld ?_
 (try simp only [Act.put, nrm])
 refine wpAnyH_done (by kernel_rfl) ?_ _
 clear hHeld
 have hsz : w.heap.size ≤ w3.heap.size := Nat.le_trans (uh HF1).size hf13.size
 have hx3 := (uh HX).fr0 ((uh HF1).trans hf13 (fun _ _ h => h))
 have hP := PL.lit w3 w.heap.size (headV z r (.slice xo r.length xc)) hsz (fun q hq => by
  simp only [headV, List.mem_cons, List.not_mem_nil, or_false] at hq
  rcases hq with rfl | rfl
  ·exact nil_in _ _ rfl
  ·exact ⟨hx3.src, fun g o n c e => hx3.lt g o _ c e⟩) (by simp [headV])
 have HP := hid hP
 have HF := hid (((uh HF1).trans hf13 (fun _ _ h => h)).alloc (.cells ((headV z r (.slice xo r.length xc)).flatMap PV.cs).toArray 110))
 clear hP hf13 hf12 hf2 hf3 HF1 HS hsz hx3 HX
 go_wp2_with fail
 go_ret
 exact ⟨_, rfl, uh HP, uh HF⟩
def keyV (k : Nat) (s : List Nat) (y : Value) : List PV := [⟨⟨n_key, 4, k, [], 0⟩, .slice none 0 0⟩, ⟨⟨n_signature, 6, 0, s, szN 0 32768 s.length⟩, y⟩]
theorem Tryz.sizeHd : (Tryz.prog.info? 25).map (·.size) = some 2 := by kernel_rfl
set_option maxRecDepth 100000 in
set_option maxHeartbeats 2000000 in
theorem gsigned_any (z k : Nat) (r s : List Nat) (xo yo : Option Addr) (xc yc : Nat) (hz : z < 4294967296) (hk : k < 4294967296) (w : World) (hx : SlI w (.slice xo r.length xc) r) (hy : SlI w (.slice yo s.length yc) s) :
  Calls Tryz.prog 54 #[.agg #[.int .u32 (z : Nat), .slice xo r.length xc, .int .u32 (k : Nat), .slice yo s.length yc]] w fun e w' => ∃ v, e = .returned v ∧ PL w' w.heap.size v (headV z r (.slice xo r.length xc) ++ keyV k s (.slice yo s.length yc)) ∧ Fr (fun _ => False) w w' := by
 go_enter Tryz.func54, Tryz.ntmps54
 obtain ⟨W1, hW1⟩ : ∃ W1, w.alloc (.cells #[.int .u32 (z : Nat), .slice xo r.length xc, .int .u32 (k : Nat), .slice yo s.length yc] 37) = W1 := ⟨_, rfl⟩
 have hf1 : Fr (fun _ => False) w W1 := by rw [← hW1]; exact box1 w _
 have hb1 : W1.heap[w.heap.size]? = some (.cells #[.int .u32 (z : Nat), .slice xo r.length xc, .int .u32 (k : Nat), .slice yo s.length yc] 37) := by rw [← hW1]; exact heap_alloc_new w _
 have HS : Hid (∀ W', Fr (fun _ => False) W1 W' → W'.cell? ⟨w.heap.size, 2, none⟩ = some (.int .u32 (k : Nat)) ∧ W'.cell? ⟨w.heap.size, 3, none⟩ = some (.slice yo s.length yc) ∧ W'.rangeAt w.heap.size 0 [.int .u32 (z : Nat), .slice xo r.length xc]) := hid (fun W' hf => by
  have hb := (hf.block _ (lt_of_block hb1) (fun h => h)).trans hb1
  refine ⟨cOB hb rfl, cOB hb rfl, fun j v hv => ?_⟩
  match j, hv with
  | 0, hv => exact cOB hb (by simpa using hv)
  | 1, hv => exact cOB hb (by simpa using hv))
 have HF1 := hid hf1
 have HX := hid (And.intro hx hy)
 clear hf1 hb1 hx hy
 go_wp2_with fail
 refine wp_region_held_drew (S := (fun W : World => W.cell? ⟨w.heap.size, 2, none⟩ = some (.int .u32 (k : Nat)) ∧ W.cell? ⟨w.heap.size, 3, none⟩ = some (.slice yo s.length yc) ∧ W.rangeAt w.heap.size 0 [.int .u32 (z : Nat), .slice xo r.length xc])) (by kernel_rfl) ((uh HS) _ (Fr.refl _ _).drew) (fun hHeld => ?_)
 refine wtk2 (i := 0) rfl hHeld ?_
 (try simp only [Act.put, nrm])
 refine wtk (i := 1) rfl (yieldsIf_load_mid rfl 25 (.tmp 3) rfl w.heap.size 0 rfl _ _ (fun w h => h.2.2) Tryz.underlying25 rfl Tryz.sizeHd) hHeld ?_
 (try simp only [Act.put, nrm])
 refine wtk2 (i := 3) rfl hHeld ?_
 (try simp only [Act.put, nrm])
 refine wtk2 (i := 4) rfl hHeld ?_
 (try simp only [Act.put, nrm])
 refine wtk2 (i := 6) rfl hHeld ?_
 (try simp only [Act.put, nrm])
 refine wtk2 (i := 7) rfl hHeld ?_
 (try simp only [Act.put, nrm])
 have hxW : SlI W1.drew (.slice xo r.length xc) r := ((uh HX).1.fr0 (uh HF1)).fr0 (Fr.refl _ _).drew
 refine wpAnyH_ready (rs := [2]) (by kernel_rfl) (by simp) (AllReadyH.cons rfl (fun K hK => ?_) AllReadyH.nil)
 go_simp
 refine (ghead_any z r xo xc hz _ hxW).mono ?_
 rintro e w2 ⟨v, rfl, hP, hf2⟩
 have hf12 : Fr (fun _ => False) W1 w2 := (Fr.refl _ _).drew.trans hf2 (fun _ _ h => h)
 try dsimp only
 refine hK.out _ _ ((uh HS) _ hf12) (fun hHeld => ?_)
 clear hK K
 (try simp only [Act.put, nrm])
 refine wpAnyH_ready (rs := [5]) (by kernel_rfl) (by simp) (AllReadyH.cons rfl (fun K hK => ?_) AllReadyH.nil)
 go_simp
 refine (gu32_any n_key k hk _).mono ?_
 rintro e w3 ⟨rfl, hf3⟩
 have hf13 : Fr (fun _ => False) W1 w3 := hf12.trans hf3 (fun _ _ h => h)
 try dsimp only
 refine hK.out _ _ ((uh HS) _ hf13) (fun hHeld => ?_)
 clear hK K
 (try simp only [Act.put, nrm])
 refine wpAnyH_ready (rs := [8]) (by kernel_rfl) (by simp) (AllReadyH.cons rfl (fun K hK => ?_) AllReadyH.nil)
 go_simp
 refine (gbytes_any n_signature yo s.length yc 0 32768 _).mono ?_
 rintro e w4 ⟨rfl, hf4⟩
 have hf14 : Fr (fun _ => False) W1 w4 := hf13.trans hf4 (fun _ _ h => h)
 try dsimp only
 refine hK.out _ _ ((uh HS) _ hf14) (fun hHeld => ?_)
 clear hK K
 (try simp only [Act.put, nrm])
 have hy4 := (uh HX).2.fr0 ((uh HF1).trans hf14 (fun _ _ h => h))
 have hP4 := (hP.fr0 hf3).fr0 hf4
 have hb4 : W1.heap.size ≤ w4.heap.size := hf14.size
 have hW : w.heap.size ≤ W1.heap.size := (uh HF1).size
 have hKin : ∀ q ∈ keyV k s (.slice yo s.length yc), q.In w4 := fun q hq => by
  simp only [keyV, List.mem_cons, List.not_mem_nil, or_false] at hq
  rcases hq with rfl | rfl
  ·exact nil_in _ _ rfl
  ·exact ⟨hy4.src, fun g o n c e => hy4.lt g o _ c e⟩
 have hKb : Bl w.heap.size w4.heap.size (keyV k s (.slice yo s.length yc)) := fun q hq g o n c e => by
  simp only [keyV, List.mem_cons, List.not_mem_nil, or_false] at hq
  rcases hq with rfl | rfl
  ·cases e
  ·exact .inl ((uh HX).2.lt g o _ c e)
 obtain ⟨ao, cap, w5, hr, hP5, hf5⟩ := hP4.add (by simpa using hb4) (keyV k s (.slice yo s.length yc)) hKin (Bl.far hP4 hKb (by simpa using hW) (Nat.le_refl _)) (by simp [headV, keyV])
 have hf15 : Fr (fun _ => False) W1 w5 := absorbP hf14 hf5 (fun i hi => by have := (hP4.lt i hi).1; simpa using this)
 have HR := hid hr
 clear hf2 hf3 hf4 hr
 refine wpAnyH_ready (rs := [9]) (by kernel_rfl) (by simp) (AllReadyH.cons rfl (fun K hK => ?_) AllReadyH.nil)
 go_simp
 refine hK.out _ _ ((uh HS) _ (hf14.alloc _)) (fun hHeld => ?_)
 clear hK K
 (try simp only [Act.put, nrm])
 refine wpAnyH_ready (rs := [10]) (by kernel_rfl) (by simp) (AllReadyH.cons rfl (fun K hK => ?_) AllReadyH.nil)
 refine step_app rfl (.tmp 5) (.tmp 12) 74 74 rfl _ _ _ (by simp [Act.eval]) (by simp [Act.eval, keyV]) (uh HR) ?_
 refine hK.out _ _ ((uh HS) _ hf15) (fun hHeld => ?_)
 clear hK K
 (try simp only [Act.put, nrm])
 refine wtk2 (i := 11) rfl hHeld ?_
 (try simp only [Act.put, nrm])
 refine wpAnyH_done (by kernel_rfl) ?_ _
 clear hHeld
 have HP := hid (hP5.base (base' := w.heap.size) (by simpa using hW))
 have HF := hid ((uh HF1).trans hf15 (fun _ _ h => h))
 clear hP hP4 hP5 hf5 hf15 hf14 hf13 hf12 HF1 HS HX hKin hKb hb4 hW hy4 hxW
 go_wp2_with fail
 go_ret
 exact ⟨_, rfl, uh HP, uh HF⟩
set_option maxRecDepth 1000000 in
theorem gtext_any (nm s : ByteArray) (lo hi : Int) (w : World) (hs : s.size < 140737488355000) :
  Calls Tryz.prog 93 #[.string nm, .string s, .int .i64 lo, .int .i64 hi] w fun e w' => ∃ xo xc, e = .returned (.agg #[.string nm, .int .i64 6, .int .u64 0, .slice xo s.size xc, .int .i64 (szN lo hi s.size : Nat)]) ∧ Src w' (.slice xo s.size xc) (bytesOf s) ∧ (∀ g o, xo = some ⟨g, o, none⟩ → w.heap.size ≤ g ∧ g < w'.heap.size) ∧ Fr (fun _ => False) w w' := by
 go_enter Tryz.func93, Tryz.ntmps93
 obtain ⟨W1, hW1⟩ : ∃ W1, w.alloc (.cells zPt.toArray 110) = W1 := ⟨_, rfl⟩
 go_wp2_with fail
 go_loopw [9, 10] (fun x i wr => ∃ k : Nat, k ≤ s.size ∧ i = .int .i64 k ∧ wr.ownsRow (w.heap.size + 1) 5 1 x k (cellsOf ((bytesOf s).take k)) ∧ Fr (fun _ => False) (w.alloc (.cells zPt.toArray 110)) wr) (fun _ i _ => s.size - (intOf i).toNat)
 case atStart => exact ⟨0, Nat.zero_le _, rfl, World.ownsRow_nil _ _ _ _, Fr.refl _ _⟩
 case round =>
  obtain ⟨k, hk, rfl, ho, hf⟩ := hrel
  rename World => wr
  have H2 := hid (And.intro ho hf)
  have hlo : w.heap.size + 1 ≤ wr.heap.size := by have := hf.size; simpa using this
  clear ho hf
  by_cases hlt : k < s.size
  ·have hlt' : k < s.data.size := hlt
   obtain ⟨ho, hf⟩ := uh H2
   rename_i x'
   have hc : s[k].toNat < 256 := s[k].toNat_lt
   have hx1 := ownsRow_of_block (w' := wr.alloc (.cells #[.int .u8 (s[k].toNat : Int)] 5)) ho (fun g hg => Below.heap_alloc _ _ _ (ho.lt g hg).2)
   obtain ⟨ao, c', w2, hr, hown, hgrow, hat⟩ := run_app_sl _ 23 (w.heap.size + 1) k _ _ _ [s[k].toNat] hx1 (lit_src wr [s[k].toNat] #[.int .u8 (s[k].toNat : Int)] 1 1 rfl (by simp [cellsOf, B, Nat.mod_eq_of_lt hc])) (by simp; omega) (by simp; omega)
   have hf2 : Fr (fun _ => False) (w.alloc (.cells zPt.toArray 110)) w2 := (hf.alloc _).grown hgrow (fun g hg => .inr (by have := (ho.lt g hg).1; simp; omega))
   have ho2 : w2.ownsRow (w.heap.size + 1) 5 1 (.slice ao (k + 1) c') (k + 1) (cellsOf ((bytesOf s).take (k + 1))) := by
    have hk' : k < (bytesOf s).length := by rw [bytesOf_length]; exact hlt
    have e : (bytesOf s)[k] = s[k].toNat := by simp [bytesOf]; rfl
    rw [List.take_add_one, List.getElem?_eq_getElem hk', Option.toList_some, e, cellsOf_append _ [s[k].toNat]]
    exact hown
   have HR := hid hr
   have H3 := hid (And.intro ho2 hf2)
   clear ho hf hx1 hr hown hgrow hat hf2 ho2
   go_wp2_with (at_builtin; refine wpList_app rfl (.tmp 17) (.tmp 21) 23 23 rfl _ _ _ rfl rfl (uh HR) ?_)
   go_roundw
   case rel => exact ⟨k + 1, by omega, by go_num, (uh H3).1, (uh H3).2⟩
   case measure => simp [intOf]; omega
  ·have hkn : k = s.size := by omega
   subst hkn
   have e : (bytesOf s).take s.size = bytesOf s := List.take_of_length_le (by rw [bytesOf_length]; exact Nat.le_refl _)
   obtain ⟨h, hf⟩ := uh H2
   rw [e] at h
   have hsrc := own_src (by rw [bytesOf_length]; exact h)
   obtain ⟨xo, xc, ex⟩ := own_form h
   subst ex
   have hat : ∀ g o, xo = some ⟨g, o, none⟩ → w.heap.size + 1 ≤ g ∧ g < wr.heap.size := fun g o e => by
    subst e
    exact h.lt g rfl
   have HA := hid (And.intro hsrc (And.intro hat hf))
   clear h hf hsrc hat H2
   go_wp2_with fail
   refine (gbytes_any nm xo s.size xc lo hi wr).mono ?_
   rintro e w' ⟨rfl, hf'⟩
   obtain ⟨W4, hst, hb4, hf4, hf5⟩ := box_st [.string nm, .int .i64 6, .int .u64 0, .slice xo s.size xc, .int .i64 (szN lo hi s.size : Nat)] ((uh HA).2.2.trans hf' (fun _ _ h => h)) rfl (by simp [Value.oneCell'])
   have hlt4 : wr.heap.size ≤ W4.heap.size := Nat.le_trans hf'.size hf5.size
   have hs4 : Src W4 (.slice xo s.size xc) (bytesOf s) := ((uh HA).1.fr hf' (fun _ _ _ _ _ h => h)).fr hf5 (fun g o m c e hg => by
    have := (uh HA).2.1 g o (by injection e)
    omega)
   have HST := hid hst
   have HF := hid (And.intro hs4 (And.intro hf4 hlt4))
   clear hst hf' hf4 hf5 hs4 hlt4
   go_wp2_with (refine wpList_stN rfl 110 (.tmp 8) (.tmp 27) rfl _ _ rfl rfl (uh HST) ?_)
   exact ret_boxB hb4 rfl _ (by simp) Tryz.underlying110 rfl Tryz.sizePt ⟨xo, xc, rfl, (uh HF).1, fun g o e => by have := (uh HA).2.1 g o e; have := (uh HF).2.2; omega, (uh HF).2.1⟩
set_option linter.unusedSimpArgs false
theorem runP_put : ∀ (L : List PT) (s : Wq), s.f = none → (runP s L).out = (putP s.l L).1 ∧ (runP s L).f = (putP s.l L).2
 | [], s, h => by unfold Wq.out; rw [show runP s [] = s from rfl, if_pos h]; exact ⟨rfl, h⟩
 | p :: r, s, h => by
  rw [runP_cons]
  unfold putP
  by_cases hw : p.wy = 0
  ·rw [if_neg (by simpa using hw)]
   have e1 : (p.go s).l = s.l ++ p.by ∧ (p.go s).f = none := by
    unfold PT.go Wq.putB Wq.failN Wq.named
    simp [hw, h]
   rw [← e1.1]
   exact runP_put r _ e1.2
  ·rw [if_pos hw]
   have e1 : (p.go s).f = some (p.nm, s.l.length, p.wy) := by
    unfold PT.go Wq.putB Wq.failN Wq.named
    simp [hw, h]
   have e2 := run_stuck r (s := p.go s) (by rw [e1]; simp)
   refine ⟨?_, e2.2.trans e1⟩
   unfold Wq.out
   rw [e2.2, e1]
   simp
theorem Eqf.out {s t : Wq} (h : Eqf s t) : s.out = t.out := by unfold Wq.out; rw [h.1, h.2]
def Runs (s : Wq) (c : CS) (L : List PT) : Prop := ∃ t, c = .wr t ∧ Eqf t (runP s L)
theorem Runs.nil (s : Wq) : Runs s (.wr s) [] := ⟨s, rfl, Eqf.refl s⟩
theorem Runs.then {s t : Wq} {c : CS} {a b : List PT} (h : Eqf t (runP s a)) (k : Runs t c b) : Runs s c (a ++ b) := by
 obtain ⟨u, rfl, e⟩ := k
 refine ⟨u, rfl, e.trans ?_⟩
 rw [runP_app]
 exact run_eqf b h
theorem rU8 (s : Wq) (nm : ByteArray) (rs : List (Nat → Nat)) (v : Nat) : Runs s ((CS.wr s).pU8 nm rs v).1 [⟨nm, 1, v, [], fb rs v⟩] := ⟨_, rfl, Eqf.refl _⟩
theorem rU32 (s : Wq) (nm : ByteArray) (rs : List (Nat → Nat)) (v : Nat) : Runs s ((CS.wr s).pU32 nm rs v).1 [⟨nm, 4, v, [], fb rs v⟩] := ⟨_, rfl, Eqf.refl _⟩
theorem pU8_t (s : Wq) (nm : ByteArray) (rs : List (Nat → Nat)) (v : Nat) : ∃ t, (CS.wr s).pU8 nm rs v = (.wr t, v) ∧ Eqf t (runP s [⟨nm, 1, v, [], fb rs v⟩]) := ⟨_, rfl, Eqf.refl _⟩
theorem pU32_t (s : Wq) (nm : ByteArray) (rs : List (Nat → Nat)) (v : Nat) : ∃ t, (CS.wr s).pU32 nm rs v = (.wr t, v) ∧ Eqf t (runP s [⟨nm, 4, v, [], fb rs v⟩]) := ⟨_, rfl, Eqf.refl _⟩
theorem step_run {s t u : Wq} {a : List PT} {p : PT} (h : Eqf t (runP s a)) (k : Eqf u (runP t [p])) : Eqf u (runP s (a ++ [p])) := by
 rw [runP_app]
 exact k.trans (run_eqf _ h)
theorem fb_nil {α : Type} (v : α) : fb [] v = 0 := rfl
theorem failN_twice (s : Wq) (m n : Nat) (h : m ≠ 0 ∨ n = 0) : (s.failN m).failN n = s.failN m := by
 unfold Wq.failN
 by_cases hm : m = 0
 ·have hn : n = 0 := by omega
  simp [hm, hn]
 ·by_cases hf : s.f = none
  ·simp [hm, hf]
  ·simp [hf]
theorem putB_stuck {s : Wq} (h : s.f ≠ none) (x : List Nat) : s.putB x = s := by unfold Wq.putB; rw [if_neg h]
theorem rF32 (s : Wq) (nm : ByteArray) (v : Nat) : Runs s ((CS.wr s).pF32 nm [] v).1 [⟨nm, 5, v, [], if quantB v then 0 else 4⟩] := by
 refine ⟨_, rfl, ?_⟩
 show Eqf _ (PT.go s _)
 unfold PT.go Wq.flt
 rw [fb_nil]
 by_cases h : quantB v = true
 ·rw [if_pos h, if_pos h]; exact Eqf.refl _
 ·rw [if_neg h, if_neg h]
  dsimp only
  have e0 : (s.named nm).failN 0 = s.named nm := by unfold Wq.failN; simp
  rw [e0]
  refine Eqf.symm ?_
  unfold Wq.putB Wq.failN Wq.named
  by_cases hf : s.f = none <;> simp [hf, Eqf]
theorem lim_run (s : Wq) (nm : ByteArray) (n : Nat) (m : Int) (x : List Nat) (w : Nat) (hm : m ≤ 100000) (hw : ¬ (n : Int) ≤ m → w ≠ 0) : ((s.named nm).failN w).lim n m x = ((s.named nm).failN w).putB x := by
 unfold Wq.lim
 by_cases h : (n : Int) ≤ m
 ·rw [if_pos ⟨h, by omega⟩]
 ·have hw0 := hw h
  rw [if_neg (fun k => h k.1), failN_twice _ _ _ (.inl hw0)]
  have : ((s.named nm).failN w).f ≠ none := by
   unfold Wq.failN Wq.named
   by_cases hf : s.f = none <;> simp [hf, hw0]
  rw [putB_stuck this]
theorem fb_first {α : Type} {r : α → Nat} {rs : List (α → Nat)} {v : α} (h : r v ≠ 0) : fb (r :: rs) v ≠ 0 := by
 simp only [fb]
 rw [if_neg h]
 exact h
theorem szN_big {lo hi : Int} {v : Nat} (h : ¬ (v : Int) ≤ hi) : szN lo hi v ≠ 0 := by unfold szN; rw [if_pos (by omega)]; decide
theorem bytesOf_lenP (v : ByteArray) : (bytesOf v).length = v.size := by simp [bytesOf]
theorem rStr (s : Wq) (nm : ByteArray) (lo m : Int) (rs : List (ByteArray → Nat)) (v : ByteArray) (hm : m ≤ 100000) : Runs s ((CS.wr s).pStr nm m ((fun v => szN lo m v.size) :: rs) v).1 [⟨nm, 6, 0, bytesOf v, fb ((fun v => szN lo m v.size) :: rs) v⟩] := by
 refine ⟨_, rfl, ?_⟩
 rw [lim_run s nm v.size m _ (fb ((fun v : ByteArray => szN lo m v.size) :: rs) v) hm (fun h => fb_first (r := fun v : ByteArray => szN lo m v.size) (szN_big h))]
 show Eqf _ (PT.go s _)
 unfold PT.go PT.by
 dsimp only
 rw [if_pos rfl, bytesOf_lenP]
 exact Eqf.refl _
theorem rByt (s : Wq) (nm : ByteArray) (lo m : Int) (v : List Nat) (hm : m ≤ 100000) : Runs s ((CS.wr s).pByt nm m [fun v => szN lo m v.length] v).1 [⟨nm, 6, 0, v, szN lo m v.length⟩] := by
 refine ⟨_, rfl, ?_⟩
 have e1 : fb [fun v : List Nat => szN lo m v.length] v = szN lo m v.length := by
  simp only [fb]
  split
  ·rename_i h; exact h.symm
  ·rfl
 rw [e1, lim_run _ _ _ _ _ _ hm szN_big]
 exact Eqf.refl _
theorem rInt (s : Wq) (nm : ByteArray) (m : Int) (rs : List (Int → Nat)) (v : Nat) (hm : m ≤ 100000) : Runs s ((CS.wr s).pInt nm m (lrs m rs) v).1 [⟨nm, 4, v, [], fb (lrs m rs) (v : Int)⟩] := by
 refine ⟨_, rfl, ?_⟩
 unfold Wq.cnt
 rw [if_neg (by omega), Int.toNat_natCast, lim_run s nm v m _ (fb (lrs m rs) (v : Int)) hm (fun h => fb_first (r := wiI 0 m 2) (by unfold wiI; rw [if_pos (.inr (by omega))]; decide))]
 exact Eqf.refl _
theorem fb_one {α : Type} (r : α → Nat) (v : α) : fb [r] v = r v := by
 simp only [fb]
 split
 ·rename_i h; exact h.symm
 ·rfl
theorem rField (s : Wq) (last : Nat) (f : Fld) : Runs s ((CS.wr s).pField last f).1 (fieldP last f) ∧ ((CS.wr s).pField last f).2.name = f.name := by
 unfold CS.pField fieldP
 have e1 : (CS.wr s).pU8 n_kind [wiN 1 last 5, unN f.beside] f.kind = (.wr (PT.go s ⟨n_kind, 1, f.kind, [], fb [wiN 1 last 5, unN f.beside] f.kind⟩), f.kind) := rfl
 rw [e1]
 dsimp only
 have eK := Eqf.refl (PT.go s ⟨n_kind, 1, f.kind, [], fb [wiN 1 last 5, unN f.beside] f.kind⟩)
 by_cases k1 : f.kind = 1
 ·rw [if_pos k1, if_pos k1]
  refine ⟨Runs.then (a := [⟨n_kind, 1, f.kind, [], fb [wiN 1 last 5, unN f.beside] f.kind⟩]) eK ?_, rfl⟩
  have := rStr (PT.go s ⟨n_kind, 1, f.kind, [], fb [wiN 1 last 5, unN f.beside] f.kind⟩) n_text 0 64 [] f.text (by decide)
  rwa [fb_one (fun v : ByteArray => szN 0 64 v.size)] at this
 ·rw [if_neg k1, if_neg k1]
  by_cases k2 : f.kind = 2
  ·rw [if_pos k2, if_pos k2]
   obtain ⟨t1, e1, h1⟩ := rF32 (PT.go s ⟨n_kind, 1, f.kind, [], fb [wiN 1 last 5, unN f.beside] f.kind⟩) n_value f.value
   dsimp only
   rw [e1]
   refine ⟨Runs.then (a := [⟨n_kind, 1, f.kind, [], fb [wiN 1 last 5, unN f.beside] f.kind⟩, ⟨n_value, 5, f.value, [], if quantB f.value then 0 else 4⟩]) h1 ?_, rfl⟩
   have := rU8 t1 n_unit [wiN 1 21 4] f.unit
   rwa [fb_one] at this
  ·rw [if_neg k2, if_neg k2]
   exact ⟨⟨_, rfl, eK⟩, rfl⟩
theorem rNamed (s : Wq) (last : Nat) (a : ByteArray) (f : Fld) : Runs s (eachF last (.wr s, a) f).1.1 (namedP last a f) ∧ (eachF last (.wr s, a) f).1.2 = f.name := by
 obtain ⟨t, e, h⟩ := rStr s n_name 1 64 [abN a] f.name (by decide)
 have e2 : (CS.wr s).pStr n_name 64 [fun v => szN 1 64 v.size, abN a] f.name = (.wr t, f.name) := by
  rw [← e]; rfl
 have hN : eachF last (.wr s, a) f = ((((CS.wr t).pField last f).1, ((CS.wr t).pField last f).2.name), ((CS.wr t).pField last f).2) := by
  unfold eachF CS.pNamed
  dsimp only
  rw [e2]
 rw [hN]
 obtain ⟨h1, h2⟩ := rField t last f
 dsimp only
 rw [h2]
 unfold namedP
 rw [← List.singleton_append]
 exact ⟨Runs.then h h1, rfl⟩
theorem rFields1 (last : Nat) : ∀ (l : List Fld) (s : Wq) (a : ByteArray), Runs s (lpW (eachF last) (.wr s, a) l).1 (fieldsP1 last a l)
 | [], s, a => Runs.nil s
 | f :: r, s, a => by
  obtain ⟨⟨t, e, h⟩, e2⟩ := rNamed s last a f
  unfold lpW fieldsP1
  have e3 : (eachF last (.wr s, a) f).1 = (.wr t, f.name) := Prod.ext e e2
  rw [e3]
  exact Runs.then h (rFields1 last r t f.name)
theorem rFields (s : Wq) (last : Nat) (rs : List (Int → Nat)) (l : List Fld) : Runs s ((CS.wr s).pFields last rs l).1 (fieldsP last rs l) := by
 obtain ⟨t, e, h⟩ := rInt s n_fields 32 rs l.length (by decide)
 show Runs s (lpW (eachF last) (((CS.wr s).pInt n_fields 32 (lrs 32 rs) l.length).1, ⟨#[]⟩) (l.take (min l.length 32))).1 _
 rw [e]
 by_cases h32 : l.length ≤ 32
 ·rw [Nat.min_eq_left h32, List.take_length]
  exact Runs.then (a := [_]) h (rFields1 last l t _)
 ·obtain ⟨u, e1, h1⟩ := rFields1 last (l.take (min l.length 32)) t ⟨#[]⟩
  refine ⟨u, e1, h1.trans ((run_eqf _ h).trans ?_)⟩
  exact run_wrong (fb_first (r := wiI 0 32 2) (by unfold wiI; rw [if_pos (.inr (by omega))]; decide)) _ _
def idP (cl nu : Nat) : List PT := [⟨n_client, 4, cl, [], 0⟩, ⟨n_number, 4, nu, [], 0⟩]
def requestP (v : RqM) : List PT :=
 idP v.cl v.nu ++ ([⟨n_actor, 4, v.ac, [], 0⟩, ⟨n_op, 1, v.op, [], wiN 1 7 5 v.op⟩, ⟨n_record, 4, v.re, [], wiN 0 (lims v.op).1 4 v.re⟩, ⟨n_version, 4, v.ve, [], wiN 0 (lims v.op).2.1 4 v.ve⟩, ⟨n_ward, 4, v.wa, [], wiN 0 (lims v.op).2.2.1 4 v.wa⟩, ⟨n_owner, 4, v.ow, [], wiN 0 (lims v.op).2.2.2.1 4 v.ow⟩] ++ (fieldsP (lims v.op).2.2.2.2.2.2 [wiI 0 (lims v.op).2.2.2.2.1 4] v.fs ++ [⟨n_reason, 6, 0, bytesOf v.rs, fb [fun v => szN 0 64 v.size, rsN (lims v.op).2.2.2.2.2.1] v.rs⟩]))
theorem rId (s : Wq) (cl nu : Nat) : Runs s ((CS.wr s).pId (cl, nu)).1 (idP cl nu) := ⟨_, rfl, Eqf.refl _⟩
theorem rRequest (s : Wq) (v : RqM) : Runs s ((CS.wr s).pRequest v).1 (requestP v) := by
 obtain ⟨t0, e0, h0⟩ := rId s v.cl v.nu
 obtain ⟨t1, e1, h1⟩ := pU32_t t0 n_actor [] v.ac
 obtain ⟨t3, e3', h3⟩ := pU8_t t1 n_op [wiN 1 7 5] v.op
 obtain ⟨t4, e4, h4⟩ := pU32_t t3 n_record [wiN 0 (lims v.op).1 4] v.re
 obtain ⟨t5, e5, h5⟩ := pU32_t t4 n_version [wiN 0 (lims v.op).2.1 4] v.ve
 obtain ⟨t6, e6, h6⟩ := pU32_t t5 n_ward [wiN 0 (lims v.op).2.2.1 4] v.wa
 obtain ⟨t7, e7', h7'⟩ := pU32_t t6 n_owner [wiN 0 (lims v.op).2.2.2.1 4] v.ow
 have e3 : (CS.wr s).q3 v = (.wr t3, v.op) := by unfold CS.q3 CS.q2 CS.q1; rw [e0, e1, e3']
 have e7 : ((CS.wr s).q7 v).1 = .wr t7 := by unfold CS.q7 CS.q6 CS.q5 CS.q4; rw [e3]; dsimp only; rw [e4]; dsimp only; rw [e5]; dsimp only; rw [e6]; dsimp only; rw [e7']
 rw [fb_one] at h3 h4 h5 h6 h7'
 have h7 := step_run (step_run (step_run (step_run (step_run h1 h3) h4) h5) h6) h7'
 obtain ⟨t8, e8, h8⟩ := rFields t7 (lims v.op).2.2.2.2.2.2 [wiI 0 (lims v.op).2.2.2.2.1 4] v.fs
 have q8 : ((CS.wr s).q8 v).1 = .wr t8 := by unfold CS.q8; rw [e7, e3]; exact e8
 have h9 := rStr t8 n_reason 0 64 [rsN (lims v.op).2.2.2.2.2.1] v.rs (by decide)
 have q9 : ((CS.wr s).pRequest v).1 = ((CS.wr t8).pStr n_reason 64 [fun v => szN 0 64 v.size, rsN (lims v.op).2.2.2.2.2.1] v.rs).1 := by
  show ((CS.wr s).q9 v).1 = _
  unfold CS.q9
  rw [q8, e3]
 rw [q9]
 unfold requestP
 exact Runs.then h0 (Runs.then h7 (Runs.then h8 h9))
def summaryP (h : SuM) : List PT := [⟨n_author, 4, h.au, [], 0⟩, ⟨n_event, 4, h.ev, [], 0⟩, ⟨n_many, 4, h.fi, [], 0⟩, ⟨n_gone, 1, h.gone, [], 0⟩]
def histP (l : List SuM) : List PT := ⟨n_history, 4, l.length, [], wiI 0 64 2 (l.length : Int)⟩ :: l.flatMap summaryP
def answerP (v : AnM) : List PT := (idP v.cl v.nu ++ [⟨n_code, 1, v.co, [], wiN 0 10 5 v.co⟩, ⟨n_record, 4, v.re, [], 0⟩, ⟨n_version, 4, v.ve, [], 0⟩]) ++ (fieldsP 2 [] v.fs ++ histP v.hi)
theorem rSummary (s : Wq) (h : SuM) : Runs s ((CS.wr s).pSummary h).1 (summaryP h) := by
 have e : fb [wiN 0 1 4] h.gone = 0 := by
  rw [fb_one]
  unfold wiN SuM.gone
  split <;> simp
 obtain ⟨t1, e1, h1⟩ := pU32_t s n_author [] h.au
 obtain ⟨t2, e2, h2⟩ := pU32_t t1 n_event [] h.ev
 obtain ⟨t3, e3, h3⟩ := pU32_t t2 n_many [] h.fi
 obtain ⟨t4, e4, h4⟩ := pU8_t t3 n_gone [wiN 0 1 4] h.gone
 rw [e] at h4
 refine ⟨t4, ?_, step_run (step_run (step_run h1 h2) h3) h4⟩
 show ((CS.wr s).s4 h).1 = _
 unfold CS.s4 CS.s3 CS.s2 CS.s1
 rw [e1]; dsimp only; rw [e2]; dsimp only; rw [e3]; dsimp only; rw [e4]
theorem rSums : ∀ (l : List SuM) (s : Wq), Runs s (loopW (fun c v => c.pSummary v) (.wr s) l) (l.flatMap summaryP)
 | [], s => Runs.nil s
 | x :: r, s => by
  obtain ⟨t, e, h⟩ := rSummary s x
  show Runs s (loopW (fun c v => c.pSummary v) ((CS.wr s).pSummary x).1 r) _
  rw [e, List.flatMap_cons]
  exact Runs.then h (rSums r t)
theorem rHist (s : Wq) (l : List SuM) : Runs s ((CS.wr s).pHist l).1 (histP l) := by
 obtain ⟨t, e, h⟩ := rInt s n_history 64 [] l.length (by decide)
 show Runs s (loopW (fun c v => c.pSummary v) ((CS.wr s).pInt n_history 64 (lrs 64 []) l.length).1 (l.take (min l.length 64))) _
 rw [e]
 have ew : fb (lrs 64 []) (l.length : Int) = wiI 0 64 2 (l.length : Int) := fb_one _ _
 rw [ew] at h
 by_cases h64 : l.length ≤ 64
 ·rw [Nat.min_eq_left h64, List.take_length]
  exact Runs.then (a := [_]) h (rSums l t)
 ·obtain ⟨u, e1, h1⟩ := rSums (l.take (min l.length 64)) t
  refine ⟨u, e1, h1.trans ((run_eqf _ h).trans ?_)⟩
  exact run_wrong (by show wiI _ _ _ _ ≠ 0; unfold wiI; rw [if_pos (.inr (by omega))]; exact (by decide : (2 : Nat) ≠ 0)) _ _
theorem rAnswer (s : Wq) (v : AnM) : Runs s ((CS.wr s).pAnswer v).1 (answerP v) := by
 obtain ⟨t1, e1, h1⟩ := rId s v.cl v.nu
 obtain ⟨t2, e2, h2⟩ := pU8_t t1 n_code [wiN 0 10 5] v.co
 obtain ⟨t3, e3, h3⟩ := pU32_t t2 n_record [] v.re
 obtain ⟨t4, e4', h4'⟩ := pU32_t t3 n_version [] v.ve
 have e4 : ((CS.wr s).a4 v).1 = .wr t4 := by unfold CS.a4 CS.a3 CS.a2 CS.a1 CS.pCode; rw [e1, e2]; dsimp only; rw [e3]; dsimp only; rw [e4']
 rw [fb_one] at h2
 rw [fb_nil] at h3 h4'
 have h4 := step_run (step_run (step_run h1 h2) h3) h4'
 obtain ⟨t5, e5, h5⟩ := rFields t4 2 [] v.fs
 have q5 : ((CS.wr s).a5 v).1 = .wr t5 := by unfold CS.a5; rw [e4]; exact e5
 show Runs s ((CS.wr s).a6 v).1 _
 unfold CS.a6
 rw [q5]
 unfold answerP
 exact Runs.then (by simpa only [List.append_assoc, List.cons_append, List.nil_append] using h4) (Runs.then h5 (rHist t5 v.hi))
def eventP (v : EvM) : List PT := (⟨n_place, 4, v.pl, [], 0⟩ :: requestP v.rq) ++ [⟨n_code, 1, v.co, [], wiN 0 10 5 v.co⟩, ⟨n_digest, 6, 0, v.dg, szN 1 32 v.dg.length⟩]
def headP (z : Nat) (r : List Nat) : List PT := [⟨n_size, 4, z, [], 0⟩, ⟨n_root, 6, 0, r, szN 1 32 r.length⟩]
def signedP (v : (Nat × List Nat) × Nat × List Nat) : List PT := headP v.1.1 v.1.2 ++ [⟨n_key, 4, v.2.1, [], 0⟩, ⟨n_signature, 6, 0, v.2.2, szN 0 32768 v.2.2.length⟩]
def proofP (ps : List (List Nat)) : List PT := ⟨n_hashes, 4, ps.length, [], wiI 0 4096 2 (ps.length : Int)⟩ :: ps.map fun h => ⟨n_hash, 6, 0, h, szN 1 32 h.length⟩
theorem rHash (s : Wq) (nm : ByteArray) (v : List Nat) : Runs s ((CS.wr s).pHash nm v).1 [⟨nm, 6, 0, v, szN 1 32 v.length⟩] := rByt s nm 1 32 v (by decide)
theorem rEvent (s : Wq) (v : EvM) : Runs s ((CS.wr s).pEvent v).1 (eventP v) := by
 obtain ⟨t1, e1, h1⟩ := rU32 s n_place [] v.pl
 obtain ⟨t2, e2, h2⟩ := rRequest t1 v.rq
 obtain ⟨t3, e3, h3⟩ := rU8 t2 n_code [wiN 0 10 5] v.co
 have q2 : ((CS.wr s).e2 v).1 = .wr t2 := by unfold CS.e2 CS.e1; rw [e1]; exact e2
 have q3 : ((CS.wr s).e3 v).1 = .wr t3 := by unfold CS.e3 CS.pCode; rw [q2]; exact e3
 show Runs s ((CS.wr s).e4 v).1 _
 unfold CS.e4
 rw [q3]
 rw [fb_one] at h3
 rw [fb_nil] at h1
 unfold eventP
 rw [← List.singleton_append, List.append_assoc, ← List.singleton_append (x := (⟨n_code, 1, v.co, [], wiN 0 10 5 v.co⟩ : PT))]
 exact Runs.then h1 (Runs.then h2 (Runs.then h3 (rHash t3 n_digest v.dg)))
theorem rHead (s : Wq) (z : Nat) (r : List Nat) : Runs s ((CS.wr s).pHead (z, r)).1 (headP z r) := by
 obtain ⟨t1, e1, h1⟩ := rU32 s n_size [] z
 unfold CS.pHead
 dsimp only
 rw [e1]
 exact Runs.then (a := [_]) h1 (rHash t1 n_root r)
theorem rSigned (s : Wq) (v : (Nat × List Nat) × Nat × List Nat) : Runs s ((CS.wr s).pSigned v).1 (signedP v) := by
 obtain ⟨⟨z, r⟩, k, g⟩ := v
 obtain ⟨t1, e1, h1⟩ := rHead s z r
 obtain ⟨t2, e2, h2⟩ := rU32 t1 n_key [] k
 unfold CS.pSigned
 dsimp only
 rw [e1, e2]
 exact Runs.then h1 (Runs.then (a := [_]) h2 (rByt t2 n_signature 0 32768 g (by decide)))
theorem rHashes : ∀ (l : List (List Nat)) (s : Wq), Runs s (loopW (fun c v => c.pHash n_hash v) (.wr s) l) (l.map fun h => ⟨n_hash, 6, 0, h, szN 1 32 h.length⟩)
 | [], s => Runs.nil s
 | x :: r, s => by
  obtain ⟨t, e, h⟩ := rHash s n_hash x
  show Runs s (loopW (fun c v => c.pHash n_hash v) ((CS.wr s).pHash n_hash x).1 r) _
  rw [e, List.map_cons]
  exact Runs.then (a := [_]) h (rHashes r t)
theorem rProof (s : Wq) (l : List (List Nat)) : Runs s ((CS.wr s).pProof l).1 (proofP l) := by
 obtain ⟨t, e, h⟩ := rInt s n_hashes (4096 : Nat) [] l.length (by decide)
 show Runs s (loopW (fun c v => c.pHash n_hash v) ((CS.wr s).pInt n_hashes (4096 : Nat) (lrs (4096 : Nat) []) l.length).1 (l.take (min l.length 4096))) _
 rw [e]
 have ew : fb (lrs (4096 : Nat) []) (l.length : Int) = wiI 0 4096 2 (l.length : Int) := fb_one _ _
 rw [ew] at h
 by_cases h4 : l.length ≤ 4096
 ·rw [Nat.min_eq_left h4, List.take_length]
  exact Runs.then (a := [_]) h (rHashes l t)
 ·obtain ⟨u, e1, h1⟩ := rHashes (l.take (min l.length 4096)) t
  refine ⟨u, e1, h1.trans ((run_eqf _ h).trans ?_)⟩
  exact run_wrong (by show wiI _ _ _ _ ≠ 0; unfold wiI; rw [if_pos (.inr (by omega))]; exact (by decide : (2 : Nat) ≠ 0)) _ _
def message2P (v : MsM) : List PT := if v.kd = 1 then requestP v.rq else if v.kd = 2 then idP v.icl v.inu else if v.kd = 3 then answerP v.an else if v.kd = 4 then idP v.icl v.inu ++ [⟨n_busy, 1, v.co, [], wiN 1 15 4 v.co⟩] else if v.kd = 5 then eventP v.ev else if v.kd = 6 then [⟨n_length, 4, v.le, [], 0⟩] else []
def messageP (v : MsM) : List PT := ⟨n_kind, 1, v.kd, [], fb [wiN 1 7 5, unN v.beside] v.kd⟩ :: message2P v
theorem rM (t : Wq) (v : MsM) : Runs t ((CS.wr t).pM v.kd v).1 (message2P v) := by
 unfold CS.pM message2P
 by_cases k1 : v.kd = 1
 ·rw [if_pos k1, if_pos k1]; exact rRequest _ _
 rw [if_neg k1, if_neg k1]
 by_cases k2 : v.kd = 2
 ·rw [if_pos k2, if_pos k2]; exact rId _ _ _
 rw [if_neg k2, if_neg k2]
 by_cases k3 : v.kd = 3
 ·rw [if_pos k3, if_pos k3]; exact rAnswer _ _
 rw [if_neg k3, if_neg k3]
 by_cases k4 : v.kd = 4
 ·rw [if_pos k4, if_pos k4]
  obtain ⟨t2, e2, h2⟩ := rId t v.icl v.inu
  have := rU8 t2 n_busy [wiN 1 15 4] v.co
  rw [fb_one] at this
  dsimp only
  rw [e2]
  exact Runs.then h2 this
 rw [if_neg k4, if_neg k4]
 by_cases k5 : v.kd = 5
 ·rw [if_pos k5, if_pos k5]; exact rEvent _ _
 rw [if_neg k5, if_neg k5]
 by_cases k6 : v.kd = 6
 ·rw [if_pos k6, if_pos k6]; exact rU32 _ _ _ _
 rw [if_neg k6, if_neg k6]
 exact Runs.nil _
theorem rMessage (s : Wq) (v : MsM) : Runs s ((CS.wr s).pMessage v).1 (messageP v) := by
 have e1 : (CS.wr s).m1 v = (.wr (PT.go s ⟨n_kind, 1, v.kd, [], fb [wiN 1 7 5, unN v.beside] v.kd⟩), v.kd) := rfl
 have h1 : Eqf (PT.go s ⟨n_kind, 1, v.kd, [], fb [wiN 1 7 5, unN v.beside] v.kd⟩) (runP s [⟨n_kind, 1, v.kd, [], fb [wiN 1 7 5, unN v.beside] v.kd⟩]) := Eqf.refl _
 unfold CS.pMessage messageP
 rw [e1]
 exact Runs.then h1 (rM _ v)
theorem form_run {c : CS → CS} {L : List PT} {k : Nat} (_ : k < 256) (h : ∀ s : Wq, Runs s (c (.wr s)) L) : (c (cw0.pForm k)).wq.out = (putP [k] L).1 ∧ (c (cw0.pForm k)).wq.f = (putP [k] L).2 := by
 have e1 : cw0.pForm k = .wr ⟨n_form, [k], none⟩ := by
  have hw : wiN k k 5 k = 0 := by unfold wiN; rw [if_neg (by omega)]
  have hb : be 1 k = [k] := by simp [be, List.range, List.range.loop]
  unfold cw0 CS.pForm CS.pU8
  dsimp only
  rw [fb_one, hw, hb]
  rfl
 obtain ⟨t, e, ht⟩ := h ⟨n_form, [k], none⟩
 rw [e1, e]
 show t.out = _ ∧ t.f = _
 rw [ht.out, ht.2]
 exact runP_put L _ rfl
theorem requestW_put (v : RqM) : (requestW v).out = (putP [1] (requestP v)).1 ∧ (requestW v).f = (putP [1] (requestP v)).2 := form_run (c := fun c => (c.pRequest v).1) (by decide) (fun s => rRequest s v)
theorem answerW_put (v : AnM) : (answerW v).out = (putP [2] (answerP v)).1 ∧ (answerW v).f = (putP [2] (answerP v)).2 := form_run (c := fun c => (c.pAnswer v).1) (by decide) (fun s => rAnswer s v)
theorem eventW_put (v : EvM) : (eventW v).out = (putP [3] (eventP v)).1 ∧ (eventW v).f = (putP [3] (eventP v)).2 := form_run (c := fun c => (c.pEvent v).1) (by decide) (fun s => rEvent s v)
theorem headW_put (z : Nat) (r : List Nat) : (headW z r).out = (putP [4] (headP z r)).1 ∧ (headW z r).f = (putP [4] (headP z r)).2 := form_run (c := fun c => (c.pHead (z, r)).1) (by decide) (fun s => rHead s z r)
theorem signedW_put (v : (Nat × List Nat) × Nat × List Nat) : (signedW v).out = (putP [5] (signedP v)).1 ∧ (signedW v).f = (putP [5] (signedP v)).2 := form_run (c := fun c => (c.pSigned v).1) (by decide) (fun s => rSigned s v)
theorem proofW_put (v : List (List Nat)) : (proofW v).out = (putP [6] (proofP v)).1 ∧ (proofW v).f = (putP [6] (proofP v)).2 := form_run (c := fun c => (c.pProof v).1) (by decide) (fun s => rProof s v)
theorem messageW_put (v : MsM) : (messageW v).out = (putP [7] (messageP v)).1 ∧ (messageW v).f = (putP [7] (messageP v)).2 := form_run (c := fun c => (c.pMessage v).1) (by decide) (fun s => rMessage s v)
theorem wrapP (k : Nat) (h : k ≤ 1000000000) : wrap64 ((k : Int) + 1) = (k : Int) + 1 := by unfold wrap64; omega
def hashP (h : List Nat) : PT := ⟨n_hash, 6, 0, h, szN 1 32 h.length⟩
set_option maxRecDepth 100000 in
set_option maxHeartbeats 2000000 in
theorem gproof_any (ps : List (List Nat)) (xo : Option Addr) (xc : Nat) (w : World) (hx : PcL w xo xc ps) (hl : ps.length ≤ 1048576) :
  Calls Tryz.prog 55 #[.agg #[.slice xo ps.length xc]] w fun e w' => ∃ v L, e = .returned v ∧ PL w' w.heap.size v L ∧ L.map PV.p = proofP ps ∧ Fr (fun _ => False) w w' := by
 go_enter Tryz.func55, Tryz.ntmps55
 obtain ⟨W1, hW1⟩ : ∃ W1, w.alloc (.cells #[.slice xo ps.length xc] 40) = W1 := ⟨_, rfl⟩
 have hf1 : Fr (fun _ => False) w W1 := by rw [← hW1]; exact box1 w _
 have hsz1 : W1.heap.size = w.heap.size + 1 := by rw [← hW1]; simp
 have hb1 : W1.heap[w.heap.size]? = some (.cells #[.slice xo ps.length xc] 40) := by rw [← hW1]; exact heap_alloc_new w _
 have HS : Hid (∀ W', Fr (fun _ => False) W1 W' → W'.cell? ⟨w.heap.size, 0, none⟩ = some (.slice xo ps.length xc)) := hid (fun W' hf => by
  have hb := (hf.block _ (lt_of_block hb1) (fun h => h)).trans hb1
  exact cOB hb rfl)
 have HF1 := hid (And.intro hf1 hsz1)
 have HX := hid hx
 have c1 := (uh HS) W1 (Fr.refl _ _)
 clear hf1 hb1 hx hsz1
 go_wp2_with fail
 clear hW1
 refine (gcount_any n_hashes ps.length 4096 (by omega) _).mono ?_
 rintro e w2 ⟨rfl, hf2⟩
 have ew : (if (4096 : Int) < (ps.length : Int) then (2 : Int) else 0) = ((wiI 0 4096 2 (ps.length : Int) : Nat) : Int) := by
  unfold wiI
  by_cases h : (4096 : Int) < (ps.length : Int)
  ·rw [if_pos h, if_pos (.inr h)]; rfl
  ·rw [if_neg h, if_neg (by omega)]; rfl
 rw [ew]
 have hs2 : w.heap.size + 1 ≤ w2.heap.size := by rw [← (uh HF1).2]; exact hf2.size
 have hP := PL.lit w2 (w.heap.size + 1) [⟨⟨n_hashes, 4, ps.length, [], wiI 0 4096 2 (ps.length : Int)⟩, .slice none 0 0⟩] hs2 (fun q hq => by
  obtain rfl := List.mem_singleton.1 hq
  exact nil_in _ _ rfl) (by simp)
 have HP := hid (And.intro hP (hf2.alloc (.cells (([⟨⟨n_hashes, 4, ps.length, [], wiI 0 4096 2 (ps.length : Int)⟩, .slice none 0 0⟩] : List PV).flatMap PV.cs).toArray 110)))
 clear hP hf2 ew c1 hs2
 go_wp2_with fail
 go_loopw [3, 4] (fun tv iv wr => ∃ (i : Nat) (L : List PV), i ≤ ps.length ∧ iv = .int .i64 (i : Nat) ∧ PL wr (w.heap.size + 1) tv L ∧ L.length = i + 1 ∧ L.map PV.p = ⟨n_hashes, 4, ps.length, [], wiI 0 4096 2 (ps.length : Int)⟩ :: (ps.take i).map hashP ∧ Fr (fun _ => False) W1 wr) (fun _ iv _ => ps.length - (intOf iv).toNat)
 case atStart => exact ⟨0, _, Nat.zero_le _, rfl, (uh HP).1, rfl, rfl, (uh HP).2⟩
 case round =>
  obtain ⟨i, L, hi, rfl, hP2, hLl, hLm, hf⟩ := hrel
  rename World => wr
  clear HP
  have c1 := (uh HS) wr hf
  have hw1 := wrapP i (by omega)
  by_cases hlt : i < ps.length
  ·obtain ⟨g, o, x, rfl, hc, hxs, hxl, _⟩ := (uh HX).el i _ (List.getElem?_eq_getElem hlt)
   obtain ⟨yo, yc, rfl⟩ := hxs.form
   have hxl : ∀ g o n c, Value.slice yo ps[i].length yc = .slice (some ⟨g, o, none⟩) (n + 1) c → g < w.heap.size := fun g o n c e => by
    rcases hxl with h0 | h0
    ·simp [h0] at e
    ·exact h0 g o _ c e
   have hxs := And.intro hxs hxl
   have c2 : wr.cell? ⟨g, o + i, none⟩ = some (.slice yo ps[i].length yc) := (((uh HF1).1.trans hf (fun _ _ h => h)).cell (p := ⟨g, o + i, none⟩) (ltC hc) (fun h => h)).trans hc
   have hlt2 : (i : Int) < (ps.length : Int) := by omega
   have hcap := (uh HX).cap
   have hcap2 : (i : Int) < (xc : Int) := by omega
   have HI := hid (And.intro hP2 (And.intro hLl (And.intro hLm (And.intro hf hxs))))
   clear hP2 hLl hLm hf hxs hc
   go_wp2_with fail
   refine (gbytes_any n_hash yo ps[i].length yc 1 32 wr).mono ?_
   rintro e w3 ⟨rfl, hf3⟩
   obtain ⟨hP2, hLl, hLm, hf, hxs⟩ := uh HI
   have hfw : Fr (fun _ => False) w w3 := ((uh HF1).1.trans hf (fun _ _ h => h)).trans hf3 (fun _ _ h => h)
   have hP3 := hP2.fr0 hf3
   have hq := src_frV hxs.1 hfw
   have hb3 : w.heap.size + 1 ≤ w3.heap.size := by rw [← (uh HF1).2]; exact Nat.le_trans hf.size hf3.size
   obtain ⟨ao, cap, w4, hr, hP4, hf4⟩ := hP3.add hb3 [⟨hashP ps[i], .slice yo ps[i].length yc⟩] (fun q hq' => by
    obtain rfl := List.mem_singleton.1 hq'
    exact ⟨hq, fun g o n c e => Nat.lt_of_lt_of_le (hxs.2 g o n c e) hfw.size⟩) (fun q hq' g o n c e hg => by
    obtain rfl := List.mem_singleton.1 hq'
    have h1 := hxs.2 g o n c e
    have h2 := (hP3.lt g hg).1
    omega) (by simp; omega)
   have hf14 : Fr (fun _ => False) W1 w4 := absorbP (hf.trans hf3 (fun _ _ h => h)) hf4 (fun k hk => by have := (hP3.lt k hk).1; rw [(uh HF1).2]; exact this)
   have hm : (L ++ [⟨hashP ps[i], .slice yo ps[i].length yc⟩] : List PV).map PV.p = ⟨n_hashes, 4, ps.length, [], wiI 0 4096 2 (ps.length : Int)⟩ :: (ps.take (i + 1)).map hashP := by
    rw [List.map_append, hLm, List.take_add_one, List.getElem?_eq_getElem hlt, List.map_append]
    rfl
   simp only [List.length_singleton] at hr hP4
   have HR := hid hr
   have HJ := hid (And.intro hP4 (And.intro hm hf14))
   have HL := hid hLl
   clear hLl hr hP4 hP3 hP2 hLm hf hxs hfw hq hf3 hf4 hm hf14 HI hb3
   go_wp2_with (at_builtin; refine wpList_app rfl (.tmp 17) (.tmp 24) 74 74 rfl _ _ _ (by simp [Act.eval]) (by simp [Act.eval]) (uh HR) ?_)
   go_roundw
   case rel => exact ⟨i + 1, _, by omega, by go_num, (uh HJ).1, by rw [List.length_append, uh HL]; rfl, (uh HJ).2.1, (uh HJ).2.2⟩
   case measure => simp [intOf]; omega
  ·obtain rfl : i = ps.length := by omega
   have HI := hid (And.intro hP2 (And.intro hLm hf))
   clear hP2 hLm hf
   go_wp2_with fail
   go_ret
   refine ⟨_, L, rfl, (uh HI).1.base (by omega), ?_, (uh HF1).1.trans (uh HI).2.2 (fun _ _ h => h)⟩
   rw [(uh HI).2.1, List.take_length]
   rfl
set_option linter.unusedSimpArgs false
def fieldsD (used gone : Bool) (l : List Fld) : List PT := ⟨n_fields, 4, l.length, [], if 32 < l.length then 2 else if used = false ∧ 0 < l.length then 4 else 0⟩ :: fieldsP1 (if gone then 3 else 2) ⟨#[]⟩ l
def prevN (l : List Fld) (i : Nat) : ByteArray := if i = 0 then ⟨#[]⟩ else (l.getD (i - 1) ⟨⟨#[]⟩, 0, ⟨#[]⟩, 0, 0⟩).name
theorem fieldsP1_snoc (last : Nat) (f : Fld) : ∀ (l : List Fld) (a : ByteArray), fieldsP1 last a (l ++ [f]) = fieldsP1 last a l ++ namedP last (if l = [] then a else (l.getLastD f).name) f
 | [], a => by simp [fieldsP1]
 | x :: r, a => by
  have ih := fieldsP1_snoc last f r x.name
  rw [List.cons_append, fieldsP1, fieldsP1, ih, List.append_assoc]
  cases r with
  | nil => simp [fieldsP1]
  | cons y s => simp [List.getLastD]
theorem fieldsP1_take (last : Nat) (l : List Fld) (i : Nat) (h : i < l.length) : fieldsP1 last ⟨#[]⟩ (l.take (i + 1)) = fieldsP1 last ⟨#[]⟩ (l.take i) ++ namedP last (prevN l i) l[i] := by
 rw [List.take_add_one, List.getElem?_eq_getElem h, Option.toList_some, fieldsP1_snoc]
 congr 2
 unfold prevN
 cases i with
 | zero => simp
 | succ k =>
  have hk : k < l.length := by omega
  have hne : l.take (k + 1) ≠ [] := fun e => by
   have h2 : (l.take (k + 1)).length = 0 := by rw [e]; rfl
   rw [List.length_take] at h2
   omega
  rw [if_neg hne, if_neg (by omega), Nat.add_sub_cancel]
  have e1 : (l.take (k + 1)).getLastD l[k + 1] = l[k] := by
   rw [List.take_add_one, List.getElem?_eq_getElem hk, Option.toList_some]
   exact List.getLastD_concat ..
  rw [e1]
  simp [List.getD, hk]
theorem name_wy (a v : ByteArray) (i : Nat) (h0 : i = 0 → a = ⟨#[]⟩) : fb [fun v => szN 1 64 v.size, abN a] v = if szN 1 64 v.size = 0 ∧ 0 < i ∧ sle v a = true then 6 else szN 1 64 v.size := by
 simp only [fb]
 by_cases hz : szN 1 64 v.size = 0
 ·rw [if_pos hz]
  by_cases hi : i = 0
  ·have ha := h0 hi
   subst ha
   have hs : 1 ≤ v.size := by
    unfold szN at hz
    split at hz
    ·cases hz
    ·split at hz
     ·cases hz
     ·omega
   have hsl : sle v ⟨#[]⟩ = false := by
    unfold sle
    have e0 : (ByteArray.mk #[]).toList = [] := by rw [Lib.toList_data]
    have e1 : v.toList ≠ [] := by
     rw [Lib.toList_data]
     intro e
     have h3 : v.data.size = 0 := by rw [← Array.length_toList, e]; rfl
     have h2 : v.data.size = v.size := rfl
     omega
    rw [e0, show Op.bytesLess v.toList [] = false by cases v.toList <;> rfl]
    simpa using e1
   have e6 : abN ⟨#[]⟩ v = 0 := by unfold abN; rw [hsl]; rfl
   rw [e6, hz]
   simp [hi]
  ·have hi' : 0 < i := by omega
   by_cases hs : sle v a = true
   ·have e6 : abN a v = 6 := by unfold abN; rw [if_pos hs]
    rw [e6, hz]
    simp [hi', hs]
   ·have e6 : abN a v = 0 := by unfold abN; rw [if_neg hs]
    rw [e6, hz]
    simp [hs]
 ·rw [if_neg hz, if_neg (fun h => hz h.1)]
def kB (k v u : Nat) (t : ByteArray) : Bool := decide ((k = 1 ∧ (v ≠ 0 ∨ u ≠ 0)) ∨ (k = 2 ∧ t.toList ≠ []) ∨ (k = 3 ∧ ((v ≠ 0 ∨ u ≠ 0) ∨ t.toList ≠ [])))
def kW (b : Bool) : Nat := if b = true then 4 else 0
theorem kind_wy (f : Fld) (gone : Bool) : fb [wiN 1 (if gone then 3 else 2) 5, unN f.beside] f.kind = if f.kind < 1 ∨ 3 < f.kind ∨ (f.kind = 3 ∧ gone = false) then 5 else kW (kB f.kind f.value f.unit f.text) := by
 obtain ⟨nm, k, t, v, u⟩ := f
 have hfb : ∀ a b : Nat, fb [fun _ : Nat => a, fun _ : Nat => b] k = if a = 0 then b else a := fun a b => by
  simp only [fb]
  by_cases h : a = 0 <;> by_cases h2 : b = 0 <;> simp [h, h2]
 have e0 : fb [wiN 1 (if gone then 3 else 2) 5, unN (Fld.beside ⟨nm, k, t, v, u⟩)] k = if wiN 1 (if gone then 3 else 2) 5 k = 0 then unN (Fld.beside ⟨nm, k, t, v, u⟩) k else wiN 1 (if gone then 3 else 2) 5 k := hfb _ _
 show fb [wiN 1 (if gone then 3 else 2) 5, unN (Fld.beside ⟨nm, k, t, v, u⟩)] k = _
 rw [e0]
 dsimp only
 by_cases hb : k < 1 ∨ 3 < k ∨ (k = 3 ∧ gone = false)
 ·rw [if_pos hb]
  have e1 : wiN 1 (if gone then 3 else 2) 5 k = 5 := by
   unfold wiN
   cases gone
   ·rw [if_pos (by simp; omega)]
   ·have hb2 : k < 1 ∨ 3 < k := by
     rcases hb with h | h | h
     ·exact .inl h
     ·exact .inr h
     ·exact absurd h.2 (by decide)
    rw [if_pos (show k < 1 ∨ (if true = true then 3 else 2) < k from hb2)]
  rw [e1]
  rfl
 ·rw [if_neg hb]
  have e1 : wiN 1 (if gone then 3 else 2) 5 k = 0 := by
   unfold wiN
   cases gone
   ·rw [if_neg (show ¬ (k < 1 ∨ (if false = true then 3 else 2) < k) from fun h => hb (by
     have h2 : k < 1 ∨ 2 < k := h
     rcases (by omega : k < 1 ∨ 3 < k ∨ k = 3) with h3 | h3 | h3
     ·exact .inl h3
     ·exact .inr (.inl h3)
     ·exact .inr (.inr ⟨h3, rfl⟩)))]
   ·rw [if_neg (show ¬ (k < 1 ∨ (if true = true then 3 else 2) < k) from fun h => hb (by
     have h2 : k < 1 ∨ 3 < k := h
     rcases h2 with h3 | h3
     ·exact .inl h3
     ·exact .inr (.inl h3)))]
  rw [e1, if_pos rfl]
  have e2 : Fld.beside ⟨nm, k, t, v, u⟩ = kB k v u t := by
   unfold Fld.beside kB
   dsimp only
   apply decide_eq_decide.2
   rcases (by omega : k = 1 ∨ k = 2 ∨ k = 3) with rfl | rfl | rfl
   ·simp
   ·simp
   ·simp [or_comm]
  rw [e2]
  unfold unN kW
  rfl
set_option linter.unusedSimpArgs false
theorem wpList_at {P : Program} {ops : Array Oper} {Q : Exit → Act → World → Prop} {a : Act} {w : World} {rest : List Oper} (k : Nat) {x1 x2 x3 x4 x5} (h : wpList P ops Q (Oper.mk (some k) x1 x2 x3 x4 x5 :: rest) a w) : wpList P ops Q (Oper.mk (some k) x1 x2 x3 x4 x5 :: rest) a w := h
theorem wpList_stN' {P : Program} {ops : Array Oper} {Q : Exit → Act → World → Prop} {a : Act} {w : World} {rest : List Oper} {x1 x2 x3 x4 x5} (h : wpList P ops Q (Oper.mk none x1 x2 x3 x4 x5 :: rest) a w) : wpList P ops Q (Oper.mk none x1 x2 x3 x4 x5 :: rest) a w := h
theorem wpList_appY {P : Program} {w w' : World} {ops : Array Oper} {rest : List Oper} {o : Oper} {a : Act} {Q : Exit → Act → World → Prop} (hgd : o.guard = none) (s x : Operand) (t u : TypeId)
  (ho : o.op = .call { callee := .builtin .append, args := #[s, x], argTypes := #[t, u] }) (vs vx v' : Value) (hs : a.eval s = vs) (hx : a.eval x = vx) (hr : (Builtin.append_ #[t, u] o.type #[vs, vx]).run P w = .ok v' w')
  (h : wpList P ops Q rest (a.put o.dst v') w') : wpList P ops Q (o :: rest) a w := by
 refine wpList_plain hgd fun K hK => ?_
 unfold Oper.wp execOp
 simp only [ho, resolve, invoke, builtin, Sem.run_bind, Sem.run_pure, Result.andThen_ok, List.map_toArray, List.map_cons, List.map_nil, hs, hx, hr]
 exact hK _ _ h
theorem box_st2 {w' : World} {b : Nat} (olds news : List Value) (hb : w'.heap[b]? = some (.cells olds.toArray 110)) (ho : olds.length = 5) (hl : news.length = 5) (h1 : ∀ v ∈ news, v.oneCell' = true) :
  ∃ W4, (Instr.storeAt 110 (.pointer (some ⟨b, 0, none⟩)) (.agg news.toArray)).run Tryz.prog w' = .ok () W4 ∧ W4.heap[b]? = some (.cells news.toArray 110) ∧ Fr (fun k => k = b) w' W4 :=
 st_all (P := Tryz.prog) (ty := 110) olds news hb (by rw [ho, hl]) (by rw [hl]; exact Tryz.sizePt) h1
theorem tE {t : ByteArray} (h : t.toList = []) : (t.toList == []) = true := by simp [h]
theorem tE2 {t : ByteArray} (h : t.toList = []) : (t.toList != []) = false := by simp [h]
theorem tN {t : ByteArray} (h : ¬ t.toList = []) : (t.toList == []) = false := by simp [h]
theorem tN2 {t : ByteArray} (h : ¬ t.toList = []) : (t.toList != []) = true := by simp [h]
theorem gwhyN (nm : ByteArray) (k u wy r z : Int) (xo : Option Addr) (n xc : Nat) (so : Bool) (w : World) (hz : (if so = true then r else wy) = z) :
  Calls Tryz.prog 89 #[.agg #[.string nm, .int .i64 k, .int .u64 u, .slice xo n xc, .int .i64 wy], .bool so, .int .i64 r] w fun e w' => e = .returned (.agg #[.string nm, .int .i64 k, .int .u64 u, .slice xo n xc, .int .i64 z]) ∧ Fr (fun _ => False) w w' := by
 rw [← hz]
 exact gwhy_any nm k u wy r xo n xc so w
theorem gonlyN (nm : ByteArray) (v z : Nat) (used : Bool) (hv : v < 4294967296) (w : World) (hz : (if used = false ∧ v ≠ 0 then 4 else 0) = z) :
  Calls Tryz.prog 90 #[.string nm, .int .u32 (v : Nat), .bool used] w fun e w' => e = .returned (.agg #[.string nm, .int .i64 4, .int .u64 (v : Nat), .slice none 0 0, .int .i64 (z : Nat)]) ∧ Fr (fun _ => False) w w' := by
 have e : (if used = false ∧ v ≠ 0 then (4 : Int) else 0) = (z : Int) := by rw [← hz]; split <;> rfl
 rw [← e]
 exact gonly_any nm v used hv w
theorem PL.formz {w : World} {base : Nat} {v : Value} {L : List PV} (h : PL w base v L) : ∃ ao cap, v = .slice ao L.length cap ∧ (ao = none → cap = 0) := by
 rcases h.row.2 with ⟨e, e2⟩ | ⟨g, cap, cur, e, _⟩
 ·have : L.length = 0 := e2
  exact ⟨none, 0, by rw [e, this], fun _ => rfl⟩
 ·exact ⟨some ⟨g, 0, none⟩, cap, e, fun e => by cases e⟩
def FieldsC : Prop := ∀ (xo : Option Addr) (xc : Nat) (l : List Fld) (used gone : Bool) (w : World), FdI w (.slice xo l.length xc) l → (∀ f ∈ l, f.name.size < 140737488355000 ∧ f.text.size < 140737488355000) → l.length ≤ 1048576 →
  Calls Tryz.prog 92 #[.slice xo l.length xc, .bool used, .bool gone] w fun e w' => ∃ v L, e = .returned v ∧ PL w' w.heap.size v L ∧ L.map PV.p = fieldsD used gone l ∧ L.length ≤ 4 * l.length + 1 ∧ Bl 0 w.heap.size L ∧ Fr (fun _ => False) w w'
theorem PL.add2 {w : World} {base : Nat} {v : Value} {L : List PV} (h : PL w base v L) (hb : base ≤ w.heap.size) (X : List PV) (hX : ∀ q ∈ X, q.In w) (hfar : ∀ q ∈ X, q.far (fun g => v.ownBlock = some g)) (hn : L.length + X.length ≤ 16777216) :
  ∃ ao cap w', (Builtin.append_ #[74, 74] 74 #[v, .slice (some ⟨w.heap.size, 0, none⟩) X.length X.length]).run Tryz.prog (w.alloc (.cells (X.flatMap PV.cs).toArray 110)) = .ok (.slice ao (L.length + X.length) cap) w' ∧ PL w' base (.slice ao (L.length + X.length) cap) (L ++ X) ∧ Fr (fun g => v.ownBlock = some g) w w' ∧
   ∀ g, (Value.slice ao (L.length + X.length) cap).ownBlock = some g → v.ownBlock = some g ∨ w.heap.size < g := by
 have hl := PL.lit w base X hb hX (by omega)
 obtain ⟨ao, cap, w', h1, h2, h3, h4⟩ := (h.fr0 (box1 w (.cells (X.flatMap PV.cs).toArray 110))).app (by simp; omega) (some ⟨w.heap.size, 0, none⟩) X.length X hl.cells (fun q hq => ⟨(hX q hq).fr0 (box1 w _), hfar q hq⟩) hn (fun e => by cases e)
 refine ⟨ao, cap, w', h1, h2, ((box1 w _).mono (fun _ _ h => h.elim)).trans h3 (fun _ _ h => h), fun g hg => ?_⟩
 rcases h4 with h4 | h4
 ·exact .inl (h4.symm.trans hg)
 ·rw [h4] at hg
  have e : (w.alloc (.cells (X.flatMap PV.cs).toArray 110)).heap.size = g := by injection hg
  exact .inr (by simp at e; omega)
def usesL (op : Nat) : List Value :=
 if op = 1 then [.bool false, .bool false, .bool true, .bool true, .bool false] else if op = 2 then [.bool true, .bool true, .bool false, .bool true, .bool false]
 else if op = 3 ∨ op = 4 ∨ op = 6 then [.bool true, .bool true, .bool false, .bool false, .bool false] else [.bool true, .bool false, .bool false, .bool false, .bool (decide (op = 7))]
theorem ret_boxT {P : Program} {fn : Func} {R : Ending → World → Prop} {p : Tmp} {ty : TypeId} {tmps : Array Value} {w0 : World} (h : fn.results = #[.cell p ty]) (cs : List Value) (d : TypeDesc) (hp : tmps.getD p undef = .pointer (some ⟨w0.heap.size, 0, none⟩))
  (hu : P.underlying ty = some d) (hd : d.isRow = true) (hi : (P.info? ty).map (·.size) = some cs.length) (hR : R (.returned (.agg cs.toArray)) (w0.alloc (.cells cs.toArray ty))) : bodyPost P fn R .ret ⟨tmps, []⟩ (w0.alloc (.cells cs.toArray ty)) := ret_boxP h cs d hp hu hd hi hR
theorem Tryz.sizeUs : (Tryz.prog.info? 177).map (·.size) = some 5 := by kernel_rfl
set_option maxRecDepth 100000 in
theorem guses_1 (w : World) : Calls Tryz.prog 88 #[.int .u8 1] w fun e w' => e = .returned (.agg (usesL 1).toArray) ∧ Fr (fun _ => False) w w' := by
 go_enter Tryz.func88, Tryz.ntmps88
 go_wp2_with fail
 exact ret_boxT rfl (usesL 1) _ (by simp) Tryz.underlying177 rfl Tryz.sizeUs ⟨rfl, box1 w _⟩
set_option maxRecDepth 100000 in
theorem guses_2 (w : World) : Calls Tryz.prog 88 #[.int .u8 2] w fun e w' => e = .returned (.agg (usesL 2).toArray) ∧ Fr (fun _ => False) w w' := by
 go_enter Tryz.func88, Tryz.ntmps88
 go_wp2_with fail
 exact ret_boxT rfl (usesL 2) _ (by simp) Tryz.underlying177 rfl Tryz.sizeUs ⟨rfl, box1 w _⟩
set_option maxRecDepth 100000 in
theorem guses_3 (w : World) : Calls Tryz.prog 88 #[.int .u8 3] w fun e w' => e = .returned (.agg (usesL 3).toArray) ∧ Fr (fun _ => False) w w' := by
 go_enter Tryz.func88, Tryz.ntmps88
 go_wp2_with fail
 exact ret_boxT rfl (usesL 3) _ (by simp) Tryz.underlying177 rfl Tryz.sizeUs ⟨rfl, box1 w _⟩
set_option maxRecDepth 100000 in
theorem guses_4 (w : World) : Calls Tryz.prog 88 #[.int .u8 4] w fun e w' => e = .returned (.agg (usesL 4).toArray) ∧ Fr (fun _ => False) w w' := by
 go_enter Tryz.func88, Tryz.ntmps88
 go_wp2_with fail
 exact ret_boxT rfl (usesL 4) _ (by simp) Tryz.underlying177 rfl Tryz.sizeUs ⟨rfl, box1 w _⟩
set_option maxRecDepth 100000 in
theorem guses_6 (w : World) : Calls Tryz.prog 88 #[.int .u8 6] w fun e w' => e = .returned (.agg (usesL 6).toArray) ∧ Fr (fun _ => False) w w' := by
 go_enter Tryz.func88, Tryz.ntmps88
 go_wp2_with fail
 exact ret_boxT rfl (usesL 6) _ (by simp) Tryz.underlying177 rfl Tryz.sizeUs ⟨rfl, box1 w _⟩
set_option maxRecDepth 100000 in
theorem guses_7 (w : World) : Calls Tryz.prog 88 #[.int .u8 7] w fun e w' => e = .returned (.agg (usesL 7).toArray) ∧ Fr (fun _ => False) w w' := by
 go_enter Tryz.func88, Tryz.ntmps88
 go_wp2_with fail
 exact ret_boxT rfl (usesL 7) _ (by simp) Tryz.underlying177 rfl Tryz.sizeUs ⟨rfl, box1 w _⟩
set_option maxRecDepth 100000 in
theorem guses_no (op : Nat) (w : World) (h1 : op ≠ 1) (h2 : op ≠ 2) (h3 : op ≠ 3) (h4 : op ≠ 4) (h6 : op ≠ 6) (h7 : op ≠ 7) : Calls Tryz.prog 88 #[.int .u8 (op : Nat)] w fun e w' => e = .returned (.agg (usesL op).toArray) ∧ Fr (fun _ => False) w w' := by
 have e1 : ((op : Int) == 1) = false := by simp; omega
 have e2 : ((op : Int) == 2) = false := by simp; omega
 have e3 : ((op : Int) == 3) = false := by simp; omega
 have e4 : ((op : Int) == 4) = false := by simp; omega
 have e6 : ((op : Int) == 6) = false := by simp; omega
 have e7 : ((op : Int) == 7) = false := by simp; omega
 have eL : usesL op = [.bool true, .bool false, .bool false, .bool false, .bool false] := by
  unfold usesL
  rw [if_neg h1, if_neg h2, if_neg (by omega), decide_eq_false h7]
 rw [eL]
 go_enter Tryz.func88, Tryz.ntmps88
 go_wp2_with fail
 exact ret_boxT rfl [.bool true, .bool false, .bool false, .bool false, .bool false] _ (by simp) Tryz.underlying177 rfl Tryz.sizeUs ⟨rfl, box1 w _⟩
theorem guses_any (op : Nat) (w : World) : Calls Tryz.prog 88 #[.int .u8 (op : Nat)] w fun e w' => e = .returned (.agg (usesL op).toArray) ∧ Fr (fun _ => False) w w' := by
 by_cases h1 : op = 1
 ·subst h1; exact guses_1 w
 by_cases h2 : op = 2
 ·subst h2; exact guses_2 w
 by_cases h3 : op = 3
 ·subst h3; exact guses_3 w
 by_cases h4 : op = 4
 ·subst h4; exact guses_4 w
 by_cases h6 : op = 6
 ·subst h6; exact guses_6 w
 by_cases h7 : op = 7
 ·subst h7; exact guses_7 w
 exact guses_no op w h1 h2 h3 h4 h6 h7
set_option linter.unusedSimpArgs false
def Peq (A B : List PT) : Prop := ∀ (out : List Nat) (X : List PT), putP out (A ++ X) = putP out (B ++ X)
theorem Peq.refl (A : List PT) : Peq A A := fun _ _ => rfl
theorem Peq.trans {A B C : List PT} (h : Peq A B) (k : Peq B C) : Peq A C := fun out X => (h out X).trans (k out X)
theorem Peq.ahead {A B : List PT} (h : Peq A B) : ∀ C : List PT, Peq (C ++ A) (C ++ B)
 | [] => h
 | p :: r => fun out X => by
  have ih := h.ahead r
  simp only [List.cons_append]
  unfold putP
  by_cases hw : p.wy ≠ 0
  ·rw [if_pos hw, if_pos hw]
  ·rw [if_neg hw, if_neg hw]
   exact ih _ X
theorem Peq.behind {A B : List PT} (h : Peq A B) (C : List PT) : Peq (A ++ C) (B ++ C) := fun out X => by
 rw [List.append_assoc, List.append_assoc]
 exact h out (C ++ X)
theorem Peq.wrong {p : PT} (h : p.wy ≠ 0) (a b : List PT) : Peq (p :: a) (p :: b) := fun out X => by
 simp only [List.cons_append]
 unfold putP
 rw [if_pos h, if_pos h]
theorem Peq.put {A B : List PT} (h : Peq A B) (out : List Nat) : putP out A = putP out B := by
 have := h out []
 simpa using this
theorem fb_two {α : Type} (r q : α → Nat) (x : α) : fb [r, q] x = if r x = 0 then q x else r x := by
 simp only [fb]
 by_cases h : r x = 0 <;> by_cases h2 : q x = 0 <;> simp [h, h2]
theorem wiI_nat (n : Nat) (M : Int) (z : Nat) : wiI 0 M z (n : Int) = if M < (n : Int) then z else 0 := by
 unfold wiI
 by_cases h : M < (n : Int)
 ·rw [if_pos (.inr h), if_pos h]
 ·rw [if_neg (by omega), if_neg h]
theorem cnt_wy (n : Nat) (M : Int) : fb (lrs 32 [wiI 0 M 4]) (n : Int) = if 32 < n then 2 else if M < (n : Int) then 4 else 0 := by
 unfold lrs
 rw [fb_two, wiI_nat, wiI_nat]
 by_cases h : 32 < n
 ·rw [if_pos (show (32 : Int) < (n : Int) by omega), if_neg (by decide), if_pos h]
 ·rw [if_neg (show ¬ (32 : Int) < (n : Int) by omega), if_pos rfl, if_neg h]
theorem fields_peq_used (gone : Bool) (l : List Fld) : Peq (fieldsD true gone l) (fieldsP (if gone then 3 else 2) [wiI 0 32 4] l) := by
 unfold fieldsD fieldsP
 rw [cnt_wy]
 have e : (if 32 < l.length then 2 else if (32 : Int) < (l.length : Int) then 4 else 0) = (if 32 < l.length then 2 else if true = false ∧ 0 < l.length then 4 else 0 : Nat) := by
  by_cases h : 32 < l.length
  ·rw [if_pos h, if_pos h]
  ·rw [if_neg h, if_neg h, if_neg (by omega), if_neg (fun k => by cases k.1)]
 rw [e]
 exact Peq.refl _
theorem fields_peq_any (gone : Bool) (l : List Fld) : Peq (fieldsD true gone l) (fieldsP (if gone then 3 else 2) [] l) := by
 unfold fieldsD fieldsP
 have e : fb (lrs 32 []) (l.length : Int) = (if 32 < l.length then 2 else if true = false ∧ 0 < l.length then 4 else 0 : Nat) := by
  unfold lrs
  rw [fb_one, wiI_nat]
  by_cases h : 32 < l.length
  ·rw [if_pos (by omega), if_pos h]
  ·rw [if_neg (by omega), if_neg h, if_neg (fun k => by cases k.1)]
 rw [e]
 exact Peq.refl _
theorem fields_peq_unused (gone : Bool) (last : Nat) (l : List Fld) : Peq (fieldsD false gone l) (fieldsP last [wiI 0 0 4] l) := by
 unfold fieldsD fieldsP
 cases l with
 | nil => exact Peq.refl _
 | cons a r =>
  have hn : 0 < (a :: r).length := by simp
  obtain ⟨n, hl⟩ : ∃ n, (a :: r).length = n := ⟨_, rfl⟩
  rw [hl] at hn ⊢
  rw [cnt_wy]
  have e : (if 32 < n then 2 else if (0 : Int) < (n : Int) then 4 else 0) = (if 32 < n then 2 else if false = false ∧ 0 < n then 4 else 0 : Nat) := by
   by_cases h : 32 < n
   ·rw [if_pos h, if_pos h]
   ·rw [if_neg h, if_neg h, if_pos (by omega), if_pos ⟨rfl, hn⟩]
  rw [e]
  refine Peq.wrong ?_ _ _
  show (if 32 < n then 2 else if false = false ∧ 0 < n then 4 else 0 : Nat) ≠ 0
  by_cases h : 32 < n
  ·rw [if_pos h]; decide
  ·rw [if_neg h, if_pos ⟨rfl, hn⟩]; decide
def us (op : Nat) : Bool × Bool × Bool × Bool × Bool :=
 if op = 1 then (false, false, true, true, false) else if op = 2 then (true, true, false, true, false) else if op = 3 ∨ op = 4 ∨ op = 6 then (true, true, false, false, false) else (true, false, false, false, decide (op = 7))
theorem usesL_us (op : Nat) : usesL op = [.bool (us op).1, .bool (us op).2.1, .bool (us op).2.2.1, .bool (us op).2.2.2.1, .bool (us op).2.2.2.2] := by
 unfold usesL us
 repeat' split
 all_goals rfl
def onlyD (nm : ByteArray) (v : Nat) (used : Bool) : PT := ⟨nm, 4, v, [], if used = false ∧ v ≠ 0 then 4 else 0⟩
def requestD (v : RqM) : List PT :=
 idP v.cl v.nu ++ ([⟨n_actor, 4, v.ac, [], 0⟩, ⟨n_op, 1, v.op, [], wiN 1 7 5 v.op⟩, onlyD n_record v.re (us v.op).1, ⟨n_version, 4, v.ve, [], if v.op = 6 ∧ 1 < v.ve then 4 else (onlyD n_version v.ve (us v.op).2.1).wy⟩, onlyD n_ward v.wa (us v.op).2.2.1, onlyD n_owner v.ow (us v.op).2.2.1] ++ (fieldsD (us v.op).2.2.2.1 (decide (v.op = 2)) v.fs ++ [⟨n_reason, 6, 0, bytesOf v.rs, if szN 0 64 v.rs.size = 0 then (if (us v.op).2.2.2.2 = false ∧ v.rs.size ≠ 0 then 4 else 0) else szN 0 64 v.rs.size⟩]))
theorem only_all (nm : ByteArray) (v : Nat) (h : v < 4294967296) : onlyD nm v true = ⟨nm, 4, v, [], wiN 0 4294967295 4 v⟩ := by
 unfold onlyD wiN
 rw [if_neg (fun h => by cases h.1), if_neg (by omega)]
theorem only_none (nm : ByteArray) (v : Nat) : onlyD nm v false = ⟨nm, 4, v, [], wiN 0 0 4 v⟩ := by
 unfold onlyD wiN
 by_cases h : v = 0
 ·rw [if_neg (fun k => k.2 h), if_neg (by omega)]
 ·rw [if_pos ⟨rfl, h⟩, if_pos (.inr (by omega))]
theorem rsN_any (n : Int) (rs : ByteArray) : fb [fun v : ByteArray => szN 0 64 v.size, rsN n] rs = if szN 0 64 rs.size = 0 then (if n < (rs.size : Int) then 4 else 0) else szN 0 64 rs.size := by
 rw [fb_two]
 unfold rsN
 rw [wiI_nat]
theorem rsn_none (rs : ByteArray) : (if szN 0 64 rs.size = 0 then (if false = false ∧ rs.size ≠ 0 then 4 else 0) else szN 0 64 rs.size : Nat) = fb [fun v : ByteArray => szN 0 64 v.size, rsN 0] rs := by
 rw [rsN_any]
 by_cases h : rs.size = 0
 ·rw [if_neg (show ¬ (false = false ∧ rs.size ≠ 0) from fun k => k.2 h), if_neg (show ¬ (0 : Int) < (rs.size : Int) by omega)]
 ·rw [if_pos (⟨rfl, h⟩ : false = false ∧ rs.size ≠ 0), if_pos (show (0 : Int) < (rs.size : Int) by omega)]
theorem rsn_all (rs : ByteArray) : (if szN 0 64 rs.size = 0 then (if true = false ∧ rs.size ≠ 0 then 4 else 0) else szN 0 64 rs.size : Nat) = fb [fun v : ByteArray => szN 0 64 v.size, rsN 64] rs := by
 rw [rsN_any, if_neg (show ¬ (true = false ∧ rs.size ≠ 0) from fun k => by cases k.1)]
 by_cases h : szN 0 64 rs.size = 0
 ·rw [if_pos h, if_pos h]
  have : ¬ (64 : Int) < (rs.size : Int) := by
   unfold szN at h
   split at h
   ·cases h
   ·omega
  rw [if_neg this]
 ·rw [if_neg h, if_neg h]
theorem request_peq (v : RqM) (hv : v.ok) : Peq (requestD v) (requestP v) := by
 obtain ⟨cl, nu, ac, op, re, ve, wa, ow, fs, rs⟩ := v
 obtain ⟨_, _, _, _, h5, h6, h7, h8, _⟩ := hv
 simp only at h5 h6 h7 h8
 unfold requestD requestP
 refine Peq.ahead ?_ _
 dsimp only
 rcases (by omega : op = 1 ∨ op = 2 ∨ op = 3 ∨ op = 4 ∨ op = 5 ∨ op = 6 ∨ op = 7 ∨ (op = 0 ∨ 7 < op)) with rfl | rfl | rfl | rfl | rfl | rfl | rfl | hno
 ·show Peq ([_, _, onlyD n_record re false, ⟨n_version, 4, ve, [], if (1 : Nat) = 6 ∧ 1 < ve then 4 else (onlyD n_version ve false).wy⟩, onlyD n_ward wa true, onlyD n_owner ow true] ++ (fieldsD true false fs ++ [⟨n_reason, 6, 0, bytesOf rs, if szN 0 64 rs.size = 0 then (if false = false ∧ rs.size ≠ 0 then 4 else 0) else szN 0 64 rs.size⟩])) _
  rw [only_none, only_none, only_all _ _ h7, only_all _ _ h8, rsn_none, if_neg (fun k => by cases k.1)]
  exact Peq.ahead ((fields_peq_used false fs).behind _) _
 ·show Peq ([_, _, onlyD n_record re true, ⟨n_version, 4, ve, [], if (2 : Nat) = 6 ∧ 1 < ve then 4 else (onlyD n_version ve true).wy⟩, onlyD n_ward wa false, onlyD n_owner ow false] ++ (fieldsD true true fs ++ [⟨n_reason, 6, 0, bytesOf rs, if szN 0 64 rs.size = 0 then (if false = false ∧ rs.size ≠ 0 then 4 else 0) else szN 0 64 rs.size⟩])) _
  rw [only_none, only_none, only_all _ _ h5, only_all _ _ h6, rsn_none, if_neg (fun k => by cases k.1)]
  exact Peq.ahead ((fields_peq_used true fs).behind _) _
 ·show Peq ([_, _, onlyD n_record re true, ⟨n_version, 4, ve, [], if (3 : Nat) = 6 ∧ 1 < ve then 4 else (onlyD n_version ve true).wy⟩, onlyD n_ward wa false, onlyD n_owner ow false] ++ (fieldsD false false fs ++ [⟨n_reason, 6, 0, bytesOf rs, if szN 0 64 rs.size = 0 then (if false = false ∧ rs.size ≠ 0 then 4 else 0) else szN 0 64 rs.size⟩])) _
  rw [only_none, only_none, only_all _ _ h5, only_all _ _ h6, rsn_none, if_neg (fun k => by cases k.1)]
  exact Peq.ahead ((fields_peq_unused false 0 fs).behind _) _
 ·show Peq ([_, _, onlyD n_record re true, ⟨n_version, 4, ve, [], if (4 : Nat) = 6 ∧ 1 < ve then 4 else (onlyD n_version ve true).wy⟩, onlyD n_ward wa false, onlyD n_owner ow false] ++ (fieldsD false false fs ++ [⟨n_reason, 6, 0, bytesOf rs, if szN 0 64 rs.size = 0 then (if false = false ∧ rs.size ≠ 0 then 4 else 0) else szN 0 64 rs.size⟩])) _
  rw [only_none, only_none, only_all _ _ h5, only_all _ _ h6, rsn_none, if_neg (fun k => by cases k.1)]
  exact Peq.ahead ((fields_peq_unused false 0 fs).behind _) _
 ·show Peq ([_, _, onlyD n_record re true, ⟨n_version, 4, ve, [], if (5 : Nat) = 6 ∧ 1 < ve then 4 else (onlyD n_version ve false).wy⟩, onlyD n_ward wa false, onlyD n_owner ow false] ++ (fieldsD false false fs ++ [⟨n_reason, 6, 0, bytesOf rs, if szN 0 64 rs.size = 0 then (if false = false ∧ rs.size ≠ 0 then 4 else 0) else szN 0 64 rs.size⟩])) _
  rw [only_none, only_none, only_none, only_all _ _ h5, rsn_none, if_neg (fun k => by cases k.1)]
  exact Peq.ahead ((fields_peq_unused false 0 fs).behind _) _
 ·have e6 : (if (6 : Nat) = 6 ∧ 1 < ve then 4 else (onlyD n_version ve true).wy) = wiN 0 1 4 ve := by
   unfold onlyD wiN
   dsimp only
   by_cases h : 1 < ve
   ·rw [if_pos ⟨rfl, h⟩, if_pos (.inr h)]
   ·rw [if_neg (fun k => h k.2), if_neg (fun k => by cases k.1), if_neg (by omega)]
  show Peq ([_, _, onlyD n_record re true, ⟨n_version, 4, ve, [], if (6 : Nat) = 6 ∧ 1 < ve then 4 else (onlyD n_version ve true).wy⟩, onlyD n_ward wa false, onlyD n_owner ow false] ++ (fieldsD false false fs ++ [⟨n_reason, 6, 0, bytesOf rs, if szN 0 64 rs.size = 0 then (if false = false ∧ rs.size ≠ 0 then 4 else 0) else szN 0 64 rs.size⟩])) _
  rw [e6, only_none, only_none, only_all _ _ h5, rsn_none]
  exact Peq.ahead ((fields_peq_unused false 0 fs).behind _) _
 ·show Peq ([_, _, onlyD n_record re true, ⟨n_version, 4, ve, [], if (7 : Nat) = 6 ∧ 1 < ve then 4 else (onlyD n_version ve false).wy⟩, onlyD n_ward wa false, onlyD n_owner ow false] ++ (fieldsD false false fs ++ [⟨n_reason, 6, 0, bytesOf rs, if szN 0 64 rs.size = 0 then (if true = false ∧ rs.size ≠ 0 then 4 else 0) else szN 0 64 rs.size⟩])) _
  rw [only_none, only_none, only_none, only_all _ _ h5, rsn_all, if_neg (fun k => by cases k.1)]
  exact Peq.ahead ((fields_peq_unused false 0 fs).behind _) _
 ·have hw : (⟨n_op, 1, op, [], wiN 1 7 5 op⟩ : PT).wy ≠ 0 := by
   show wiN 1 7 5 op ≠ 0
   unfold wiN
   rw [if_pos (by omega)]
   decide
  exact Peq.ahead (Peq.wrong hw _ _) [⟨n_actor, 4, ac, [], 0⟩]
set_option linter.unusedSimpArgs false
def spareB (v : MsM) : Bool := (decide (v.kd ≠ 1) && v.rq.is) || (decide (v.kd ≠ 3) && v.an.is) || (decide (v.kd ≠ 5) && v.ev.is) || (decide (v.kd ≠ 6) && v.le != 0) || (decide (v.kd ≠ 4) && v.co != 0) || (decide (v.kd ≠ 2) && decide (v.kd ≠ 4) && !(v.icl == 0 && v.inu == 0))
theorem zEv_isN : zEv.is = false := by decide +kernel
theorem spare_beside (v : MsM) : spareB v = v.beside := by
 obtain ⟨kd, rq, icl, inu, an, co, ev, le⟩ := v
 have h1 := zRq_is
 have h2 := zAn_is
 have h3 := zEv_isN
 unfold spareB MsM.beside MsM.cut MsM.is
 match kd with
 | 0 =>
  dsimp only
  generalize rq.is = a
  generalize an.is = b
  generalize ev.is = c
  generalize (icl == 0 && inu == 0) = d
  generalize (co != 0) = e
  generalize (le != 0) = f
  cases a <;> cases b <;> cases c <;> cases d <;> cases e <;> cases f <;> simp
 | 1 =>
  dsimp only
  generalize rq.is = a
  generalize an.is = b
  generalize ev.is = c
  generalize (icl == 0 && inu == 0) = d
  generalize (co != 0) = e
  generalize (le != 0) = f
  cases a <;> cases b <;> cases c <;> cases d <;> cases e <;> cases f <;> simp [h1]
 | 2 =>
  dsimp only
  generalize rq.is = a
  generalize an.is = b
  generalize ev.is = c
  generalize (icl == 0 && inu == 0) = d
  generalize (co != 0) = e
  generalize (le != 0) = f
  cases a <;> cases b <;> cases c <;> cases d <;> cases e <;> cases f <;> simp
 | 3 =>
  dsimp only
  generalize rq.is = a
  generalize an.is = b
  generalize ev.is = c
  generalize (icl == 0 && inu == 0) = d
  generalize (co != 0) = e
  generalize (le != 0) = f
  cases a <;> cases b <;> cases c <;> cases d <;> cases e <;> cases f <;> simp [h2]
 | 4 =>
  dsimp only
  generalize rq.is = a
  generalize an.is = b
  generalize ev.is = c
  generalize (icl == 0 && inu == 0) = d
  generalize (co != 0) = e
  generalize (le != 0) = f
  cases a <;> cases b <;> cases c <;> cases d <;> cases e <;> cases f <;> simp
 | 5 =>
  dsimp only
  generalize rq.is = a
  generalize an.is = b
  generalize ev.is = c
  generalize (icl == 0 && inu == 0) = d
  generalize (co != 0) = e
  generalize (le != 0) = f
  cases a <;> cases b <;> cases c <;> cases d <;> cases e <;> cases f <;> simp [h3]
 | 6 =>
  dsimp only
  generalize rq.is = a
  generalize an.is = b
  generalize ev.is = c
  generalize (icl == 0 && inu == 0) = d
  generalize (co != 0) = e
  generalize (le != 0) = f
  cases a <;> cases b <;> cases c <;> cases d <;> cases e <;> cases f <;> simp
 | n + 7 =>
  show ((decide (n + 7 ≠ 1) && rq.is) || (decide (n + 7 ≠ 3) && an.is) || (decide (n + 7 ≠ 5) && ev.is) || (decide (n + 7 ≠ 6) && le != 0) || (decide (n + 7 ≠ 4) && co != 0) || (decide (n + 7 ≠ 2) && decide (n + 7 ≠ 4) && !(icl == 0 && inu == 0))) = (rq.is || !(icl == 0 && inu == 0) || an.is || co != 0 || ev.is || le != 0)
  generalize rq.is = a
  generalize an.is = b
  generalize ev.is = c
  generalize (icl == 0 && inu == 0) = d
  generalize (co != 0) = e
  generalize (le != 0) = f
  cases a <;> cases b <;> cases c <;> cases d <;> cases e <;> cases f <;> simp
def answerD (v : AnM) : List PT := (idP v.cl v.nu ++ [⟨n_code, 1, v.co, [], wiN 0 10 5 v.co⟩, ⟨n_record, 4, v.re, [], 0⟩, ⟨n_version, 4, v.ve, [], 0⟩]) ++ (fieldsD true false v.fs ++ histP v.hi)
theorem answer_peq (v : AnM) : Peq (answerD v) (answerP v) := Peq.ahead ((fields_peq_any false v.fs).behind _) _
def eventD (v : EvM) : List PT := (⟨n_place, 4, v.pl, [], 0⟩ :: requestD v.rq) ++ [⟨n_code, 1, v.co, [], wiN 0 10 5 v.co⟩, ⟨n_digest, 6, 0, v.dg, szN 1 32 v.dg.length⟩]
theorem event_peq (v : EvM) (hv : v.ok) : Peq (eventD v) (eventP v) := Peq.behind (Peq.ahead (request_peq v.rq hv.rq) [⟨n_place, 4, v.pl, [], 0⟩]) _
def message2D (v : MsM) : List PT := if v.kd = 1 then requestD v.rq else if v.kd = 2 then idP v.icl v.inu else if v.kd = 3 then answerD v.an else if v.kd = 4 then idP v.icl v.inu ++ [⟨n_busy, 1, v.co, [], wiN 1 15 4 v.co⟩] else if v.kd = 5 then eventD v.ev else if v.kd = 6 then [⟨n_length, 4, v.le, [], 0⟩] else []
def messageD (v : MsM) : List PT := ⟨n_kind, 1, v.kd, [], if v.kd < 1 ∨ 7 < v.kd then 5 else if spareB v = true then 4 else 0⟩ :: message2D v
theorem message2_peq (v : MsM) (hv : v.ok) : Peq (message2D v) (message2P v) := by
 unfold message2D message2P
 by_cases k1 : v.kd = 1
 ·rw [if_pos k1, if_pos k1]; exact request_peq _ hv.rq
 rw [if_neg k1, if_neg k1]
 by_cases k2 : v.kd = 2
 ·rw [if_pos k2, if_pos k2]; exact Peq.refl _
 rw [if_neg k2, if_neg k2]
 by_cases k3 : v.kd = 3
 ·rw [if_pos k3, if_pos k3]; exact answer_peq _
 rw [if_neg k3, if_neg k3]
 by_cases k4 : v.kd = 4
 ·rw [if_pos k4, if_pos k4]; exact Peq.refl _
 rw [if_neg k4, if_neg k4]
 by_cases k5 : v.kd = 5
 ·rw [if_pos k5, if_pos k5]; exact event_peq _ hv.ev
 rw [if_neg k5, if_neg k5]
 exact Peq.refl _
theorem message_peq (v : MsM) (hv : v.ok) : Peq (messageD v) (messageP v) := by
 unfold messageD messageP
 have e : (if v.kd < 1 ∨ 7 < v.kd then 5 else if spareB v = true then 4 else 0 : Nat) = fb [wiN 1 7 5, unN v.beside] v.kd := by
  rw [fb_two, spare_beside]
  unfold wiN unN
  by_cases h : v.kd < 1 ∨ 7 < v.kd
  ·rw [if_pos h, if_pos h, if_neg (by decide)]
  ·rw [if_neg h, if_neg h, if_pos rfl]
 rw [e]
 exact Peq.ahead (message2_peq v hv) [⟨n_kind, 1, v.kd, [], fb [wiN 1 7 5, unN v.beside] v.kd⟩]
theorem make_bytes (n : Nat) (w : World) (hn : n ≤ 8) : ∃ w', (Instr.makeSlice 23 (.int .i64 (n : Int)) (.int .i64 (n : Int))).run Tryz.prog w = .ok (.slice (some ⟨w.heap.size, 0, none⟩) n n) w' ∧
  (∀ j, j < n → w'.cell? ⟨w.heap.size, j, none⟩ = some (.int .u8 0)) ∧ (∀ j, j < n → w'.frozen? ⟨w.heap.size, j, none⟩ = false) ∧ Fr (fun _ => False) w w' ∧ ∃ xs, w'.ownsRow w.heap.size 5 1 (.slice (some ⟨w.heap.size, 0, none⟩) n n) n xs := by
 have hz' : (Tryz.prog.info? 5).bind (·.zero) = some (.int .u8 0) := by kernel_rfl
 have hs' : (Tryz.prog.info? 5).map (·.size) = some 1 := by kernel_rfl
 have hb' : (Tryz.prog.info? 5).map (·.bytes) = some 1 := by kernel_rfl
 obtain ⟨i, hi, hz⟩ := Option.bind_eq_some_iff.1 hz'
 rw [hi] at hs' hb'
 have hs : i.size = 1 := by simpa using hs'
 have hb : i.bytes = 1 := by simpa using hb'
 obtain ⟨w', hr, ho, hg⟩ := run_makeSlice_full (P := Tryz.prog) w w.heap.size 23 5 i (.int .u8 0) 1 Tryz.underlying23 hi hz hs .i64 .i64 n (by omega) (by rw [hb]; omega) (by simp only [maxLen]; omega) (Nat.le_refl _)
 refine ⟨w', hr, fun j hj => ?_, fun j hj => ?_, (Fr.refl _ _).grown hg (fun _ h => by cases h), _, ho⟩
 ·have h := ho.cells (g := w.heap.size) rfl j (.int .u8 0) (by simp [madeCells, hj, Value.cells, Nat.mod_one])
  have e : (⟨w.heap.size, 0, none⟩ : Addr).add j = ⟨w.heap.size, 0 + j, none⟩ := by unfold Addr.add; split <;> simp_all
  rw [e, Nat.zero_add] at h
  exact h
 ·exact ho.frozenAt j
def NumI (w wr : World) (n v k : Nat) : Prop :=
 (∀ j, j < n → wr.cell? ⟨w.heap.size, j, none⟩ = some (if n - 1 - j < k then B (v / 256 ^ (n - 1 - j)) else .int .u8 0)) ∧ (∀ j, j < n → wr.frozen? ⟨w.heap.size, j, none⟩ = false) ∧ Fr (fun _ => False) w wr ∧ ∃ xs, wr.ownsRow w.heap.size 5 1 (.slice (some ⟨w.heap.size, 0, none⟩) n n) n xs
theorem NumI.step {w wr : World} {m v k : Nat} (h : NumI w wr (m + 1 + k) v k) : NumI w (wr.setCell ⟨w.heap.size, m, none⟩ (B (v / 256 ^ k))) (m + 1 + k) v (k + 1) := by
 obtain ⟨hc, hz, hf, xs, ho⟩ := h
 refine ⟨fun j hj => ?_, fun j hj => by rw [World.frozen?_setCell]; exact hz j hj, Fr.setCell hf (.inr (Nat.le_refl _)) _, _, (ho.stored m _).1⟩
 by_cases e : j = m
 ·subst e
  rw [World.cell?_setCell_same _ _ _ (hc j hj), if_pos (by omega), show j + 1 + k - 1 - j = k from by omega]
 ·rw [World.cell?_setCell_other _ _ _ _ (by intro h; injection h with _ h2 _; exact e h2.symm), hc j hj]
  by_cases h1 : m + 1 + k - 1 - j < k
  ·rw [if_pos h1, if_pos (by omega)]
  ·rw [if_neg h1, if_neg (by omega)]
theorem NumI.own {w wr : World} {n v : Nat} (h : NumI w wr n v n) : wr.ownsRow w.heap.size 5 1 (.slice (some ⟨w.heap.size, 0, none⟩) n n) n (cellsOf (be n v)) := by
 obtain ⟨hc, _, _, xs, ho⟩ := h
 have hl : xs.length = n := by simpa using ho.1
 have e : xs = cellsOf (be n v) := by
  apply List.ext_getElem (by rw [hl, cellsOf_length, be_length])
  intro j h1 h2
  have hlt : j < n := by omega
  have a := ho.cells (g := w.heap.size) rfl j xs[j] (List.getElem?_eq_getElem h1)
  have e : (⟨w.heap.size, 0, none⟩ : Addr).add j = ⟨w.heap.size, 0 + j, none⟩ := by unfold Addr.add; split <;> simp_all
  rw [e, Nat.zero_add, hc j hlt, if_pos (by omega)] at a
  rw [← Option.some.inj a]
  simp [cellsOf, be]
 rw [← e]
 exact ho
set_option maxRecDepth 100000 in
theorem gnumber_any (v n : Nat) (w : World) (hn : n ≤ 8) (hv : v < 18446744073709551616) : Calls Tryz.prog 49 #[.int .u64 v, .int .i64 n] w fun e w' => e = .returned (.slice (some ⟨w.heap.size, 0, none⟩) n n) ∧ w'.ownsRow w.heap.size 5 1 (.slice (some ⟨w.heap.size, 0, none⟩) n n) n (cellsOf (be n v)) ∧ Fr (fun _ => False) w w' := by
 obtain ⟨w1, hmk, hc, hz, hf, ho⟩ := make_bytes n w hn
 have H := hid (And.intro hc (And.intro hz (And.intro hf ho)))
 clear hc hz hf ho
 have hwr : IntKind.i64.wrap ((n : Int) - 1) = (n : Int) - 1 := by rw [IntKind.wrap_i64]; omega
 go_enter Tryz.func49, Tryz.ntmps49
 go_wp2_with fail
 go_loopw [0, 6] (fun x i wr => ∃ k : Nat, k ≤ n ∧ i = .int .i64 ((n : Int) - 1 - k) ∧ x = .int .u64 ((v / 256 ^ k : Nat)) ∧ NumI w wr n v k) (fun _ i _ => (intOf i + 1).toNat)
 case atStart => exact ⟨0, Nat.zero_le _, by simp, by simp, fun j hj => by rw [if_neg (by omega)]; exact (uh H).1 j hj, (uh H).2.1, (uh H).2.2.1, (uh H).2.2.2⟩
 case round =>
  obtain ⟨k, hk, rfl, rfl, hI⟩ := hrel
  rename World => wr
  by_cases hlt : k < n
  ·obtain ⟨m, rfl⟩ : ∃ m, n = m + 1 + k := ⟨n - 1 - k, by omega⟩
   have hcell : wr.cell? ⟨w.heap.size, m, none⟩ = some (.int .u8 0) := by rw [hI.1 m (by omega), if_neg (by omega)]
   have hfr := hI.2.1 m (by omega)
   have hy : v / 256 ^ k < 18446744073709551616 := Nat.lt_of_le_of_lt (Nat.div_le_self _ _) hv
   have hst := hI.step
   have hnx : v / 256 ^ (k + 1) = v / 256 ^ k / 256 := by rw [Nat.pow_succ, Nat.div_div_eq_div_mul]
   have HS := hid (And.intro hst hnx)
   clear hst hnx hI
   have hix : ((m + 1 + k : Nat) : Int) - 1 - k = (m : Int) := by omega
   rw [hix]
   generalize hyy : v / 256 ^ k = y at *
   go_wp2
   refine ⟨⟨k + 1, by omega, congrArg (Value.int .i64) (by omega), congrArg (Value.int .u64) (by rw [(uh HS).2]; omega), ?_⟩, by simp [intOf]⟩
   have h := (uh HS).1
   rw [show B y = Value.int .u8 ((y : Int) % 256) from by simp [B]] at h
   exact h
  ·have hkn : k = n := by omega
   subst hkn
   go_wp2
   go_ret
   exact ⟨rfl, hI.own, hI.2.2.1⟩
theorem gnumber_p (v n : Nat) (w : World) (hn : n ≤ 8) (hv : v < 18446744073709551616) : Calls Tryz.prog 49 #[.int .u64 v, .int .i64 n] w fun e w' => ∃ x, e = .returned x ∧ w'.ownsRow w.heap.size 5 1 x n (cellsOf (be n v)) ∧ Fr (fun _ => False) w w' :=
 (gnumber_any v n w hn hv).mono (fun _ _ h => ⟨_, h.1, h.2.1, h.2.2⟩)
theorem results_tcell {P : Program} {fn : Func} {p u : Tmp} {ty : TypeId} (h : fn.results = #[.tmp u, .cell p ty]) (tmps : Array Value) (w : World) (b o : Nat) (cs : List Value) (d : TypeDesc) (x : Value)
  (hp : tmps.getD p undef = .pointer (some ⟨b, o, none⟩)) (hx : tmps.getD u undef = x) (hc : w.rangeAt b o cs)
  (hu : P.underlying ty = some d) (hd : d.isRow = true) (hi : (P.info? ty).map (·.size) = some cs.length) :
  (results fn tmps).run P w = .ok (.tuple #[x, .agg cs.toArray]) w := by
 have hp' : tmps[p]?.getD undef = .pointer (some ⟨b, o, none⟩) := by simpa using hp
 have hx' : tmps[u]?.getD undef = x := by simpa using hx
 simp [results, h, hp', hx', asAddr, run_loadVar_mid w b o ty cs d hc hu hd hi]
theorem Tryz.sizeFt : (Tryz.prog.info? 55).map (·.size) = some 3 := by kernel_rfl
def ftC (f : Option (ByteArray × Nat × Nat)) : List Value := [.string (ftV f).1, .int .i64 ((ftV f).2.1 : Nat), .int .i64 ((ftV f).2.2 : Nat)]
def bnd (L : List PT) : Nat := (L.map fun p => 8 + p.b.length).sum
theorem by_len (p : PT) (hk : p.k = 1 ∨ p.k = 4 ∨ p.k = 5 ∨ p.k = 6) : p.by.length ≤ 8 + p.b.length := by
 unfold PT.by
 rcases hk with h | h | h | h <;> simp [h, be] <;> omega
theorem step_stP {P : Program} {w w' : World} {ops : Array Oper} {op : Oper} {a : Act} {K : Act → World → Prop} {Q : Exit → Act → World → Prop} {E : Prop} (hgd : op.guard = none) (ty : TypeId) (x y : Operand) (ho : op.op = .store ty x y)
  (p v : Value) (hx : a.eval x = p) (hy : a.eval y = v) (hr : (Instr.storeAt ty p v).run P w = .ok () w')
  (h : K (a.put op.dst undef) w') : if Region.wanted op (yielded ops a.tmps) = true then Oper.wp P op a w K Q else E := by
 have hw : Region.wanted op (yielded ops a.tmps) = true := by simp [Region.wanted, hgd]
 rw [if_pos hw]
 unfold Oper.wp execOp
 simp only [ho, hx, hy, Sem.run_bind, hr, Result.andThen_ok, Sem.run_pure]
 exact h
theorem app_out {w0 wr w3 : World} {tv nx : Value} {out l : List Nat} (base : Nat) (hrow : wr.ownsRow base 5 1 tv out.length (cellsOf out)) (hf0 : Fr (fun _ => False) w0 wr) (hbase : w0.heap.size ≤ base) (hf : Fr (fun _ => False) wr w3) (hs : Src w3 nx l) (hb : out.length + l.length ≤ 140737488355328) (hb3 : base ≤ wr.heap.size) :
  ∃ ao cap w4, (Builtin.append_ #[23, 23] 23 #[tv, nx]).run Tryz.prog w3 = .ok (.slice ao (out.length + l.length) cap) w4 ∧ w4.ownsRow base 5 1 (.slice ao (out.length + l.length) cap) (out ++ l).length (cellsOf (out ++ l)) ∧ Fr (fun _ => False) w0 w4 ∧ Fr (fun g => tv.ownBlock = some g) w3 w4 := by
 have h3 := ownsRow_of_block (w' := w3) hrow (fun g hg => hf.block g (hrow.lt g hg).2 (fun h => h))
 obtain ⟨ao, cap, w4, hr, hown, hgrow, _⟩ := run_app_sl w3 23 base out.length tv nx _ l h3 hs hb (Nat.le_trans hb3 hf.size)
 exact ⟨ao, cap, w4, hr, by rw [List.length_append, cellsOf_append]; exact hown, (hf0.trans hf (fun _ _ h => h)).grown hgrow (fun g hg => .inr (Nat.le_trans hbase (hrow.lt g hg).1)), (Fr.refl _ w3).grown hgrow (fun g hg => .inl hg)⟩
structure PI (w wr : World) (tv : Value) (i : Nat) (out : List Nat) (form : Nat) (L : List PT) : Prop where
 row : wr.ownsRow (w.heap.size + 1) 5 1 tv out.length (cellsOf out)
 eq : putP [form] L = putP out (L.drop i)
 ln : out.length ≤ 1 + bnd (L.take i)
 fr : Fr (fun _ => False) (w.alloc (.cells #[.string ⟨#[]⟩, .int .i64 0, .int .i64 0] 55)) wr
set_option maxRecDepth 100000 in
set_option maxHeartbeats 4000000 in
theorem gput_any (form : Nat) (hform : form < 256) (xo : Option Addr) (xc : Nat) (L : List PV) (w : World) (hcap : L.length ≤ xc) (hc : ∀ j u, (L.flatMap PV.cs)[j]? = some u → ∃ g o, xo = some ⟨g, o, none⟩ ∧ w.cell? ⟨g, o + j, none⟩ = some u) (hin : ∀ q ∈ L, q.In w)
  (hk : ∀ q ∈ L, (q.p.k = 1 ∨ q.p.k = 4 ∨ q.p.k = 5 ∨ q.p.k = 6) ∧ q.p.u < 18446744073709551616 ∧ q.p.b.length < 9223372036854775808) (hb : bnd (L.map PV.p) ≤ 100000000000000) (hl : L.length ≤ 16777216) :
  Calls Tryz.prog 23 #[.int .i64 (form : Nat), .slice xo L.length xc] w fun e w' => ∃ x, e = .returned (.tuple #[x, .agg (ftC (putP [form] (L.map PV.p)).2).toArray]) ∧ w'.ownsRow w.heap.size 5 1 x (putP [form] (L.map PV.p)).1.length (cellsOf (putP [form] (L.map PV.p)).1) ∧ Fr (fun _ => False) w w' := by
 have hcf : IntKind.u8.wrap (form : Int) = (form : Int) := by rw [IntKind.wrap_u8]; omega
 have HC := hid (And.intro hcap (And.intro hc (And.intro hin (And.intro hk (And.intro hb hl)))))
 clear hcap hc hin hk hb
 go_enter Tryz.func23, Tryz.ntmps23
 go_wp2_with fail
 go_loopw [6, 7] (fun tv iv wr => ∃ (i : Nat) (out : List Nat), i ≤ L.length ∧ iv = .int .i64 (i : Nat) ∧ PI w wr tv i out form (L.map PV.p)) (fun _ iv _ => L.length - (intOf iv).toNat)
 case atStart =>
  refine ⟨0, [form], Nat.zero_le _, rfl, ?_, rfl, by simp [bnd], box1 _ _⟩
  have := World.ownsRow_lit (base := w.heap.size + 1) (e := 5) (size := 1) (w.alloc (.cells #[.string ⟨#[]⟩, .int .i64 0, .int .i64 0] 55)) #[.int .u8 (form : Nat)] 1 (by simp) (by simp [maxLen]) rfl
  have e : cellsOf [form] = [.int .u8 (form : Nat)] := by simp [cellsOf, B]; omega
  rw [e]
  simpa using this
 case round =>
  obtain ⟨i, out, hi, rfl, hI⟩ := hrel
  rename World => wr
  have hw1 := wrapP i (by omega)
  by_cases hlt : i < L.length
  ·obtain ⟨q, hq⟩ : ∃ q, L[i] = q := ⟨_, rfl⟩
   have hgi : L[i]? = some q := by rw [List.getElem?_eq_getElem hlt, hq]
   have hqm : q ∈ L := List.mem_of_getElem? hgi
   have hin := (uh HC).2.2.1 q hqm
   have hkk := (uh HC).2.2.2.1 q hqm
   have hmap : (L.map PV.p)[i]? = some q.p := by rw [List.getElem?_map, hgi]; rfl
   have hdrop : (L.map PV.p).drop i = q.p :: (L.map PV.p).drop (i + 1) := by
    obtain ⟨h1, h2⟩ := List.getElem?_eq_some_iff.1 hmap
    rw [List.drop_eq_getElem_cons h1, h2]
   have htk : bnd ((L.map PV.p).take (i + 1)) = bnd ((L.map PV.p).take i) + (8 + q.p.b.length) := by
    rw [List.take_add_one, hmap, Option.toList_some]
    simp [bnd]
   have hfw : Fr (fun _ => False) w wr := (box1 w _).trans hI.fr (fun _ _ h => h)
   obtain ⟨g, o, exo, k0⟩ := (uh HC).2.1 (i * 5) _ (by have := pcs_at L i 0 q hgi (by omega); rw [Nat.add_zero] at this; exact this)
   subst exo
   have HRq := hid (show wr.rangeAt g (o + i * 5) q.cs from fun j v hv => by
    have hj : j < 5 := (List.getElem?_eq_some_iff.1 hv).1
    obtain ⟨g', o', e', kc⟩ := (uh HC).2.1 (i * 5 + j) v (by rw [pcs_at L i j q hgi hj]; exact hv)
    cases e'
    rw [← Nat.add_assoc] at kc
    exact (hfw.cell (p := ⟨g, o + i * 5 + j, none⟩) (ltC kc) (fun h => h)).trans kc)
   have hbt : bnd ((L.map PV.p).take (i + 1)) ≤ bnd (L.map PV.p) := by
    have := congrArg bnd (List.take_append_drop (i + 1) (L.map PV.p))
    have e2 : ∀ a b : List PT, bnd (a ++ b) = bnd a + bnd b := fun a b => by simp [bnd]
    rw [e2] at this
    omega
   have hbl := (uh HC).2.2.2.2.1
   have hol : out.length + 8 + q.p.b.length ≤ 100000000000001 := by have := hI.ln; omega
   have HQ := hid (And.intro hdrop (And.intro htk (And.intro hin hfw)))
   obtain ⟨⟨nm, k, u, b, wy⟩, x⟩ := q
   obtain ⟨yo, yc, ex⟩ := hin.src.form
   simp only at ex
   subst ex
   have hcap2 : (i : Int) < (xc : Int) := by have := (uh HC).1; omega
   have hlt2 : (i : Int) < (L.length : Int) := by omega
   obtain ⟨hkk, hu, hbn⟩ := hkk
   simp only at hkk hu hbn hol
   have HI := hid (And.intro hI hol)
   have hln := (uh HI).1.row.1
   obtain ⟨ta, tc, etv⟩ := own_form hI.row
   subst etv
   clear hI hgi hq hqm hin hmap hdrop htk hfw k0 hbt hbl hol hln
   by_cases hw : wy = 0
   ·subst hw
    rcases hkk with rfl | rfl | rfl | rfl
    ·have HR := hid (show wr.rangeAt g (o + i * 5) [.string nm, .int .i64 1, .int .u64 (u : Nat), .slice yo b.length yc, .int .i64 0] from uh HRq)
     clear HRq hcf
     go_wp2_with (refine wpList_load_mid rfl 110 (.tmp 20) rfl g (o + i * 5) rfl _ _ (uh HR) Tryz.underlying110 rfl Tryz.sizePt ?_)
     refine (gnumber_p u 1 _ (by decide) hu).mono ?_
     rintro e w3 ⟨nx, rfl, hno, hnf⟩
     have hf3 : Fr (fun _ => False) wr w3 := (box1 wr _).trans hnf (fun _ _ h => h)
     have hsrc : Src w3 nx (be 1 u) := own_src (by rw [be_length]; exact hno)
     obtain ⟨ao, cap, w4, hr, hrow4, hf4, hg4⟩ := app_out (w.heap.size + 1) (uh HI).1.row (uh HI).1.fr (by simp) hf3 hsrc (by rw [be_length]; have := (uh HI).2; omega) (by have := (uh HI).1.fr.size; simpa using this)
     have hPI : PI w w4 (.slice ao (out.length + (be 1 u).length) cap) (i + 1) (out ++ be 1 u) form (L.map PV.p) := ⟨hrow4, by rw [(uh HI).1.eq, (uh HQ).1]; rfl, by have := (uh HI).1.ln; have h2 := (uh HQ).2.1; rw [List.length_append, be_length]; (try simp only at h2); omega, hf4⟩
     have HR4 := hid hr
     have HP4 := hid hPI
     clear hr hrow4 hf4 hPI hsrc hf3 hno hnf HR HI HQ
     go_wp2_with (at_builtin; refine wpList_app rfl (.tmp 54) (.tmp 59) 23 23 rfl _ _ _ (by simp [Act.eval]) (by simp [Act.eval]) (uh HR4) ?_)
     go_roundw
     case rel => exact ⟨i + 1, _, by omega, by go_num, uh HP4⟩
     case measure => simp [intOf]; omega
    ·have HR := hid (show wr.rangeAt g (o + i * 5) [.string nm, .int .i64 4, .int .u64 (u : Nat), .slice yo b.length yc, .int .i64 0] from uh HRq)
     clear HRq hcf
     go_wp2_with (refine wpList_load_mid rfl 110 (.tmp 20) rfl g (o + i * 5) rfl _ _ (uh HR) Tryz.underlying110 rfl Tryz.sizePt ?_)
     refine (gnumber_p u 4 _ (by decide) hu).mono ?_
     rintro e w3 ⟨nx, rfl, hno, hnf⟩
     have hf3 : Fr (fun _ => False) wr w3 := (box1 wr _).trans hnf (fun _ _ h => h)
     have hsrc : Src w3 nx (be 4 u) := own_src (by rw [be_length]; exact hno)
     obtain ⟨ao, cap, w4, hr, hrow4, hf4, hg4⟩ := app_out (w.heap.size + 1) (uh HI).1.row (uh HI).1.fr (by simp) hf3 hsrc (by rw [be_length]; have := (uh HI).2; omega) (by have := (uh HI).1.fr.size; simpa using this)
     have hPI : PI w w4 (.slice ao (out.length + (be 4 u).length) cap) (i + 1) (out ++ be 4 u) form (L.map PV.p) := ⟨hrow4, by rw [(uh HI).1.eq, (uh HQ).1]; rfl, by have := (uh HI).1.ln; have h2 := (uh HQ).2.1; rw [List.length_append, be_length]; (try simp only at h2); omega, hf4⟩
     have HR4 := hid hr
     have HP4 := hid hPI
     clear hr hrow4 hf4 hPI hsrc hf3 hno hnf HR HI HQ
     go_wp2_with (at_builtin; refine wpList_app rfl (.tmp 54) (.tmp 59) 23 23 rfl _ _ _ (by simp [Act.eval]) (by simp [Act.eval]) (uh HR4) ?_)
     go_roundw
     case rel => exact ⟨i + 1, _, by omega, by go_num, uh HP4⟩
     case measure => simp [intOf]; omega
    ·have HR := hid (show wr.rangeAt g (o + i * 5) [.string nm, .int .i64 5, .int .u64 (u : Nat), .slice yo b.length yc, .int .i64 0] from uh HRq)
     clear HRq hcf
     go_wp2_with (refine wpList_load_mid rfl 110 (.tmp 20) rfl g (o + i * 5) rfl _ _ (uh HR) Tryz.underlying110 rfl Tryz.sizePt ?_)
     refine (gnumber_p u 4 _ (by decide) hu).mono ?_
     rintro e w3 ⟨nx, rfl, hno, hnf⟩
     have hf3 : Fr (fun _ => False) wr w3 := (box1 wr _).trans hnf (fun _ _ h => h)
     have hsrc : Src w3 nx (be 4 u) := own_src (by rw [be_length]; exact hno)
     obtain ⟨ao, cap, w4, hr, hrow4, hf4, hg4⟩ := app_out (w.heap.size + 1) (uh HI).1.row (uh HI).1.fr (by simp) hf3 hsrc (by rw [be_length]; have := (uh HI).2; omega) (by have := (uh HI).1.fr.size; simpa using this)
     have hPI : PI w w4 (.slice ao (out.length + (be 4 u).length) cap) (i + 1) (out ++ be 4 u) form (L.map PV.p) := ⟨hrow4, by rw [(uh HI).1.eq, (uh HQ).1]; rfl, by have := (uh HI).1.ln; have h2 := (uh HQ).2.1; rw [List.length_append, be_length]; (try simp only at h2); omega, hf4⟩
     have HR4 := hid hr
     have HP4 := hid hPI
     clear hr hrow4 hf4 hPI hsrc hf3 hno hnf HR HI HQ
     go_wp2_with (at_builtin; refine wpList_app rfl (.tmp 49) (.tmp 52) 23 23 rfl _ _ _ (by simp [Act.eval]) (by simp [Act.eval]) (uh HR4) ?_)
     go_roundw
     case rel => exact ⟨i + 1, _, by omega, by go_num, uh HP4⟩
     case measure => simp [intOf]; omega
    ·have HR := hid (show wr.rangeAt g (o + i * 5) [.string nm, .int .i64 6, .int .u64 (u : Nat), .slice yo b.length yc, .int .i64 0] from uh HRq)
     have hcl : IntKind.u64.wrap (b.length : Int) = (b.length : Int) := by rw [IntKind.wrap_u64]; omega
     clear HRq hcf
     go_wp2_with (refine wpList_load_mid rfl 110 (.tmp 20) rfl g (o + i * 5) rfl _ _ (uh HR) Tryz.underlying110 rfl Tryz.sizePt ?_)
     refine (gnumber_p b.length 4 _ (by decide) (by omega)).mono ?_
     rintro e w3 ⟨nx, rfl, hno, hnf⟩
     have hf3 : Fr (fun _ => False) wr w3 := (box1 wr _).trans hnf (fun _ _ h => h)
     have hsrc : Src w3 nx (be 4 b.length) := own_src (by rw [be_length]; exact hno)
     obtain ⟨ao, cap, w4, hr, hrow4, hf4, hg4⟩ := app_out (w.heap.size + 1) (uh HI).1.row (uh HI).1.fr (by simp) hf3 hsrc (by rw [be_length]; have := (uh HI).2; omega) (by have := (uh HI).1.fr.size; simpa using this)
     have hs4 : w.heap.size + 1 ≤ w4.heap.size := by have := hf4.size; simpa using this
     have hsx : Src w4 (.slice yo b.length yc) b := ((uh HQ).2.2.1.fr0 ((box1 w _).trans hf4 (fun _ _ h => h))).src
     obtain ⟨ao2, cap2, w5, hr2, hrow5, hf5, _⟩ := app_out (w.heap.size + 1) hrow4 hf4 (by simp) (Fr.refl _ w4) hsx (by rw [List.length_append, be_length]; have := (uh HI).2; omega) hs4
     have hPI : PI w w5 (.slice ao2 ((out ++ be 4 b.length).length + b.length) cap2) (i + 1) (out ++ be 4 b.length ++ b) form (L.map PV.p) := ⟨hrow5, by rw [(uh HI).1.eq, (uh HQ).1, List.append_assoc]; rfl, by have := (uh HI).1.ln; have h2 := (uh HQ).2.1; rw [List.length_append, List.length_append, be_length]; (try simp only at h2); omega, hf5⟩
     rw [List.length_append] at hr2 hPI
     have HR4 := hid hr
     have HR5 := hid hr2
     have HP4 := hid hPI
     have c83 : w4.cell? ⟨wr.heap.size, 3, none⟩ = some (.slice yo b.length yc) := by
      have h0 := (hnf.block wr.heap.size (by simp) (fun h => h)).trans (heap_alloc_new wr (.cells #[.string nm, .int .i64 6, .int .u64 (u : Nat), .slice yo b.length yc, .int .i64 0] 110))
      exact cOB ((hg4.block wr.heap.size (lt_of_block h0) (fun e => by have := ((uh HI).1.row.lt _ e).2; omega)).trans h0) rfl
     clear hr hr2 hrow4 hrow5 hf4 hf5 hPI hsrc hsx hf3 hno hnf HR HI HQ
     go_wp2_with (at_builtin; first | refine wpList_app rfl (.tmp 35) (.tmp 40) 23 23 rfl _ _ _ (by simp [Act.eval]) (by simp [Act.eval]) (uh HR4) ?_ | refine wpList_app rfl (.tmp 42) (.tmp 44) 23 23 rfl _ _ _ (by simp [Act.eval]) (by simp [Act.eval]) (uh HR5) ?_)
     go_roundw
     case rel => exact ⟨i + 1, _, by omega, by go_num, uh HP4⟩
     case measure => simp [intOf]; omega
   ·have hwb : ((wy : Int) != 0) = true := by simp [hw]
    have HR := hid (show wr.rangeAt g (o + i * 5) [.string nm, .int .i64 (k : Nat), .int .u64 (u : Nat), .slice yo b.length yc, .int .i64 (wy : Nat)] from uh HRq)
    clear HRq hcf
    go_wp2_with (refine wpList_load_mid rfl 110 (.tmp 20) rfl g (o + i * 5) rfl _ _ (uh HR) Tryz.underlying110 rfl Tryz.sizePt ?_)
    have hW2 : Fr (fun _ => False) wr (wr.alloc (.cells #[.string nm, .int .i64 (k : Nat), .int .u64 (u : Nat), .slice yo b.length yc, .int .i64 (wy : Nat)] 110)) := box1 wr _
    have hbq := heap_alloc_new wr (.cells #[.string nm, .int .i64 (k : Nat), .int .u64 (u : Nat), .slice yo b.length yc, .int .i64 (wy : Nat)] 110)
    obtain ⟨W2, hW⟩ : ∃ W2, wr.alloc (.cells #[.string nm, .int .i64 (k : Nat), .int .u64 (u : Nat), .slice yo b.length yc, .int .i64 (wy : Nat)] 110) = W2 := ⟨_, rfl⟩
    rw [hW] at hW2 hbq
    rw [hW]
    have HS : Hid (∀ W', Fr (fun _ => False) W2 W' → W'.cell? ⟨wr.heap.size, 0, none⟩ = some (.string nm) ∧ W'.cell? ⟨wr.heap.size, 4, none⟩ = some (.int .i64 (wy : Nat))) := hid (fun W' hf => by
     have hb := (hf.block _ (lt_of_block hbq) (fun h => h)).trans hbq
     exact ⟨cOB hb rfl, cOB hb rfl⟩)
    have hfW : Fr (fun _ => False) (w.alloc (.cells #[.string ⟨#[]⟩, .int .i64 0, .int .i64 0] 55)) W2.drew := ((uh HI).1.fr.trans hW2 (fun _ _ h => h)).drew
    have hb0 := (hfW.block w.heap.size (by simp) (fun h => h)).trans (heap_alloc_new w (.cells #[.string ⟨#[]⟩, .int .i64 0, .int .i64 0] 55))
    obtain ⟨W4, hst, hb4, hf4⟩ := st_all (P := Tryz.prog) (ty := 55) [.string ⟨#[]⟩, .int .i64 0, .int .i64 0] [.string nm, .int .i64 (out.length : Nat), .int .i64 (wy : Nat)] hb0 rfl Tryz.sizeFt (by simp [Value.oneCell'])
    have hfin : Fr (fun _ => False) w W4 := absorbP ((box1 w _).trans hfW (fun _ _ h => h)) hf4 (fun i hi => by rw [hi]; exact Nat.le_refl _)
    have he : putP [form] (L.map PV.p) = ([], some (nm, out.length, wy)) := by
     rw [(uh HI).1.eq, (uh HQ).1]
     unfold putP
     rw [if_pos hw]
    have HS4 : Hid (W4.cell? ⟨wr.heap.size, 0, none⟩ = some (.string nm) ∧ W4.cell? ⟨wr.heap.size, 4, none⟩ = some (.int .i64 (wy : Nat))) := hid (by
     have hb := (hf4.block wr.heap.size (by have := lt_of_block hbq; simpa using this) (fun e => by have := (uh HI).1.fr.size; simp at this; omega)).trans (show W2.drew.heap[wr.heap.size]? = _ from hbq)
     exact ⟨cOB hb rfl, cOB hb rfl⟩)
    have HST := hid hst
    have HX := hid (And.intro he (And.intro hfin hb4))
    clear hst hb4 hf4 hfin he hb0 hfW hW2 hbq hW
    refine wp_region_held_drew (S := (fun W : World => W.cell? ⟨wr.heap.size, 0, none⟩ = some (.string nm) ∧ W.cell? ⟨wr.heap.size, 4, none⟩ = some (.int .i64 (wy : Nat)))) (by kernel_rfl) ((uh HS) _ (Fr.refl _ _).drew) (fun hHeld => ?_)
    refine wtk2 (i := 0) rfl hHeld ?_
    (try simp only [Act.put, nrm])
    refine wtk2 (i := 1) rfl hHeld ?_
    (try simp only [Act.put, nrm])
    refine wtk2 (i := 2) rfl hHeld ?_
    (try simp only [Act.put, nrm])
    refine wtk2 (i := 3) rfl hHeld ?_
    (try simp only [Act.put, nrm])
    refine wtk2 (i := 4) rfl hHeld ?_
    (try simp only [Act.put, nrm])
    refine wtk2 (i := 5) rfl hHeld ?_
    (try simp only [Act.put, nrm])
    refine wtk2 (i := 6) rfl hHeld ?_
    (try simp only [Act.put, nrm])
    refine wtk2 (i := 7) rfl hHeld ?_
    (try simp only [Act.put, nrm])
    refine wpAnyH_ready (rs := [8]) (by kernel_rfl) (by simp) (AllReadyH.cons rfl (fun K hK => ?_) AllReadyH.nil)
    refine step_stP rfl 55 (.tmp 5) (.tmp 31) rfl _ _ (by simp [Act.eval]) (by simp [Act.eval]) (uh HST) ?_
    refine hK.out _ _ (uh HS4) (fun hHeld => ?_)
    clear hK K
    (try simp only [Act.put, nrm])
    refine wpAnyH_done (by kernel_rfl) ?_ _
    clear hHeld
    go_wp2_with fail
    rw [(uh HX).1]
    exact bodyPost_ret (results_tcell rfl _ _ w.heap.size 0 [.string nm, .int .i64 (out.length : Nat), .int .i64 (wy : Nat)] _ _ rfl rfl (rOB (uh HX).2.2) Tryz.underlying55 rfl Tryz.sizeFt) rfl ⟨_, rfl, World.ownsRow_nil _ _ _ _, (uh HX).2.1⟩
  ·obtain rfl : i = L.length := by omega
   have hb0 := (hI.fr.block w.heap.size (by simp) (fun h => h)).trans (heap_alloc_new w (.cells #[.string ⟨#[]⟩, .int .i64 0, .int .i64 0] 55))
   obtain ⟨W4, hst, hb4, hf4⟩ := st_all (P := Tryz.prog) (ty := 55) [.string ⟨#[]⟩, .int .i64 0, .int .i64 0] [.string ⟨#[]⟩, .int .i64 0, .int .i64 0] hb0 rfl Tryz.sizeFt (by simp [Value.oneCell'])
   have hfin : Fr (fun _ => False) w W4 := absorbP ((box1 w _).trans hI.fr (fun _ _ h => h)) hf4 (fun i hi => by rw [hi]; exact Nat.le_refl _)
   have hrow : W4.ownsRow (w.heap.size + 1) 5 1 _ out.length (cellsOf out) := ownsRow_of_block hI.row (fun g hg => hf4.block g (hI.row.lt g hg).2 (fun e => by have := (hI.row.lt g hg).1; omega))
   have he : putP [form] (L.map PV.p) = (out, none) := by
    rw [hI.eq, List.drop_eq_nil_of_le (by simp)]
    rfl
   have HST := hid hst
   have HX := hid (And.intro hrow (And.intro he (And.intro hfin hb4)))
   clear hst hb4 hf4 hfin hrow he hb0 hI
   go_wp2_with (refine wpList_stN rfl 55 (.tmp 5) (.tmp 62) rfl _ _ rfl rfl (uh HST) ?_)
   rw [(uh HX).2.1]
   refine bodyPost_ret (results_tcell rfl _ _ w.heap.size 0 [.string ⟨#[]⟩, .int .i64 0, .int .i64 0] _ _ rfl rfl (rOB (uh HX).2.2.2) Tryz.underlying55 rfl Tryz.sizeFt) rfl ⟨_, rfl, ownsRow_base (uh HX).1 (by omega), (uh HX).2.2.1⟩
end Go.Proofs.YtdcopmkgmbiikaaGreatDoor
