import Derived.Test.YtiknjghcjaaenaaGreatDoorPr6
namespace Go.Proofs.YtiknjghcjaaenaaGreatDoor
open Go.RowKit Go.Shelf
set_option maxHeartbeats 8000000 in
set_option maxRecDepth 100000 in
theorem gmerged_any (ov cv : Value) (O C : List F5) (w : World) (hO : Fds w ov O) (hC : Fds w cv C) (hlO : O.length ≤ 1000) (hlC : C.length ≤ 1000) (hu : ∀ f ∈ O ++ C, f.u < 256) :
  Calls Tryz.prog 28 #[ov, cv] w fun e w' => ∃ v, e = .returned (.tuple #[v, .bool (remU C O)]) ∧ OwF w' w.heap.size v (srtN (gmrg O C).length 0 (gmrg O C)) ∧ Fr (fun _ => False) w w' := by
 obtain ⟨ox, oc, rfl⟩ := hO.form
 obtain ⟨cx, cc, rfl⟩ := hC.form
 have HX := hide (And.intro hO (And.intro hC hu))
 obtain ⟨R, hR⟩ : ∃ R, srtN (gmrg O C).length 0 (gmrg O C) = R := ⟨_, rfl⟩
 rw [hR]
 have HRR := hide hR
 clear hO hC hu hR
 go_enter Tryz.func28, Tryz.ntmps28
 go_wp2_with fail
 go_loopw [6, 7, 8] (fun av bv iv wr => ∃ (j : Nat), j ≤ O.length ∧ iv = .int .i64 (j : Nat) ∧ ∃ (ao : Option Addr) (n cap : Nat), av = .slice ao n cap ∧ OwF wr w.heap.size (.slice ao n cap) ((O.take j).filter (fun f => (fidx C f.n).isNone)) ∧ bv = .bool ((O.take j).any (rem1 C)) ∧ Fr (fun _ => False) w wr) (fun _ _ iv _ => O.length - (intOf iv).toNat)
 case atStart => exact ⟨0, Nat.zero_le _, rfl, none, 0, 0, rfl, World.ownsRow_nil _ _ _ _, rfl, Fr.refl _ _⟩
 case round =>
  obtain ⟨j, hj, rfl, ao, n, cap, rfl, hown, rfl, hfr⟩ := hrel
  by_cases hlt : j < O.length
  ·obtain ⟨og, oo, rfl, c0, c1, c2, c3, c4⟩ := ((unhide HX).1.fr hfr).at_ j hlt
   obtain ⟨f, hfe⟩ : ∃ f, O[j] = f := ⟨_, rfl⟩
   have hfe2 : O[j]? = some f := by rw [List.getElem?_eq_getElem hlt, hfe]
   rw [hfe] at c0 c1 c2 c3 c4
   have hfu : f.u < 256 := (unhide HX).2.2 f (List.mem_append_left _ (List.mem_of_getElem? hfe2))
   have htk : O.take (j + 1) = O.take j ++ [f] := by rw [List.take_add_one, hfe2]; rfl
   have hkl : (j : Int) < (O.length : Int) := by omega
   have HFi := hide (gffind_any (.slice cx C.length cc) C f.n wr ((unhide HX).2.1.fr hfr) (by omega))
   have HO := hide (And.intro hown hfr)
   obtain ⟨B, hB⟩ : ∃ B, (O.take j).any (rem1 C) = B := ⟨_, rfl⟩
   rw [hB]
   have hAn : (O.take (j + 1)).any (rem1 C) = (B || rem1 C f) := by rw [htk, List.any_append, hB]; simp
   have hogl : og < wr.heap.size := lt_of_cell c0
   clear hB hfe hfe2
   cases hx : fidx C f.n with
   | none =>
    have HAn := hide (show (O.take (j + 1)).any (rem1 C) = B by rw [hAn, rem1_none hx, Bool.or_false])
    have HFl := hide (show (O.take (j + 1)).filter (fun f => (fidx C f.n).isNone) = (O.take j).filter (fun f => (fidx C f.n).isNone) ++ [f] by rw [htk, List.filter_append]; simp [hx])
    obtain ⟨ao2, cap2, w2, hr, hown2, hf2, _⟩ := app_fld wr w.heap.size (.slice ao n cap) _ f hown hfr.size (by have := List.length_filter_le (fun f => (fidx C f.n).isNone) (O.take j); simp at this; omega)
    have hn : ((O.take j).filter (fun f => (fidx C f.n).isNone)).length = n := hown.lenX
    rw [hn] at hr hown2
    have hf3 : Fr (fun _ => False) w w2 := hfr.absorb hf2 (fun k hk => (hown.lt k hk).1)
    have HR := hide hr
    have HO2 := hide (And.intro hown2 hf3)
    simp only [hx, fix] at HFi
    obtain ⟨fn, fk, ft, fv, fu⟩ := f
    simp only at c0 c1 c2 c3 c4 HR
    clear hown hfr hr hown2 hf2 hf3 hn hAn htk hx
    go_wp2_with fail
    refine (unhide HFi).mono ?_
    rintro e w3 ⟨rfl, hw⟩
    obtain rfl := hw.symm
    clear hw HFi
    go_wp2_with (at_builtin; refine wpList_app rfl (.tmp 29) (.tmp 34) 39 39 rfl _ _ _ rfl rfl (unhide HR) ?_)
    go_roundw
    case rel => exact ⟨j + 1, hlt, by go_num, ao2, n + 1, cap2, rfl, by rw [unhide HFl]; exact (unhide HO2).1, by rw [unhide HAn], (unhide HO2).2⟩
    case measure => simp [intOf]; omega
   | some m =>
    have hm : m < C.length := fidx_lt hx
    obtain ⟨cg, co, rfl, d0, d1, d2, d3, d4⟩ := ((unhide HX).2.1.fr hfr).at_ m hm
    clear d0 d2 d3
    obtain ⟨c, hce⟩ : ∃ c, C[m] = c := ⟨_, rfl⟩
    have hce2 : C[m]? = some c := by rw [List.getElem?_eq_getElem hm, hce]
    rw [hce] at d1 d4
    have hcu : c.u < 256 := (unhide HX).2.2 c (List.mem_append_right _ (List.mem_of_getElem? hce2))
    have hr1 := rem1_some hx hce2
    have HFl := hide (show (O.take (j + 1)).filter (fun f => (fidx C f.n).isNone) = (O.take j).filter (fun f => (fidx C f.n).isNone) by rw [htk, List.filter_append]; simp [hx])
    have HSm := hide (fun W => gsameU_any f.u c.u W hfu hcu)
    have hcgl : cg < wr.heap.size := lt_of_cell d1
    have HS : Hid (∀ W, Fr (fun _ => False) wr W → W.cell? ⟨og, oo + j * 5 + 1, none⟩ = some (.int .u8 (f.k : Nat)) ∧ W.cell? ⟨og, oo + j * 5 + 4, none⟩ = some (.int .u8 (f.u : Nat)) ∧ W.cell? ⟨cg, co + m * 5 + 1, none⟩ = some (.int .u8 (c.k : Nat)) ∧ W.cell? ⟨cg, co + m * 5 + 4, none⟩ = some (.int .u8 (c.u : Nat))) := fun W hW => ⟨(hW.cell (p := ⟨og, _, none⟩) hogl (fun h => h)).trans c1, (hW.cell (p := ⟨og, _, none⟩) hogl (fun h => h)).trans c4, (hW.cell (p := ⟨cg, _, none⟩) hcgl (fun h => h)).trans d1, (hW.cell (p := ⟨cg, _, none⟩) hcgl (fun h => h)).trans d4⟩
    have hml : (m : Int) < (C.length : Int) := by omega
    simp only [hx, fix] at HFi
    have HAn0 := hide hAn
    clear hown hfr htk hx hce hce2 hm hfu hcu hAn
    go_wp2_with fail
    refine (unhide HFi).mono ?_
    rintro e w3 ⟨rfl, hw⟩
    obtain rfl := hw.symm
    clear hw HFi
    by_cases h2 : f.k = 2
    ·have h2i : ((f.k : Nat) : Int) = 2 := by omega
     by_cases h3 : c.k = 2
     ·have h3i : ((c.k : Nat) : Int) = 2 := by omega
      cases hsm : sameU f.u c.u with
      | true =>
       rw [hsm] at HSm
       have HAn := hide (show (O.take (j + 1)).any (rem1 C) = B by rw [unhide HAn0, hr1, hsm]; simp)
       have H23 := hide (And.intro h2 h3)
       clear hr1 hsm HAn0 h2 h3
       go_wp2_with fail
       refine wp_region_noPanic ?_
       refine wp_region_held_drew (S := (fun W => W.cell? ⟨og, oo + j * 5 + 1, none⟩ = some (.int .u8 (f.k : Nat)) ∧ W.cell? ⟨og, oo + j * 5 + 4, none⟩ = some (.int .u8 (f.u : Nat)) ∧ W.cell? ⟨cg, co + m * 5 + 1, none⟩ = some (.int .u8 (c.k : Nat)) ∧ W.cell? ⟨cg, co + m * 5 + 4, none⟩ = some (.int .u8 (c.u : Nat)))) (by kernel_rfl) ((unhide HS) _ (Fr.refl _ _).drew) (fun hHeld => ?_)
       refine wtk2 (i := 0) rfl hHeld ?_
       (try simp only [Act.put, nrm])
       refine wtk2 (i := 1) rfl hHeld ?_
       (try simp only [Act.put, nrm])
       refine wtk2 (i := 2) rfl hHeld ?_
       (try simp only [Act.put, nrm])
       refine wtk2 (i := 3) rfl hHeld ?_
       (try simp only [Act.put, nrm])
       refine wtk2 (i := 4) rfl hHeld ?_
       (try simp only [Act.put, nrm])
       refine wtk2 (i := 5) rfl hHeld ?_
       (try simp only [Act.put, nrm])
       refine wtk2 (i := 6) rfl hHeld ?_
       (try simp only [Act.put, nrm])
       refine wtk2 (i := 7) rfl hHeld ?_
       (try simp only [Act.put, nrm])
       refine wtk2 (i := 8) rfl hHeld ?_
       (try simp only [Act.put, nrm])
       refine wtk2 (i := 9) rfl hHeld ?_
       (try simp only [Act.put, nrm])
       refine wtk2 (i := 10) rfl hHeld ?_
       (try simp only [Act.put, nrm])
       refine wtk2 (i := 11) rfl hHeld ?_
       (try simp only [Act.put, nrm])
       refine wtk2 (i := 12) rfl hHeld ?_
       (try simp only [Act.put, nrm])
       refine wtk2 (i := 13) rfl hHeld ?_
       (try simp only [Act.put, nrm])
       refine wtk2 (i := 14) rfl hHeld ?_
       (try simp only [Act.put, nrm])
       refine wtk2 (i := 15) rfl hHeld ?_
       (try simp only [Act.put, nrm])
       refine wtk2 (i := 16) rfl hHeld ?_
       (try simp only [Act.put, nrm])
       refine wtk2 (i := 17) rfl hHeld ?_
       (try simp only [Act.put, nrm])
       refine wtk2 (i := 18) rfl hHeld ?_
       (try simp only [Act.put, nrm])
       refine wtk2 (i := 19) rfl hHeld ?_
       (try simp only [Act.put, nrm])
       refine wtk2 (i := 20) rfl hHeld ?_
       (try simp only [Act.put, nrm])
       refine wtk2 (i := 21) rfl hHeld ?_
       (try simp only [Act.put, nrm])
       refine wtk2 (i := 22) rfl hHeld ?_
       (try simp only [Act.put, nrm])
       refine wtk2 (i := 23) rfl hHeld ?_
       (try simp only [Act.put, nrm])
       refine wtk2 (i := 24) rfl hHeld ?_
       (try simp only [Act.put, nrm])
       refine wpAnyH_ready (rs := [25]) (by kernel_rfl) (by simp) (AllReadyH.cons rfl (fun K hK => ?_) AllReadyH.nil)
       go_simp
       refine ((unhide HSm) _).mono ?_
       rintro e w4 ⟨rfl, f4⟩
       have F4 := hide ((Fr.refl (fun _ => False) wr).drew.trans f4 (fun _ _ h => h))
       clear f4
       go_simp
       refine hK.out _ _ ((unhide HS) _ (unhide F4)) (fun hHeld => ?_)
       clear hK K
       (try simp only [Act.put, nrm])
       refine wtk2 (i := 26) rfl hHeld ?_
       (try simp only [Act.put, nrm])
       refine wtk2 (i := 27) rfl hHeld ?_
       (try simp only [Act.put, nrm])
       refine wpAnyH_done (by kernel_rfl) ?_ _
       refine NoPanic.normal ?_
       clear HS
       go_wp2_with fail
       go_roundw
       case rel => exact ⟨j + 1, hlt, by go_num, ao, n, cap, rfl, by rw [unhide HFl]; exact (unhide HO).1.fr (unhide F4) (fun _ _ h => h), by first | (rw [unhide HAn]; done) | (rw [unhide HAn]; simp), (unhide HO).2.trans (unhide F4) (fun _ _ h => h)⟩
       case measure => simp [intOf]; omega
      | false =>
       rw [hsm] at HSm
       have HAn := hide (show (O.take (j + 1)).any (rem1 C) = true by rw [unhide HAn0, hr1, hsm, h2, h3]; simp)
       have H23 := hide (And.intro h2 h3)
       clear hr1 hsm HAn0 h2 h3
       go_wp2_with fail
       refine wp_region_noPanic ?_
       refine wp_region_held_drew (S := (fun W => W.cell? ⟨og, oo + j * 5 + 1, none⟩ = some (.int .u8 (f.k : Nat)) ∧ W.cell? ⟨og, oo + j * 5 + 4, none⟩ = some (.int .u8 (f.u : Nat)) ∧ W.cell? ⟨cg, co + m * 5 + 1, none⟩ = some (.int .u8 (c.k : Nat)) ∧ W.cell? ⟨cg, co + m * 5 + 4, none⟩ = some (.int .u8 (c.u : Nat)))) (by kernel_rfl) ((unhide HS) _ (Fr.refl _ _).drew) (fun hHeld => ?_)
       refine wtk2 (i := 0) rfl hHeld ?_
       (try simp only [Act.put, nrm])
       refine wtk2 (i := 1) rfl hHeld ?_
       (try simp only [Act.put, nrm])
       refine wtk2 (i := 2) rfl hHeld ?_
       (try simp only [Act.put, nrm])
       refine wtk2 (i := 3) rfl hHeld ?_
       (try simp only [Act.put, nrm])
       refine wtk2 (i := 4) rfl hHeld ?_
       (try simp only [Act.put, nrm])
       refine wtk2 (i := 5) rfl hHeld ?_
       (try simp only [Act.put, nrm])
       refine wtk2 (i := 6) rfl hHeld ?_
       (try simp only [Act.put, nrm])
       refine wtk2 (i := 7) rfl hHeld ?_
       (try simp only [Act.put, nrm])
       refine wtk2 (i := 8) rfl hHeld ?_
       (try simp only [Act.put, nrm])
       refine wtk2 (i := 9) rfl hHeld ?_
       (try simp only [Act.put, nrm])
       refine wtk2 (i := 10) rfl hHeld ?_
       (try simp only [Act.put, nrm])
       refine wtk2 (i := 11) rfl hHeld ?_
       (try simp only [Act.put, nrm])
       refine wtk2 (i := 12) rfl hHeld ?_
       (try simp only [Act.put, nrm])
       refine wtk2 (i := 13) rfl hHeld ?_
       (try simp only [Act.put, nrm])
       refine wtk2 (i := 14) rfl hHeld ?_
       (try simp only [Act.put, nrm])
       refine wtk2 (i := 15) rfl hHeld ?_
       (try simp only [Act.put, nrm])
       refine wtk2 (i := 16) rfl hHeld ?_
       (try simp only [Act.put, nrm])
       refine wtk2 (i := 17) rfl hHeld ?_
       (try simp only [Act.put, nrm])
       refine wtk2 (i := 18) rfl hHeld ?_
       (try simp only [Act.put, nrm])
       refine wtk2 (i := 19) rfl hHeld ?_
       (try simp only [Act.put, nrm])
       refine wtk2 (i := 20) rfl hHeld ?_
       (try simp only [Act.put, nrm])
       refine wtk2 (i := 21) rfl hHeld ?_
       (try simp only [Act.put, nrm])
       refine wtk2 (i := 22) rfl hHeld ?_
       (try simp only [Act.put, nrm])
       refine wtk2 (i := 23) rfl hHeld ?_
       (try simp only [Act.put, nrm])
       refine wtk2 (i := 24) rfl hHeld ?_
       (try simp only [Act.put, nrm])
       refine wpAnyH_ready (rs := [25]) (by kernel_rfl) (by simp) (AllReadyH.cons rfl (fun K hK => ?_) AllReadyH.nil)
       go_simp
       refine ((unhide HSm) _).mono ?_
       rintro e w4 ⟨rfl, f4⟩
       have F4 := hide ((Fr.refl (fun _ => False) wr).drew.trans f4 (fun _ _ h => h))
       clear f4
       go_simp
       refine hK.out _ _ ((unhide HS) _ (unhide F4)) (fun hHeld => ?_)
       clear hK K
       (try simp only [Act.put, nrm])
       refine wtk2 (i := 26) rfl hHeld ?_
       (try simp only [Act.put, nrm])
       refine wtk2 (i := 27) rfl hHeld ?_
       (try simp only [Act.put, nrm])
       refine wpAnyH_done (by kernel_rfl) ?_ _
       refine NoPanic.normal ?_
       clear HS
       go_wp2_with fail
       go_roundw
       case rel => exact ⟨j + 1, hlt, by go_num, ao, n, cap, rfl, by rw [unhide HFl]; exact (unhide HO).1.fr (unhide F4) (fun _ _ h => h), by first | (rw [unhide HAn]; done) | (rw [unhide HAn]; simp), (unhide HO).2.trans (unhide F4) (fun _ _ h => h)⟩
       case measure => simp [intOf]; omega
     ·have h3i : ((c.k : Int) == 2) = false := by rw [beq_eq_false_iff_ne]; omega
      have HAn := hide (show (O.take (j + 1)).any (rem1 C) = B by rw [unhide HAn0, hr1]; simp [h3])
      have H23 := hide (And.intro h2 h3)
      clear hr1 HAn0 h2 h3 HSm
      go_wp2_with fail
      refine wp_region_noPanic ?_
      refine wp_region_held_drew (S := (fun W => W.cell? ⟨og, oo + j * 5 + 1, none⟩ = some (.int .u8 (f.k : Nat)) ∧ W.cell? ⟨og, oo + j * 5 + 4, none⟩ = some (.int .u8 (f.u : Nat)) ∧ W.cell? ⟨cg, co + m * 5 + 1, none⟩ = some (.int .u8 (c.k : Nat)) ∧ W.cell? ⟨cg, co + m * 5 + 4, none⟩ = some (.int .u8 (c.u : Nat)))) (by kernel_rfl) ((unhide HS) _ (Fr.refl _ _).drew) (fun hHeld => ?_)
      refine wtk2 (i := 0) rfl hHeld ?_
      (try simp only [Act.put, nrm])
      refine wtk2 (i := 1) rfl hHeld ?_
      (try simp only [Act.put, nrm])
      refine wtk2 (i := 2) rfl hHeld ?_
      (try simp only [Act.put, nrm])
      refine wtk2 (i := 3) rfl hHeld ?_
      (try simp only [Act.put, nrm])
      refine wtk2 (i := 4) rfl hHeld ?_
      (try simp only [Act.put, nrm])
      refine wtk2 (i := 5) rfl hHeld ?_
      (try simp only [Act.put, nrm])
      refine wtk2 (i := 6) rfl hHeld ?_
      (try simp only [Act.put, nrm])
      refine wtk2 (i := 7) rfl hHeld ?_
      (try simp only [Act.put, nrm])
      refine wtk2 (i := 8) rfl hHeld ?_
      (try simp only [Act.put, nrm])
      refine wtk2 (i := 9) rfl hHeld ?_
      (try simp only [Act.put, nrm])
      refine wtk2 (i := 10) rfl hHeld ?_
      (try simp only [Act.put, nrm])
      refine wtk2 (i := 11) rfl hHeld ?_
      (try simp only [Act.put, nrm])
      refine wtk2 (i := 12) rfl hHeld ?_
      (try simp only [Act.put, nrm])
      refine wtk2 (i := 13) rfl hHeld ?_
      (try simp only [Act.put, nrm])
      refine wtk2 (i := 14) rfl hHeld ?_
      (try simp only [Act.put, nrm])
      refine wpAnyH_take (i := 15) (v := undef) rfl (by kernel_rfl) (by kernel_rfl) (by kernel_rfl) (fun _ _ _ h => h) (Or.inr ⟨by rfl, rfl⟩) hHeld ?_
      (try simp only [Act.put, nrm])
      refine wpAnyH_take (i := 16) (v := undef) rfl (by kernel_rfl) (by kernel_rfl) (by kernel_rfl) (fun _ _ _ h => h) (Or.inr ⟨by rfl, rfl⟩) hHeld ?_
      (try simp only [Act.put, nrm])
      refine wpAnyH_take (i := 17) (v := undef) rfl (by kernel_rfl) (by kernel_rfl) (by kernel_rfl) (fun _ _ _ h => h) (Or.inr ⟨by rfl, rfl⟩) hHeld ?_
      (try simp only [Act.put, nrm])
      refine wpAnyH_take (i := 18) (v := undef) rfl (by kernel_rfl) (by kernel_rfl) (by kernel_rfl) (fun _ _ _ h => h) (Or.inr ⟨by rfl, rfl⟩) hHeld ?_
      (try simp only [Act.put, nrm])
      refine wpAnyH_take (i := 19) (v := undef) rfl (by kernel_rfl) (by kernel_rfl) (by kernel_rfl) (fun _ _ _ h => h) (Or.inr ⟨by rfl, rfl⟩) hHeld ?_
      (try simp only [Act.put, nrm])
      refine wpAnyH_take (i := 20) (v := undef) rfl (by kernel_rfl) (by kernel_rfl) (by kernel_rfl) (fun _ _ _ h => h) (Or.inr ⟨by rfl, rfl⟩) hHeld ?_
      (try simp only [Act.put, nrm])
      refine wpAnyH_take (i := 21) (v := undef) rfl (by kernel_rfl) (by kernel_rfl) (by kernel_rfl) (fun _ _ _ h => h) (Or.inr ⟨by rfl, rfl⟩) hHeld ?_
      (try simp only [Act.put, nrm])
      refine wpAnyH_take (i := 22) (v := undef) rfl (by kernel_rfl) (by kernel_rfl) (by kernel_rfl) (fun _ _ _ h => h) (Or.inr ⟨by rfl, rfl⟩) hHeld ?_
      (try simp only [Act.put, nrm])
      refine wpAnyH_take (i := 23) (v := undef) rfl (by kernel_rfl) (by kernel_rfl) (by kernel_rfl) (fun _ _ _ h => h) (Or.inr ⟨by rfl, rfl⟩) hHeld ?_
      (try simp only [Act.put, nrm])
      refine wpAnyH_take (i := 24) (v := undef) rfl (by kernel_rfl) (by kernel_rfl) (by kernel_rfl) (fun _ _ _ h => h) (Or.inr ⟨by rfl, rfl⟩) hHeld ?_
      (try simp only [Act.put, nrm])
      refine wpAnyH_take (i := 25) (v := undef) rfl (by kernel_rfl) (by kernel_rfl) (by kernel_rfl) (fun _ _ _ h => h) (Or.inr ⟨by rfl, rfl⟩) hHeld ?_
      (try simp only [Act.put, nrm])
      refine wpAnyH_take (i := 26) (v := undef) rfl (by kernel_rfl) (by kernel_rfl) (by kernel_rfl) (fun _ _ _ h => h) (Or.inr ⟨by rfl, rfl⟩) hHeld ?_
      (try simp only [Act.put, nrm])
      refine wtk2 (i := 27) rfl hHeld ?_
      (try simp only [Act.put, nrm])
      refine wpAnyH_done (by kernel_rfl) ?_ _
      refine NoPanic.normal ?_
      clear HS
      go_wp2_with fail
      go_roundw
      case rel => exact ⟨j + 1, hlt, by go_num, ao, n, cap, rfl, by rw [unhide HFl]; exact (unhide HO).1.fr ((Fr.refl _ _).drew) (fun _ _ h => h), by first | (rw [unhide HAn]; done) | (rw [unhide HAn]; simp), (unhide HO).2.trans ((Fr.refl _ _).drew) (fun _ _ h => h)⟩
      case measure => simp [intOf]; omega
    ·have h2i : ((f.k : Int) == 2) = false := by rw [beq_eq_false_iff_ne]; omega
     have HAn := hide (show (O.take (j + 1)).any (rem1 C) = B by rw [unhide HAn0, hr1]; simp [h2])
     have H23 := hide h2
     clear hr1 HAn0 h2 HSm
     go_wp2_with fail
     refine wp_region_noPanic ?_
     refine wp_region_held_drew (S := (fun W => W.cell? ⟨og, oo + j * 5 + 1, none⟩ = some (.int .u8 (f.k : Nat)) ∧ W.cell? ⟨og, oo + j * 5 + 4, none⟩ = some (.int .u8 (f.u : Nat)) ∧ W.cell? ⟨cg, co + m * 5 + 1, none⟩ = some (.int .u8 (c.k : Nat)) ∧ W.cell? ⟨cg, co + m * 5 + 4, none⟩ = some (.int .u8 (c.u : Nat)))) (by kernel_rfl) ((unhide HS) _ (Fr.refl _ _).drew) (fun hHeld => ?_)
     refine wtk2 (i := 0) rfl hHeld ?_
     (try simp only [Act.put, nrm])
     refine wtk2 (i := 1) rfl hHeld ?_
     (try simp only [Act.put, nrm])
     refine wtk2 (i := 2) rfl hHeld ?_
     (try simp only [Act.put, nrm])
     refine wtk2 (i := 3) rfl hHeld ?_
     (try simp only [Act.put, nrm])
     refine wtk2 (i := 4) rfl hHeld ?_
     (try simp only [Act.put, nrm])
     refine wtk2 (i := 5) rfl hHeld ?_
     (try simp only [Act.put, nrm])
     refine wtk2 (i := 6) rfl hHeld ?_
     (try simp only [Act.put, nrm])
     refine wpAnyH_take (i := 7) (v := undef) rfl (by kernel_rfl) (by kernel_rfl) (by kernel_rfl) (fun _ _ _ h => h) (Or.inr ⟨by rfl, rfl⟩) hHeld ?_
     (try simp only [Act.put, nrm])
     refine wpAnyH_take (i := 8) (v := undef) rfl (by kernel_rfl) (by kernel_rfl) (by kernel_rfl) (fun _ _ _ h => h) (Or.inr ⟨by rfl, rfl⟩) hHeld ?_
     (try simp only [Act.put, nrm])
     refine wpAnyH_take (i := 9) (v := undef) rfl (by kernel_rfl) (by kernel_rfl) (by kernel_rfl) (fun _ _ _ h => h) (Or.inr ⟨by rfl, rfl⟩) hHeld ?_
     (try simp only [Act.put, nrm])
     refine wpAnyH_take (i := 10) (v := undef) rfl (by kernel_rfl) (by kernel_rfl) (by kernel_rfl) (fun _ _ _ h => h) (Or.inr ⟨by rfl, rfl⟩) hHeld ?_
     (try simp only [Act.put, nrm])
     refine wpAnyH_take (i := 11) (v := undef) rfl (by kernel_rfl) (by kernel_rfl) (by kernel_rfl) (fun _ _ _ h => h) (Or.inr ⟨by rfl, rfl⟩) hHeld ?_
     (try simp only [Act.put, nrm])
     refine wpAnyH_take (i := 12) (v := undef) rfl (by kernel_rfl) (by kernel_rfl) (by kernel_rfl) (fun _ _ _ h => h) (Or.inr ⟨by rfl, rfl⟩) hHeld ?_
     (try simp only [Act.put, nrm])
     refine wtk2 (i := 13) rfl hHeld ?_
     (try simp only [Act.put, nrm])
     refine wtk2 (i := 14) rfl hHeld ?_
     (try simp only [Act.put, nrm])
     refine wpAnyH_take (i := 15) (v := undef) rfl (by kernel_rfl) (by kernel_rfl) (by kernel_rfl) (fun _ _ _ h => h) (Or.inr ⟨by rfl, rfl⟩) hHeld ?_
     (try simp only [Act.put, nrm])
     refine wpAnyH_take (i := 16) (v := undef) rfl (by kernel_rfl) (by kernel_rfl) (by kernel_rfl) (fun _ _ _ h => h) (Or.inr ⟨by rfl, rfl⟩) hHeld ?_
     (try simp only [Act.put, nrm])
     refine wpAnyH_take (i := 17) (v := undef) rfl (by kernel_rfl) (by kernel_rfl) (by kernel_rfl) (fun _ _ _ h => h) (Or.inr ⟨by rfl, rfl⟩) hHeld ?_
     (try simp only [Act.put, nrm])
     refine wpAnyH_take (i := 18) (v := undef) rfl (by kernel_rfl) (by kernel_rfl) (by kernel_rfl) (fun _ _ _ h => h) (Or.inr ⟨by rfl, rfl⟩) hHeld ?_
     (try simp only [Act.put, nrm])
     refine wpAnyH_take (i := 19) (v := undef) rfl (by kernel_rfl) (by kernel_rfl) (by kernel_rfl) (fun _ _ _ h => h) (Or.inr ⟨by rfl, rfl⟩) hHeld ?_
     (try simp only [Act.put, nrm])
     refine wpAnyH_take (i := 20) (v := undef) rfl (by kernel_rfl) (by kernel_rfl) (by kernel_rfl) (fun _ _ _ h => h) (Or.inr ⟨by rfl, rfl⟩) hHeld ?_
     (try simp only [Act.put, nrm])
     refine wpAnyH_take (i := 21) (v := undef) rfl (by kernel_rfl) (by kernel_rfl) (by kernel_rfl) (fun _ _ _ h => h) (Or.inr ⟨by rfl, rfl⟩) hHeld ?_
     (try simp only [Act.put, nrm])
     refine wpAnyH_take (i := 22) (v := undef) rfl (by kernel_rfl) (by kernel_rfl) (by kernel_rfl) (fun _ _ _ h => h) (Or.inr ⟨by rfl, rfl⟩) hHeld ?_
     (try simp only [Act.put, nrm])
     refine wpAnyH_take (i := 23) (v := undef) rfl (by kernel_rfl) (by kernel_rfl) (by kernel_rfl) (fun _ _ _ h => h) (Or.inr ⟨by rfl, rfl⟩) hHeld ?_
     (try simp only [Act.put, nrm])
     refine wpAnyH_take (i := 24) (v := undef) rfl (by kernel_rfl) (by kernel_rfl) (by kernel_rfl) (fun _ _ _ h => h) (Or.inr ⟨by rfl, rfl⟩) hHeld ?_
     (try simp only [Act.put, nrm])
     refine wpAnyH_take (i := 25) (v := undef) rfl (by kernel_rfl) (by kernel_rfl) (by kernel_rfl) (fun _ _ _ h => h) (Or.inr ⟨by rfl, rfl⟩) hHeld ?_
     (try simp only [Act.put, nrm])
     refine wpAnyH_take (i := 26) (v := undef) rfl (by kernel_rfl) (by kernel_rfl) (by kernel_rfl) (fun _ _ _ h => h) (Or.inr ⟨by rfl, rfl⟩) hHeld ?_
     (try simp only [Act.put, nrm])
     refine wtk2 (i := 27) rfl hHeld ?_
     (try simp only [Act.put, nrm])
     refine wpAnyH_done (by kernel_rfl) ?_ _
     refine NoPanic.normal ?_
     clear HS
     go_wp2_with fail
     go_roundw
     case rel => exact ⟨j + 1, hlt, by go_num, ao, n, cap, rfl, by rw [unhide HFl]; exact (unhide HO).1.fr ((Fr.refl _ _).drew) (fun _ _ h => h), by first | (rw [unhide HAn]; done) | (rw [unhide HAn]; simp), (unhide HO).2.trans ((Fr.refl _ _).drew) (fun _ _ h => h)⟩
     case measure => simp [intOf]; omega
  ·obtain rfl : j = O.length := by omega
   rw [List.take_length] at hown
   rw [show (O.take O.length).any (rem1 C) = remU C O by rw [List.take_length]; rfl]
   have HO := hide (And.intro hown hfr)
   clear hown hfr
   go_wp2_with fail
   rename World => wb
   go_loopw [6, 10] (fun av iv wr => ∃ (j : Nat), j ≤ C.length ∧ iv = .int .i64 (j : Nat) ∧ ∃ (ao : Option Addr) (n cap : Nat), av = .slice ao n cap ∧ OwF wr w.heap.size (.slice ao n cap) (O.filter (fun f => (fidx C f.n).isNone) ++ keptF (C.take j)) ∧ Fr (fun _ => False) w wr) (fun _ iv _ => C.length - (intOf iv).toNat)
   case atStart => exact ⟨0, Nat.zero_le _, rfl, ao, n, cap, rfl, by simpa [keptF] using (unhide HO).1, (unhide HO).2⟩
   case round =>
    obtain ⟨j, hj, rfl, ao, n, cap, rfl, hown, hfr⟩ := hrel
    by_cases hlt : j < C.length
    ·obtain ⟨cg, co, rfl, c0, c1, c2, c3, c4⟩ := ((unhide HX).2.1.fr hfr).at_ j hlt
     obtain ⟨f, hfe⟩ : ∃ f, C[j] = f := ⟨_, rfl⟩
     have hfe2 : C[j]? = some f := by rw [List.getElem?_eq_getElem hlt, hfe]
     rw [hfe] at c0 c1 c2 c3 c4
     have htk : C.take (j + 1) = C.take j ++ [f] := by rw [List.take_add_one, hfe2]; rfl
     have hkl : (j : Int) < (C.length : Int) := by omega
     clear hfe hfe2
     by_cases h3 : f.k = 3
     ·have h3i : ((f.k : Nat) : Int) = 3 := by omega
      have h3b : ((f.k : Int) != 3) = false := by rw [h3i]; rfl
      have HK := hide (show keptF (C.take (j + 1)) = keptF (C.take j) by rw [htk]; simp [keptF, h3])
      have HO2 := hide (And.intro hown hfr)
      clear hown hfr htk h3 h3i
      go_wp2_with fail
      go_roundw
      case rel => exact ⟨j + 1, hlt, by go_num, ao, n, cap, rfl, by rw [unhide HK]; exact (unhide HO2).1, (unhide HO2).2⟩
      case measure => simp [intOf]; omega
     ·have h3b : ((f.k : Int) != 3) = true := by rw [bne_iff_ne]; omega
      have h3i : ¬ ((f.k : Nat) : Int) = 3 := by omega
      have HK := hide (show O.filter (fun f => (fidx C f.n).isNone) ++ keptF (C.take (j + 1)) = (O.filter (fun f => (fidx C f.n).isNone) ++ keptF (C.take j)) ++ [f] by rw [htk]; simp [keptF, h3])
      have hn := hown.lenX
      obtain ⟨ao2, cap2, w2, hr, hown2, hf2, _⟩ := app_fld wr w.heap.size (.slice ao n cap) _ f hown hfr.size (by have h1 := List.length_filter_le (fun f => (fidx C f.n).isNone) O; have h2 := List.length_filter_le (fun f : F5 => decide (f.k ≠ 3)) (C.take j); simp only [List.length_append, keptF]; simp only [List.length_take] at h2; omega)
      rw [hn] at hr hown2
      have hf3 : Fr (fun _ => False) w w2 := hfr.absorb hf2 (fun k hk => (hown.lt k hk).1)
      have HR := hide hr
      have HO2 := hide (And.intro hown2 hf3)
      obtain ⟨fn, fk, ft, fv, fu⟩ := f
      simp only at c0 c1 c2 c3 c4 HR h3b h3i
      clear hown hfr hr hown2 hf2 hf3 hn htk h3
      go_wp2_with (at_builtin; refine wpList_app rfl (.tmp 76) (.tmp 81) 39 39 rfl _ _ _ rfl rfl (unhide HR) ?_)
      go_roundw
      case rel => exact ⟨j + 1, hlt, by go_num, ao2, n + 1, cap2, rfl, by rw [unhide HK]; exact (unhide HO2).1, (unhide HO2).2⟩
      case measure => simp [intOf]; omega
    ·obtain rfl : j = C.length := by omega
     rw [List.take_length] at hown
     have hgm : O.filter (fun f => (fidx C f.n).isNone) ++ keptF C = gmrg O C := rfl
     rw [hgm] at hown
     have hn := hown.lenX
     have hnb : n ≤ 2000 := by
      rw [← hn, ← hgm]
      have h1 := List.length_filter_le (fun f => (fidx C f.n).isNone) O
      have h2 := List.length_filter_le (fun f : F5 => decide (f.k ≠ 3)) C
      simp only [List.length_append, keptF]
      omega
     obtain ⟨L0, hL0⟩ : ∃ L0, gmrg O C = L0 := ⟨_, rfl⟩
     rw [hL0] at hown hn
     have HR0 : Hid (srtN n 0 L0 = R) := by
      have h9 := unhide HRR
      rw [hL0, hn] at h9
      exact h9
     have HO2 := hide (And.intro hown (And.intro hfr hn))
     clear hown hfr hn hL0 hgm HO
     go_wp2_with fail
     rename World => wc
     go_loopw [11] (fun iv wr => ∃ (i : Nat), i ≤ n ∧ iv = .int .i64 (i : Nat) ∧ ∃ L, L.length = n ∧ OwF wr w.heap.size (.slice ao n cap) L ∧ srtN n 0 L0 = srtN (n - i) i L ∧ Fr (fun _ => False) w wr) (fun iv _ => n - (intOf iv).toNat)
     case atStart => exact ⟨0, Nat.zero_le _, rfl, L0, (unhide HO2).2.2, (unhide HO2).1, rfl, (unhide HO2).2.1⟩
     case round =>
      obtain ⟨i, hi, rfl, L, hLn, hown, hsr, hfr⟩ := hrel
      by_cases hin : i < n
      ·obtain ⟨g, cap2, hge, _, _⟩ := hown.form (by omega)
       simp only [Value.slice.injEq] at hge
       obtain ⟨rfl, -, rfl⟩ := hge
       have HL := hide (And.intro hLn (And.intro hown (And.intro hsr hfr)))
       clear hLn hown hsr hfr
       have hkl : (i : Int) < (n : Int) := by omega
       go_wp2_with fail
       rename World => wd
       go_loopw [12] (fun kv wr => ∃ (k : Nat) (M : List F5), kv = .int .i64 (k : Nat) ∧ k ≤ i ∧ M.length = n ∧ OwF wr w.heap.size (.slice (some ⟨g, 0, none⟩) n cap) M ∧ bub i L = bub k M ∧ Fr (fun _ => False) w wr) (fun kv _ => (intOf kv).toNat)
       case atStart => exact ⟨i, L, rfl, Nat.le_refl _, (unhide HL).1, (unhide HL).2.1, rfl, (unhide HL).2.2.2⟩
       case round =>
        obtain ⟨k, M, rfl, hki, hMn, hown, hbb, hfr⟩ := hrel
        have hend : bub k M = M → ∃ L', L'.length = n ∧ OwF wr w.heap.size (.slice (some ⟨g, 0, none⟩) n cap) L' ∧ srtN n 0 L0 = srtN (n - (i + 1)) (i + 1) L' := fun e => by
         refine ⟨M, hMn, hown, ?_⟩
         rw [(unhide HL).2.2.1, show n - i = (n - (i + 1)) + 1 by omega, srtN, hbb, e]
        rcases k with _ | k
        ·have HE := hide (And.intro (hend rfl) hfr)
         clear hend hown hbb hfr hMn
         go_wp2_with fail
         go_quiet (fail)
         go_wp2_with fail
         go_roundw
         case rel =>
          obtain ⟨⟨L', h1, h2, h3⟩, h4⟩ := unhide HE
          exact ⟨i + 1, hin, by go_num, L', h1, h2.fr ((Fr.refl _ _).drewN _) (fun _ _ h => h), h3, h4.drewN _⟩
         case measure => simp [intOf]; omega
        ·obtain ⟨x, hx⟩ : ∃ x, M[k + 1]? = some x := ⟨_, List.getElem?_eq_getElem (by omega)⟩
         obtain ⟨y, hy⟩ : ∃ y, M[k]? = some y := ⟨_, List.getElem?_eq_getElem (by omega)⟩
         obtain ⟨x0, x1, x2, x3, x4⟩ := hown.cells (k + 1) (by omega) x hx
         obtain ⟨y0, y1, y2, y3, y4⟩ := hown.cells k (by omega) y hy
         have k1 : (k : Int) + 1 < (n : Int) := by omega
         have k2 : (k : Int) < (n : Int) := by omega
         have d1 : decide ((0 : Int) < (k : Int) + 1) = true := decide_eq_true (by omega)
         have w1 : IntKind.i64.wrap (k : Int) = (k : Int) := by rw [IntKind.wrap_i64]; omega
         have w2 : IntKind.i64.wrap ((k : Int) + 1) = (k : Int) + 1 := by rw [IntKind.wrap_i64]; omega
         cases hb : Op.bytesLess x.n.toList y.n.toList with
         | false =>
          have HE := hide (And.intro (hend (bub_stop hx hy hb)) hfr)
          clear hend hown hbb hfr hMn hx hy x1 x2 x3 x4 y1 y2 y3 y4
          go_wp2_with fail
          go_quiet (fail)
          go_wp2_with fail
          go_roundw
          case rel =>
           obtain ⟨⟨L', h1, h2, h3⟩, h4⟩ := unhide HE
           exact ⟨i + 1, hin, by go_num, L', h1, h2.fr ((Fr.refl _ _).drewN _) (fun _ _ h => h), h3, h4.drewN _⟩
          case measure => simp [intOf]; omega
         | true =>
          have HE := hide (And.intro hown (And.intro hfr (And.intro hMn (And.intro (hbb.trans (bub_go hx hy hb)) (And.intro hx hy)))))
          clear hend hown hbb hfr hMn hx hy x1 x2 x3 x4 y1 y2 y3 y4
          go_wp2_with fail
          go_quiet (fail)
          obtain ⟨hown, hfr, hMn, hbb, hx, hy⟩ := unhide HE
          obtain ⟨wq, hwq⟩ : ∃ wq, wq = wr.drewN nq := ⟨_, rfl⟩
          rw [← hwq]
          have hfq : Fr (fun _ => False) wr wq := by rw [hwq]; exact (Fr.refl _ _).drewN _
          have hoq := hown.fr hfq (fun _ _ h => h)
          have hglt := hown.lt g rfl
          clear hwq x0 y0
          obtain ⟨wA, hsA, hkA, hfA⟩ := fld_box wq x
          have hoA := hoq.fr hfA (fun _ _ h => h)
          have hzq : wr.heap.size ≤ wq.heap.size := hfq.size
          obtain ⟨wB, hsB, hoB, hfB⟩ := fld_put hoA hMn.symm (k + 1) (by omega) y
          obtain ⟨wC, hsC, hoC, hfC⟩ := fld_put hoB (by simp [hMn]) k (by simp; omega) x
          obtain ⟨x0, x1, x2, x3, x4⟩ := hoq.cells (k + 1) (by omega) x hx
          obtain ⟨y0, y1, y2, y3, y4⟩ := hoA.cells k (by omega) y hy
          have hkB := (hfB.block wq.heap.size (lt_of_block hkA) (by omega)).trans hkA
          have z0 : wB.cell? ⟨wq.heap.size, 0, none⟩ = some (.string x.n) := by simp [World.cell?, hkB]
          have z1 : wB.cell? ⟨wq.heap.size, 1, none⟩ = some (.int .u8 (x.k : Nat)) := by simp [World.cell?, hkB]
          have z2 : wB.cell? ⟨wq.heap.size, 2, none⟩ = some (.string x.t) := by simp [World.cell?, hkB]
          have z3 : wB.cell? ⟨wq.heap.size, 3, none⟩ = some (.float .f32 x.v) := by simp [World.cell?, hkB]
          have z4 : wB.cell? ⟨wq.heap.size, 4, none⟩ = some (.int .u8 (x.u : Nat)) := by simp [World.cell?, hkB]
          have HSA := hide hsA
          have HSB := hide hsB
          have HSC := hide hsC
          have HEN := hide (And.intro hoC (And.intro (((hfr.trans hfq (fun _ _ h => h)).trans hfA (fun _ _ h => h)).absorb hfB (fun j hj => by omega) |>.absorb hfC (fun j hj => by omega)) (And.intro (show ((M.set (k + 1) y).set k x).length = n by simp [hMn]) hbb)))
          clear hown hfr hMn hbb hx hy hfq hoq hglt hsA hkA hfA hoA hzq hsB hoB hfB hsC hoC hfC hkB HE
          go_wp2_with (first | (refine wpList_stN rfl 55 (.tmp 13) (.tmp 111) rfl _ _ rfl rfl (unhide HSA) ?_) | (refine wpList_stN rfl 55 (.tmp 119) (.tmp 118) rfl _ _ rfl rfl (unhide HSB) ?_) | (refine wpList_stN rfl 55 (.tmp 124) (.tmp 123) rfl _ _ rfl rfl (unhide HSC) ?_))
          exact ⟨⟨k, _, rfl, by omega, (unhide HEN).2.2.1, (unhide HEN).1, (unhide HEN).2.2.2, (unhide HEN).2.1⟩, by simp [intOf]⟩
      ·obtain rfl : i = n := by omega
       have HL := hide (And.intro hown (And.intro hsr hfr))
       clear hown hsr hfr hLn
       go_wp2_with fail
       go_ret2
       obtain ⟨h1, h2, h3⟩ := unhide HL
       rw [unhide HR0, Nat.sub_self] at h2
       have h4 : R = L := h2
       exact ⟨_, rfl, by rw [h4]; exact h1, h3⟩
def AmP (w : World) (so : Option Addr) (sn : Nat) (sc : Nat) (ro : Option Addr) (rn : Nat) (rcap : Nat) (cl : Nat) (nu : Nat) (ac : Nat) (rc : Nat) (ve : Nat) (place : Nat) (i : Nat) (xw : Nat) (xo : Nat) (xs : Bool) (xG : List Nat) (xV : List GV) (go : Option Addr) (gn : Nat) (gc : Nat) (vn : Nat) (S : List P3) (L : List GC) (T : Nat → Prop) (O : List F5) (C : List F5) (e : Ending) (w' : World) : Prop := ((ve = 0 ∨ vn < ve) ∧ RefP w so sn sc ro rn rcap cl nu 4 e w') ∨ (¬ ve = 0 ∧ ve < vn ∧ RefP w so sn sc ro rn rcap cl nu 7 e w') ∨ (ve = vn ∧ (vn = 64 ∨ 32 < (srtN (gmrg O C).length 0 (gmrg O C)).length) ∧ RefP w so sn sc ro rn rcap cl nu 9 e w') ∨ (ve = vn ∧ ¬ vn = 64 ∧ ¬ 32 < (srtN (gmrg O C).length 0 (gmrg O C)).length ∧ remU C O = true ∧ RefP w so sn sc ro rn rcap cl nu 10 e w') ∨ (ve = vn ∧ ¬ vn = 64 ∧ ¬ 32 < (srtN (gmrg O C).length 0 (gmrg O C)).length ∧ remU C O = false ∧ ∃ v nv fv2, e = .returned (.tuple #[.agg #[.slice so sn sc, v], .agg #[.int .u32 (cl : Nat), .int .u32 (nu : Nat), .int .u8 0, .int .u32 (rc : Nat), .int .u32 ((vn : Int) + 1), .slice none 0 0, .slice none 0 0]]) ∧ GSt w' (fun k => T k ∨ w.heap.size ≤ k) (.slice so sn sc) v S (L.set i (⟨xw, xo, xs, xG, xV ++ [(⟨⟨ac, place, (srtN (gmrg O C).length 0 (gmrg O C)), false⟩, fv2⟩ : GV)], .slice go gn gc, nv⟩ : GC)) ∧ Fr (fun _ => False) w w')
set_option maxHeartbeats 4000000 in
set_option maxRecDepth 100000 in
theorem gapply_amend (so : Option Addr) (sn sc : Nat) (rg rr rn rcap : Nat) (cl nu ac op rc ve wa ow : Nat) (fo : Option Addr) (fn fc : Nat) (rs : ByteArray) (place : Nat) (w : World) (HFo : Hid (FoH w cl nu ac op rc ve wa ow fo fn fc rs true)) (z : Int) (HFd : Hid (FdH w so sn sc ac z)) (hz : ¬ z < 0) (jc : Nat) (HJd : Hid (JdH w so sn sc (some ⟨rg, rr, none⟩) rn rcap cl nu ac op rc ve wa ow fo fn fc rs jc)) (hj : jc = 0) (ho : op = 2) (i xw xo : Nat) (xs : Bool) (xG : List Nat) (xV : List GV) (go : Option Addr) (gn gc : Nat) (vg : Option Addr) (vn vcap : Nat) (hrc : rc = i + 1) (hrn : rn ≤ 256) (hve : ve < 4294967296) (S : List P3) (L : List GC) (T : Nat → Prop) (hst : GSt w T (.slice so sn sc) (.slice (some ⟨rg, rr, none⟩) rn rcap) S L) (hx : L[i]? = some ⟨xw, xo, xs, xG, xV, .slice go gn gc, .slice vg vn vcap⟩) (hone : ∀ y ∈ L, y.one) (m : Nat) (au ev : Nat) (F : List F5) (rd : Bool) (fa : Option Addr) (fl fb : Nat) (hm : vn = m + 1) (hy : xV[m]? = some ⟨⟨au, ev, F, rd⟩, .slice fa fl fb⟩) (O : List F5) (hOt : rd = true → O = []) (hOf : rd = false → O = F) (hvn : vn ≤ 64) (C : List F5) (hC : Fds w (.slice fo fn fc) C) (hlO : F.length ≤ 1000) (hlC : C.length ≤ 1000) (hu : ∀ f ∈ F ++ C, f.u < 256) (hvo : ∀ y ∈ xV, y.one) :
  Calls Tryz.prog 12 #[.agg #[.slice so sn sc, .slice (some ⟨rg, rr, none⟩) rn rcap], .agg #[.int .u32 (cl : Nat), .int .u32 (nu : Nat), .int .u32 (ac : Nat), .int .u8 (op : Nat), .int .u32 (rc : Nat), .int .u32 (ve : Nat), .int .u32 (wa : Nat), .int .u32 (ow : Nat), .slice fo fn fc, .string rs], .int .u32 (place : Nat)] w fun e w' => AmP w so sn sc (some ⟨rg, rr, none⟩) rn rcap cl nu ac rc ve place i xw xo xs xG xV go gn gc vn S L T O C e w' := by
 have o1 : ((op : Int) != 1) = true := by rw [bne_iff_ne]; omega
 have o21 : ((op : Int) == 1) = false := by rw [beq_eq_false_iff_ne]; omega
 have o22 : ((op : Int) == 2) = true := by rw [beq_iff_eq]; omega
 have o23 : ((op : Int) == 3) = false := by rw [beq_eq_false_iff_ne]; omega
 have o24 : ((op : Int) == 4) = false := by rw [beq_eq_false_iff_ne]; omega
 have o25 : ((op : Int) == 5) = false := by rw [beq_eq_false_iff_ne]; omega
 have o26 : ((op : Int) == 6) = false := by rw [beq_eq_false_iff_ne]; omega
 have o27 : ((op : Int) == 7) = false := by rw [beq_eq_false_iff_ne]; omega
 have z1 : decide (z < 0) = false := decide_eq_false (by omega)
 have z2 : ¬ z < 0 := by omega
 have j1 : ((jc : Int) != 0) = false := by rw [bne_eq_false_iff_eq]; omega
 have hln : L.length = rn := by
  obtain ⟨_, _, e⟩ := hst.r.form
  cases e
  rfl
 have hil : i < rn := by rw [← hln]; exact (List.getElem?_eq_some_iff.1 hx).1
 have r1 : ((rc : Int) == 0) = false := by rw [beq_eq_false_iff_ne]; omega
 have r2 : IntKind.i64.wrap (rc : Int) = (rc : Int) := by rw [IntKind.wrap_i64]; omega
 have r3 : ¬ rn < rc := by omega
 have r4 : ¬ (rn : Int) < (rc : Int) := by omega
 have r5 : (rc : Int) - 1 = (i : Int) := by omega
 have r6 : IntKind.i64.wrap (i : Int) = (i : Int) := by rw [IntKind.wrap_i64]; omega
 have r7 : (i : Int) < (rn : Int) := by omega
 have v1 : IntKind.i64.wrap (ve : Int) = (ve : Int) := by have := hve; rw [IntKind.wrap_i64]; omega
 have hxl : xV.length = vn := by
  obtain ⟨_, _, e⟩ := (hst.c _ (List.mem_of_getElem? hx)).v.form
  have h2 := (Value.slice.inj e).2.1
  simp only at h2
  omega
 have HYY := hide (And.intro hy (And.intro hxl (And.intro hvn (And.intro hC (And.intro hlO (And.intro hlC hu))))))
 have HMM := hide (And.intro hm (And.intro hOt hOf))
 have HVO := hide hvo
 have hat := cgc_at L i _ hx
 obtain ⟨_, _, e0, hcr⟩ := hst.r.at_ (by omega)
 cases e0
 have c0 := hcr (i * 5) _ (by have := hat 0 (by omega); simpa [GC.cs] using this)
 have c1 := hcr (i * 5 + 1) _ (by have := hat 1 (by omega); simpa [GC.cs] using this)
 have c2 := hcr (i * 5 + 2) _ (by have := hat 2 (by omega); simpa [GC.cs] using this)
 have c3 := hcr (i * 5 + 3) _ (by have := hat 3 (by omega); simpa [GC.cs] using this)
 have c4 := hcr (i * 5 + 4) _ (by have := hat 4 (by omega); simpa [GC.cs] using this)
 rw [← Nat.add_assoc] at c1 c2 c3 c4
 have hrgl : rg < w.heap.size := lt_of_cell c0
 have HC5 := hide (And.intro c0 (And.intro c1 (And.intro c2 (And.intro c3 c4))))
 have HG := hide (And.intro hst (And.intro hone (show L.length = rn ∧ i < rn ∧ rn ≤ 256 from ⟨hln, hil, hrn⟩)))
 have HGX := hide (hst.c _ (List.mem_of_getElem? hx))
 have HVE := hide hve
 clear hm hy hOt hOf hvn hC hlO hlC hu hvo hxl hone ho hz hj hst hx hrc hrn hve hln hil hat hcr c0 c1 c2 c3 c4
 obtain ⟨W4, hW4, a4⟩ := ab_new w so sn sc (some ⟨rg, rr, none⟩) rn rcap cl nu ac op rc ve wa ow fo fn fc rs
 have A4 := hide a4
 clear a4
 have HRf := hide (fun (co : Nat) W => grefused_any cl nu ac op rc ve wa ow co fo fn fc rs W)
 go_enter Tryz.func12, Tryz.ntmps12
 go_wp2_with fail
 rw [← hW4]
 clear hW4
 refine ((unhide HFo) _ (unhide A4).f).mono ?_
 rintro e w5 ⟨rfl, hf5⟩
 have A5 := hide ((unhide A4).fr hf5)
 clear hf5 A4
 obtain ⟨⟨p0, p1⟩, q0, q1, q2, q3, q4, q5, q6, q7, q8, q9⟩ := (unhide A5).s12
 go_wp2_with fail
 refine ((unhide HFd) _ (unhide A5).f).mono ?_
 rintro e w6 ⟨rfl, hw6⟩
 obtain rfl := hw6.symm
 clear hw6
 clear p0 p1 q0 q1 q2 q3 q4 q5 q6 q7 q8 q9
 obtain ⟨⟨p0, p1⟩, q0, q1, q2, q3, q4, q5, q6, q7, q8, q9⟩ := (unhide A5).s12
 go_wp2_with fail
 refine ((unhide HJd) _ (unhide A5).f).mono ?_
 rintro e w7 ⟨rfl, f7⟩
 have A7 := hide ((unhide A5).fr f7)
 clear f7 A5
 obtain ⟨⟨p0, p1⟩, q0, q1, q2, q3, q4, q5, q6, q7, q8, q9⟩ := (unhide A7).s12
 have l0 := lt_of_block (unhide A7).s
 have l1 := lt_of_block (unhide A7).r
 have f7 := (unhide A7).f
 have c0 := (f7.cell (p := ⟨rg, rr + i * 5, none⟩) hrgl (fun h => h)).trans (unhide HC5).1
 have c1 := (f7.cell (p := ⟨rg, rr + i * 5 + 1, none⟩) hrgl (fun h => h)).trans (unhide HC5).2.1
 have c2 := (f7.cell (p := ⟨rg, rr + i * 5 + 2, none⟩) hrgl (fun h => h)).trans (unhide HC5).2.2.1
 have c3 := (f7.cell (p := ⟨rg, rr + i * 5 + 3, none⟩) hrgl (fun h => h)).trans (unhide HC5).2.2.2.1
 have c4 := (f7.cell (p := ⟨rg, rr + i * 5 + 4, none⟩) hrgl (fun h => h)).trans (unhide HC5).2.2.2.2
 have l5 : rg < w7.heap.size := Nat.lt_of_lt_of_le hrgl f7.size
 clear f7
 by_cases h0 : ve = 0
 ·have HC0 := hide (show ve = 0 ∨ vn < ve from .inl h0)
  have v4 : decide ((ve : Int) < 1) = true := decide_eq_true (by omega)
  have v5 : (ve : Int) < 1 := by omega
  clear h0
  go_wp2_with fail
  clear p0 p1 q0 q1 q2 q3 q4 q5 q6 q7 q8 q9 l0 l1 c0 c1 c2 c3 c4 l5
  have A8 := hide ((unhide A7).fr ((box1 w7 (.cells #[.int .u32 (cl : Nat), .int .u32 (nu : Nat), .int .u8 0, .int .u32 (rc : Nat), .int .u32 0, .slice none 0 0, .slice none 0 0] 45)).alloc (.cells #[.int .u32 (xw : Nat), .int .u32 (xo : Nat), .bool xs, .slice go gn gc, .slice vg vn vcap] 78)))
  refine wp_region_noPanic ?_
  have B0 := hide ((unhide A8).fr (Fr.refl _ _).drew)
  refine wp_region_held_drew (S := S12W w so sn sc (some ⟨rg, rr, none⟩) rn rcap cl nu ac op rc ve wa ow fo fn fc rs) (by kernel_rfl) (unhide B0).s12 (fun hHeld => ?_)
  refine wtk (i := 0) (v := ?_) rfl (Or.inl ⟨by rfl, ?_⟩) hHeld ?_
  rotate_left
  ·intro w hSw; dsimp only [S12W] at hSw; go_simp; (try with_reducible rfl)
  (try simp only [Act.put, nrm])
  refine wtk (i := 1) (v := ?_) rfl (Or.inl ⟨by rfl, ?_⟩) hHeld ?_
  rotate_left
  ·intro w hSw; dsimp only [S12W] at hSw; go_simp; (try with_reducible rfl)
  (try simp only [Act.put, nrm])
  refine wpAnyH_ready (rs := [2]) (by kernel_rfl) (by simp) (AllReadyH.cons rfl (fun K hK => ?_) (AllReadyH.nil))
  go_simp
  refine ((unhide HRf) 4 _).mono ?_
  rintro e w1 ⟨rfl, f1⟩
  have B1 := hide ((unhide B0).fr f1)
  clear f1
  go_simp
  refine hK.out _ _ (unhide B1).s12 (fun hHeld => ?_)
  clear hK K
  (try simp only [Act.put, nrm])
  refine wpAnyH_ready (rs := [3]) (by kernel_rfl) (by simp) (AllReadyH.cons rfl (fun K hK => ?_) (AllReadyH.nil))
  obtain ⟨W2, st2, a2, _⟩ := (unhide B1).putA (.slice so sn sc) (.slice (some ⟨rg, rr, none⟩) rn rcap) (fun u hu => by simp at hu; rcases hu with rfl | rfl <;> rfl)
  have H2 := hide st2
  have B2 := hide a2
  clear st2 a2
  refine step_stN rfl 36 (.tmp 6) (.tmp 157) rfl _ _ (by simp [Act.eval]) (by simp [Act.eval]) (unhide H2) ?_
  refine hK.out _ _ (unhide B2).s12 (fun hHeld => ?_)
  clear hK K
  (try simp only [Act.put])
  refine wpAnyH_ready (rs := [4]) (by kernel_rfl) (by simp) (AllReadyH.cons rfl (fun K hK => ?_) (AllReadyH.nil))
  obtain ⟨W3, st3, a3, _⟩ := (unhide B2).putB (.int .u32 (cl : Nat)) (.int .u32 (nu : Nat)) (.int .u8 4) (.int .u32 0) (.int .u32 0) (.slice none 0 0) (.slice none 0 0) (fun u hu => by simp at hu; rcases hu with rfl | rfl | rfl | rfl | rfl | rfl | rfl <;> rfl)
  have H3 := hide st3
  have B3 := hide a3
  clear st3 a3
  refine step_stN rfl 45 (.tmp 7) (.tmp 159) rfl _ _ (by simp [Act.eval]) (by simp [Act.eval]) (unhide H3) ?_
  refine hK.out _ _ (unhide B3).s12 (fun hHeld => ?_)
  clear hK K
  (try simp only [Act.put])
  refine wpAnyH_done (by kernel_rfl) ?_ _
  refine NoPanic.normal ?_
  go_wp2_with fail
  refine bodyPost_ret (results_cells2 rfl _ _ (w.heap.size + 2) (w.heap.size + 3) [.slice so sn sc, .slice (some ⟨rg, rr, none⟩) rn rcap] [.int .u32 (cl : Nat), .int .u32 (nu : Nat), .int .u8 4, .int .u32 0, .int .u32 0, .slice none 0 0, .slice none 0 0] _ _ rfl rfl (unhide B3).range.1 (unhide B3).range.2 Tryz.underlying36 rfl (by kernel_rfl) Tryz.underlying45 rfl (by kernel_rfl)) rfl ?_
  exact Or.inl ⟨unhide HC0, rfl, (unhide B3).f⟩
 by_cases hvv : vn < ve
 ·have HC0 := hide (show ve = 0 ∨ vn < ve from .inr hvv)
  have v4 : decide ((ve : Int) < 1) = false := decide_eq_false (by omega)
  have v5 : ¬ (ve : Int) < 1 := by omega
  have v2 : (vn : Int) < (ve : Int) := by omega
  have v3 : vn < ve := by omega
  clear h0 hvv
  go_wp2_with fail
  clear p0 p1 q0 q1 q2 q3 q4 q5 q6 q7 q8 q9 l0 l1 c0 c1 c2 c3 c4 l5
  have A8 := hide ((unhide A7).fr ((box1 w7 (.cells #[.int .u32 (cl : Nat), .int .u32 (nu : Nat), .int .u8 0, .int .u32 (rc : Nat), .int .u32 0, .slice none 0 0, .slice none 0 0] 45)).alloc (.cells #[.int .u32 (xw : Nat), .int .u32 (xo : Nat), .bool xs, .slice go gn gc, .slice vg vn vcap] 78)))
  refine wp_region_noPanic ?_
  have B0 := hide ((unhide A8).fr (Fr.refl _ _).drew)
  refine wp_region_held_drew (S := S12W w so sn sc (some ⟨rg, rr, none⟩) rn rcap cl nu ac op rc ve wa ow fo fn fc rs) (by kernel_rfl) (unhide B0).s12 (fun hHeld => ?_)
  refine wtk (i := 0) (v := ?_) rfl (Or.inl ⟨by rfl, ?_⟩) hHeld ?_
  rotate_left
  ·intro w hSw; dsimp only [S12W] at hSw; go_simp; (try with_reducible rfl)
  (try simp only [Act.put, nrm])
  refine wtk (i := 1) (v := ?_) rfl (Or.inl ⟨by rfl, ?_⟩) hHeld ?_
  rotate_left
  ·intro w hSw; dsimp only [S12W] at hSw; go_simp; (try with_reducible rfl)
  (try simp only [Act.put, nrm])
  refine wpAnyH_ready (rs := [2]) (by kernel_rfl) (by simp) (AllReadyH.cons rfl (fun K hK => ?_) (AllReadyH.nil))
  go_simp
  refine ((unhide HRf) 4 _).mono ?_
  rintro e w1 ⟨rfl, f1⟩
  have B1 := hide ((unhide B0).fr f1)
  clear f1
  go_simp
  refine hK.out _ _ (unhide B1).s12 (fun hHeld => ?_)
  clear hK K
  (try simp only [Act.put, nrm])
  refine wpAnyH_ready (rs := [3]) (by kernel_rfl) (by simp) (AllReadyH.cons rfl (fun K hK => ?_) (AllReadyH.nil))
  obtain ⟨W2, st2, a2, _⟩ := (unhide B1).putA (.slice so sn sc) (.slice (some ⟨rg, rr, none⟩) rn rcap) (fun u hu => by simp at hu; rcases hu with rfl | rfl <;> rfl)
  have H2 := hide st2
  have B2 := hide a2
  clear st2 a2
  refine step_stN rfl 36 (.tmp 6) (.tmp 157) rfl _ _ (by simp [Act.eval]) (by simp [Act.eval]) (unhide H2) ?_
  refine hK.out _ _ (unhide B2).s12 (fun hHeld => ?_)
  clear hK K
  (try simp only [Act.put])
  refine wpAnyH_ready (rs := [4]) (by kernel_rfl) (by simp) (AllReadyH.cons rfl (fun K hK => ?_) (AllReadyH.nil))
  obtain ⟨W3, st3, a3, _⟩ := (unhide B2).putB (.int .u32 (cl : Nat)) (.int .u32 (nu : Nat)) (.int .u8 4) (.int .u32 0) (.int .u32 0) (.slice none 0 0) (.slice none 0 0) (fun u hu => by simp at hu; rcases hu with rfl | rfl | rfl | rfl | rfl | rfl | rfl <;> rfl)
  have H3 := hide st3
  have B3 := hide a3
  clear st3 a3
  refine step_stN rfl 45 (.tmp 7) (.tmp 159) rfl _ _ (by simp [Act.eval]) (by simp [Act.eval]) (unhide H3) ?_
  refine hK.out _ _ (unhide B3).s12 (fun hHeld => ?_)
  clear hK K
  (try simp only [Act.put])
  refine wpAnyH_done (by kernel_rfl) ?_ _
  refine NoPanic.normal ?_
  go_wp2_with fail
  refine bodyPost_ret (results_cells2 rfl _ _ (w.heap.size + 2) (w.heap.size + 3) [.slice so sn sc, .slice (some ⟨rg, rr, none⟩) rn rcap] [.int .u32 (cl : Nat), .int .u32 (nu : Nat), .int .u8 4, .int .u32 0, .int .u32 0, .slice none 0 0, .slice none 0 0] _ _ rfl rfl (unhide B3).range.1 (unhide B3).range.2 Tryz.underlying36 rfl (by kernel_rfl) Tryz.underlying45 rfl (by kernel_rfl)) rfl ?_
  exact Or.inl ⟨unhide HC0, rfl, (unhide B3).f⟩
 by_cases hlt : ve < vn
 ·have HC0 := hide (And.intro h0 hlt)
  have v4 : decide ((ve : Int) < 1) = false := decide_eq_false (by omega)
  have v5 : ¬ (ve : Int) < 1 := by omega
  have v2 : ¬ (vn : Int) < (ve : Int) := by omega
  have v3 : ¬ vn < ve := by omega
  have v6 : ((ve : Int) != (vn : Int)) = true := by rw [bne_iff_ne]; omega
  have v7 : ¬ (ve : Int) = (vn : Int) := by omega
  have v8 : ¬ ve = vn := by omega
  clear h0 hvv hlt
  go_wp2_with fail
  clear p0 p1 q0 q1 q2 q3 q4 q5 q6 q7 q8 q9 l0 l1 c0 c1 c2 c3 c4 l5
  have A8 := hide ((unhide A7).fr ((box1 w7 (.cells #[.int .u32 (cl : Nat), .int .u32 (nu : Nat), .int .u8 0, .int .u32 (rc : Nat), .int .u32 0, .slice none 0 0, .slice none 0 0] 45)).alloc (.cells #[.int .u32 (xw : Nat), .int .u32 (xo : Nat), .bool xs, .slice go gn gc, .slice vg vn vcap] 78)))
  refine wp_region_noPanic ?_
  have B0 := hide ((unhide A8).fr (Fr.refl _ _).drew)
  refine wp_region_held_drew (S := S12W w so sn sc (some ⟨rg, rr, none⟩) rn rcap cl nu ac op rc ve wa ow fo fn fc rs) (by kernel_rfl) (unhide B0).s12 (fun hHeld => ?_)
  refine wtk (i := 0) (v := ?_) rfl (Or.inl ⟨by rfl, ?_⟩) hHeld ?_
  rotate_left
  ·intro w hSw; dsimp only [S12W] at hSw; go_simp; (try with_reducible rfl)
  (try simp only [Act.put, nrm])
  refine wtk (i := 1) (v := ?_) rfl (Or.inl ⟨by rfl, ?_⟩) hHeld ?_
  rotate_left
  ·intro w hSw; dsimp only [S12W] at hSw; go_simp; (try with_reducible rfl)
  (try simp only [Act.put, nrm])
  refine wpAnyH_ready (rs := [2]) (by kernel_rfl) (by simp) (AllReadyH.cons rfl (fun K hK => ?_) (AllReadyH.nil))
  go_simp
  refine ((unhide HRf) 7 _).mono ?_
  rintro e w1 ⟨rfl, f1⟩
  have B1 := hide ((unhide B0).fr f1)
  clear f1
  go_simp
  refine hK.out _ _ (unhide B1).s12 (fun hHeld => ?_)
  clear hK K
  (try simp only [Act.put, nrm])
  refine wpAnyH_ready (rs := [3]) (by kernel_rfl) (by simp) (AllReadyH.cons rfl (fun K hK => ?_) (AllReadyH.nil))
  obtain ⟨W2, st2, a2, _⟩ := (unhide B1).putA (.slice so sn sc) (.slice (some ⟨rg, rr, none⟩) rn rcap) (fun u hu => by simp at hu; rcases hu with rfl | rfl <;> rfl)
  have H2 := hide st2
  have B2 := hide a2
  clear st2 a2
  refine step_stN rfl 36 (.tmp 6) (.tmp 163) rfl _ _ (by simp [Act.eval]) (by simp [Act.eval]) (unhide H2) ?_
  refine hK.out _ _ (unhide B2).s12 (fun hHeld => ?_)
  clear hK K
  (try simp only [Act.put])
  refine wpAnyH_ready (rs := [4]) (by kernel_rfl) (by simp) (AllReadyH.cons rfl (fun K hK => ?_) (AllReadyH.nil))
  obtain ⟨W3, st3, a3, _⟩ := (unhide B2).putB (.int .u32 (cl : Nat)) (.int .u32 (nu : Nat)) (.int .u8 7) (.int .u32 0) (.int .u32 0) (.slice none 0 0) (.slice none 0 0) (fun u hu => by simp at hu; rcases hu with rfl | rfl | rfl | rfl | rfl | rfl | rfl <;> rfl)
  have H3 := hide st3
  have B3 := hide a3
  clear st3 a3
  refine step_stN rfl 45 (.tmp 7) (.tmp 165) rfl _ _ (by simp [Act.eval]) (by simp [Act.eval]) (unhide H3) ?_
  refine hK.out _ _ (unhide B3).s12 (fun hHeld => ?_)
  clear hK K
  (try simp only [Act.put])
  refine wpAnyH_done (by kernel_rfl) ?_ _
  refine NoPanic.normal ?_
  go_wp2_with fail
  refine bodyPost_ret (results_cells2 rfl _ _ (w.heap.size + 2) (w.heap.size + 3) [.slice so sn sc, .slice (some ⟨rg, rr, none⟩) rn rcap] [.int .u32 (cl : Nat), .int .u32 (nu : Nat), .int .u8 7, .int .u32 0, .int .u32 0, .slice none 0 0, .slice none 0 0] _ _ rfl rfl (unhide B3).range.1 (unhide B3).range.2 Tryz.underlying36 rfl (by kernel_rfl) Tryz.underlying45 rfl (by kernel_rfl)) rfl ?_
  exact Or.inr (Or.inl ⟨(unhide HC0).1, (unhide HC0).2, rfl, (unhide B3).f⟩)
 have HEQ := hide (show ve = vn by omega)
 have v4 : decide ((ve : Int) < 1) = false := decide_eq_false (by omega)
 have v5 : ¬ (ve : Int) < 1 := by omega
 have v2 : ¬ (vn : Int) < (ve : Int) := by omega
 have v3 : ¬ vn < ve := by omega
 have hvn : vn ≤ 64 := (unhide HYY).2.2.1
 have hm := (unhide HMM).1
 have v6 : ((ve : Int) != (vn : Int)) = false := by rw [bne_eq_false_iff_eq]; omega
 have v7 : (vn : Int) - 1 = (m : Int) := by omega
 have v9 : IntKind.i64.wrap (m : Int) = (m : Int) := by rw [IntKind.wrap_i64]; omega
 have w1 : (m : Int) < (vn : Int) := by omega
 have n2 : IntKind.i64.wrap ((vn : Int) + 1) = (vn : Int) + 1 := by rw [IntKind.wrap_i64]; omega
 have n3 : IntKind.u32.wrap ((vn : Int) + 1) = (vn : Int) + 1 := by rw [IntKind.wrap_u32]; omega
 clear h0 hvv hlt hvn hm
 have hrd7 := (unhide HGX).v.frS (unhide A7).f (fun _ _ h => h)
 obtain ⟨vgg, vgo, hve0, hvc⟩ := hrd7.at_ (Nat.lt_of_le_of_lt (Nat.zero_le m) (List.getElem?_eq_some_iff.1 (unhide HYY).1).1)
 subst hve0
 have hat := vgc_at xV m _ (unhide HYY).1
 have d2 := hvc (m * 4 + 2) _ (by have := hat 2 (by omega); simpa [GV.cs] using this)
 have d3 := hvc (m * 4 + 3) _ (by have := hat 3 (by omega); simpa [GV.cs] using this)
 rw [← Nat.add_assoc] at d2 d3
 have l6 : vgg < w7.heap.size := lt_of_cell d3
 have HRD := hide hrd7
 clear hvc hat hrd7
 have HFO := hide ((unhide HGX).f _ (List.mem_of_getElem? (unhide HYY).1))
 have HOL : Hid (O.length ≤ 1000 ∧ ∀ f ∈ O ++ C, f.u < 256) := by
  have h1 := unhide HMM
  have h2 := (unhide HYY).2.2.2.2
  cases rd
  ·rw [h1.2.2 rfl]; exact ⟨h2.1, h2.2.2⟩
  ·rw [h1.2.1 rfl]; exact ⟨by simp, fun f hf => h2.2.2 f (by simp at hf; simp [hf])⟩
 have HFO2 : Hid (∀ W, Fr (fun _ => False) w W → (rd = true → Fds W (.slice none 0 0) O) ∧ (rd = false → Fds W (.slice fa fl fb) O)) := fun W hW => ⟨fun h => by rw [(unhide HMM).2.1 h]; exact .inl ⟨none, 0, rfl, rfl⟩, fun h => by rw [(unhide HMM).2.2 h]; exact (unhide HFO).fr hW⟩
 clear HFO
 cases rd
 all_goals
  go_wp2_with fail
  clear p0 p1 q0 q1 q2 q3 q4 q5 q6 q7 q8 q9 l0 l1 c0 c1 c2 c3 c4 l5 d2 d3 l6
  obtain ⟨b9, hb9⟩ : ∃ b9, b9 = w7.heap.size := ⟨_, rfl⟩
  obtain ⟨bx, hbx⟩ : ∃ bx, bx = w7.heap.size + 1 := ⟨_, rfl⟩
  obtain ⟨W2, hW2⟩ : ∃ W2, W2 = (w7.alloc (.cells #[.int .u32 (cl : Nat), .int .u32 (nu : Nat), .int .u8 0, .int .u32 (rc : Nat), .int .u32 0, .slice none 0 0, .slice none 0 0] 45)).alloc (.cells #[.int .u32 (xw : Nat), .int .u32 (xo : Nat), .bool xs, .slice go gn gc, .slice (some ⟨vgg, vgo, none⟩) vn vcap] 78) := ⟨_, rfl⟩
  have f2 : Fr (fun _ => False) w7 W2 := by rw [hW2]; exact (box1 w7 _).alloc _
  have k9 : W2.heap[b9]? = some (.cells #[.int .u32 (cl : Nat), .int .u32 (nu : Nat), .int .u8 0, .int .u32 (rc : Nat), .int .u32 0, .slice none 0 0, .slice none 0 0] 45) := by rw [hW2, hb9]; exact ((box1 _ _).block _ (by simp) (fun h => h)).trans Array.getElem?_push_size
  have kx : W2.heap[bx]? = some (.cells #[.int .u32 (xw : Nat), .int .u32 (xo : Nat), .bool xs, .slice go gn gc, .slice (some ⟨vgg, vgo, none⟩) vn vcap] 78) := by rw [hW2, hbx]; exact heap_two w7 _ _
  have BL := hide (show w.heap.size + 4 ≤ b9 ∧ w.heap.size + 4 ≤ bx ∧ b9 ≠ bx ∧ bx < W2.heap.size ∧ b9 < W2.heap.size by have := lt_of_block (unhide A7).b; have := lt_of_block k9; have := lt_of_block kx; omega)
  have K9 := hide k9
  have KX := hide kx
  have A2 := hide ((unhide A7).fr f2)
  have F2 := hide f2
  rw [← hW2, ← hbx, ← hb9]
  clear hW2 hb9 hbx k9 kx f2
  refine (gmerged_any _ (.slice fo fn fc) O C W2 (by first | exact ((unhide HFO2) _ (unhide A2).f).1 (by trivial) | exact ((unhide HFO2) _ (unhide A2).f).2 (by trivial)) ((unhide HYY).2.2.2.1.fr (unhide A2).f) (unhide HOL).1 (unhide HYY).2.2.2.2.2.1 (unhide HOL).2).mono ?_
  rintro e w8 ⟨nv, rfl, hnv, f8⟩
  obtain ⟨M, hM⟩ : ∃ M, (srtN (gmrg O C).length 0 (gmrg O C)) = M := ⟨_, rfl⟩
  rw [hM] at hnv
  obtain ⟨bd, hbd⟩ : ∃ bd, remU C O = bd := ⟨_, rfl⟩
  rw [hbd]
  obtain ⟨no, nc, rfl⟩ := own_formX hnv
  obtain ⟨ml, hml⟩ : ∃ ml, M.length = ml := ⟨_, rfl⟩
  rw [hml] at hnv ⊢
  have HM := hide (And.intro hM (And.intro hbd hml))
  clear hM hbd hml
  have A8 := hide ((unhide A2).fr f8)
  by_cases h64 : vn = 64
  ·have w2 : ((vn : Int) == 64) = true := by rw [beq_iff_eq]; omega
   have HCC := hide h64
   clear h64 f8 hnv A2 A7 HRD
   go_wp2_with fail
   refine wp_region_noPanic ?_
   have B0 := hide ((unhide A8).fr (Fr.refl _ _).drew)
   refine wp_region_held_drew (S := S12W w so sn sc (some ⟨rg, rr, none⟩) rn rcap cl nu ac op rc ve wa ow fo fn fc rs) (by kernel_rfl) (unhide B0).s12 (fun hHeld => ?_)
   refine wtk (i := 0) (v := ?_) rfl (Or.inl ⟨by rfl, ?_⟩) hHeld ?_
   rotate_left
   ·intro w hSw; dsimp only [S12W] at hSw; go_simp; (try with_reducible rfl)
   (try simp only [Act.put, nrm])
   refine wtk (i := 1) (v := ?_) rfl (Or.inl ⟨by rfl, ?_⟩) hHeld ?_
   rotate_left
   ·intro w hSw; dsimp only [S12W] at hSw; go_simp; (try with_reducible rfl)
   (try simp only [Act.put, nrm])
   refine wpAnyH_ready (rs := [2]) (by kernel_rfl) (by simp) (AllReadyH.cons rfl (fun K hK => ?_) (AllReadyH.nil))
   go_simp
   refine ((unhide HRf) 9 _).mono ?_
   rintro e w1 ⟨rfl, f1⟩
   have B1 := hide ((unhide B0).fr f1)
   clear f1
   go_simp
   refine hK.out _ _ (unhide B1).s12 (fun hHeld => ?_)
   clear hK K
   (try simp only [Act.put, nrm])
   refine wpAnyH_ready (rs := [3]) (by kernel_rfl) (by simp) (AllReadyH.cons rfl (fun K hK => ?_) (AllReadyH.nil))
   obtain ⟨W2, st2, a2, _⟩ := (unhide B1).putA (.slice so sn sc) (.slice (some ⟨rg, rr, none⟩) rn rcap) (fun u hu => by simp at hu; rcases hu with rfl | rfl <;> rfl)
   have H2 := hide st2
   have B2 := hide a2
   clear st2 a2
   refine step_stN rfl 36 (.tmp 6) (.tmp 195) rfl _ _ (by simp [Act.eval]) (by simp [Act.eval]) (unhide H2) ?_
   refine hK.out _ _ (unhide B2).s12 (fun hHeld => ?_)
   clear hK K
   (try simp only [Act.put])
   refine wpAnyH_ready (rs := [4]) (by kernel_rfl) (by simp) (AllReadyH.cons rfl (fun K hK => ?_) (AllReadyH.nil))
   obtain ⟨W3, st3, a3, _⟩ := (unhide B2).putB (.int .u32 (cl : Nat)) (.int .u32 (nu : Nat)) (.int .u8 9) (.int .u32 0) (.int .u32 0) (.slice none 0 0) (.slice none 0 0) (fun u hu => by simp at hu; rcases hu with rfl | rfl | rfl | rfl | rfl | rfl | rfl <;> rfl)
   have H3 := hide st3
   have B3 := hide a3
   clear st3 a3
   refine step_stN rfl 45 (.tmp 7) (.tmp 197) rfl _ _ (by simp [Act.eval]) (by simp [Act.eval]) (unhide H3) ?_
   refine hK.out _ _ (unhide B3).s12 (fun hHeld => ?_)
   clear hK K
   (try simp only [Act.put])
   refine wpAnyH_done (by kernel_rfl) ?_ _
   refine NoPanic.normal ?_
   go_wp2_with fail
   refine bodyPost_ret (results_cells2 rfl _ _ (w.heap.size + 2) (w.heap.size + 3) [.slice so sn sc, .slice (some ⟨rg, rr, none⟩) rn rcap] [.int .u32 (cl : Nat), .int .u32 (nu : Nat), .int .u8 9, .int .u32 0, .int .u32 0, .slice none 0 0, .slice none 0 0] _ _ rfl rfl (unhide B3).range.1 (unhide B3).range.2 Tryz.underlying36 rfl (by kernel_rfl) Tryz.underlying45 rfl (by kernel_rfl)) rfl ?_
   exact Or.inr (Or.inr (Or.inl ⟨unhide HEQ, .inl (unhide HCC), rfl, (unhide B3).f⟩))
  have w2 : ((vn : Int) == 64) = false := by rw [beq_eq_false_iff_ne]; omega
  have HC64 := hide h64
  clear h64
  by_cases h32 : 32 < ml
  ·have m2 : (32 : Int) < (ml : Int) := by omega
   have HCC := hide h32
   clear f8 hnv A2 A7 HRD
   go_wp2_with fail
   refine wp_region_noPanic ?_
   have B0 := hide ((unhide A8).fr (Fr.refl _ _).drew)
   refine wp_region_held_drew (S := S12W w so sn sc (some ⟨rg, rr, none⟩) rn rcap cl nu ac op rc ve wa ow fo fn fc rs) (by kernel_rfl) (unhide B0).s12 (fun hHeld => ?_)
   refine wtk (i := 0) (v := ?_) rfl (Or.inl ⟨by rfl, ?_⟩) hHeld ?_
   rotate_left
   ·intro w hSw; dsimp only [S12W] at hSw; go_simp; (try with_reducible rfl)
   (try simp only [Act.put, nrm])
   refine wtk (i := 1) (v := ?_) rfl (Or.inl ⟨by rfl, ?_⟩) hHeld ?_
   rotate_left
   ·intro w hSw; dsimp only [S12W] at hSw; go_simp; (try with_reducible rfl)
   (try simp only [Act.put, nrm])
   refine wpAnyH_ready (rs := [2]) (by kernel_rfl) (by simp) (AllReadyH.cons rfl (fun K hK => ?_) (AllReadyH.nil))
   go_simp
   refine ((unhide HRf) 9 _).mono ?_
   rintro e w1 ⟨rfl, f1⟩
   have B1 := hide ((unhide B0).fr f1)
   clear f1
   go_simp
   refine hK.out _ _ (unhide B1).s12 (fun hHeld => ?_)
   clear hK K
   (try simp only [Act.put, nrm])
   refine wpAnyH_ready (rs := [3]) (by kernel_rfl) (by simp) (AllReadyH.cons rfl (fun K hK => ?_) (AllReadyH.nil))
   obtain ⟨W2, st2, a2, _⟩ := (unhide B1).putA (.slice so sn sc) (.slice (some ⟨rg, rr, none⟩) rn rcap) (fun u hu => by simp at hu; rcases hu with rfl | rfl <;> rfl)
   have H2 := hide st2
   have B2 := hide a2
   clear st2 a2
   refine step_stN rfl 36 (.tmp 6) (.tmp 195) rfl _ _ (by simp [Act.eval]) (by simp [Act.eval]) (unhide H2) ?_
   refine hK.out _ _ (unhide B2).s12 (fun hHeld => ?_)
   clear hK K
   (try simp only [Act.put])
   refine wpAnyH_ready (rs := [4]) (by kernel_rfl) (by simp) (AllReadyH.cons rfl (fun K hK => ?_) (AllReadyH.nil))
   obtain ⟨W3, st3, a3, _⟩ := (unhide B2).putB (.int .u32 (cl : Nat)) (.int .u32 (nu : Nat)) (.int .u8 9) (.int .u32 0) (.int .u32 0) (.slice none 0 0) (.slice none 0 0) (fun u hu => by simp at hu; rcases hu with rfl | rfl | rfl | rfl | rfl | rfl | rfl <;> rfl)
   have H3 := hide st3
   have B3 := hide a3
   clear st3 a3
   refine step_stN rfl 45 (.tmp 7) (.tmp 197) rfl _ _ (by simp [Act.eval]) (by simp [Act.eval]) (unhide H3) ?_
   refine hK.out _ _ (unhide B3).s12 (fun hHeld => ?_)
   clear hK K
   (try simp only [Act.put])
   refine wpAnyH_done (by kernel_rfl) ?_ _
   refine NoPanic.normal ?_
   go_wp2_with fail
   refine bodyPost_ret (results_cells2 rfl _ _ (w.heap.size + 2) (w.heap.size + 3) [.slice so sn sc, .slice (some ⟨rg, rr, none⟩) rn rcap] [.int .u32 (cl : Nat), .int .u32 (nu : Nat), .int .u8 9, .int .u32 0, .int .u32 0, .slice none 0 0, .slice none 0 0] _ _ rfl rfl (unhide B3).range.1 (unhide B3).range.2 Tryz.underlying36 rfl (by kernel_rfl) Tryz.underlying45 rfl (by kernel_rfl)) rfl ?_
   exact Or.inr (Or.inr (Or.inl ⟨unhide HEQ, Or.inr (by rw [(unhide HM).1, (unhide HM).2.2]; exact unhide HCC), rfl, (unhide B3).f⟩))
  have m2 : ¬ (32 : Int) < (ml : Int) := by omega
  have HC32 : Hid (¬ 32 < (srtN (gmrg O C).length 0 (gmrg O C)).length) := by rw [(unhide HM).1, (unhide HM).2.2]; exact h32
  cases bd
  ·have F8 := hide f8
   have HNW := hide hnv
   skip
   have HRD8 := hide (((unhide HRD).frS (unhide F2) (fun _ _ h => h)).frS f8 (fun _ _ h => h))
   have KX8 := hide ((f8.block bx (lt_of_block (unhide KX)) (fun h => h)).trans (unhide KX))
   have K98 := hide ((f8.block b9 (lt_of_block (unhide K9)) (fun h => h)).trans (unhide K9))
   have HSS : Hid (∀ W, Fr (fun _ => False) w8 W → W.cell? ⟨bx, 4, none⟩ = some (.slice (some ⟨vgg, vgo, none⟩) vn vcap) ∧ W.cell? ⟨w.heap.size + 1, 2, none⟩ = some (.int .u32 (ac : Nat))) := fun W hW => by
    have h1 := (hW.block bx (lt_of_block (unhide KX8)) (fun h => h)).trans (unhide KX8)
    have h2 := ((unhide A8).fr hW).r
    exact ⟨by simp [World.cell?, h1], by simp [World.cell?, h2]⟩
   clear hnv f8 A2 A7 HRD F2 KX K9 HRf h32
   go_wp2_with fail
   refine wp_region_last (n := 11) (m := 11) (S := (fun W => W.cell? ⟨bx, 4, none⟩ = some (.slice (some ⟨vgg, vgo, none⟩) vn vcap) ∧ W.cell? ⟨w.heap.size + 1, 2, none⟩ = some (.int .u32 (ac : Nat)))) (by kernel_rfl) rfl rfl rfl (by kernel_rfl) (by kernel_rfl) ((unhide HSS) _ (Fr.refl _ _).drew) (fun hHeld => ?_)
   refine wtk2 (i := 0) rfl hHeld ?_
   (try simp only [Act.put, nrm])
   refine wtk2 (i := 1) rfl hHeld ?_
   (try simp only [Act.put, nrm])
   refine wtk2 (i := 3) rfl hHeld ?_
   (try simp only [Act.put, nrm])
   refine wtk2 (i := 4) rfl hHeld ?_
   (try simp only [Act.put, nrm])
   refine wtk2 (i := 5) rfl hHeld ?_
   (try simp only [Act.put, nrm])
   refine wtk2 (i := 6) rfl hHeld ?_
   (try simp only [Act.put, nrm])
   refine wtk2 (i := 7) rfl hHeld ?_
   (try simp only [Act.put, nrm])
   refine wpAnyH_ready (rs := [2, 8]) (by kernel_rfl) (by simp) (AllReadyH.cons rfl (fun K hK => ?_) (AllReadyH.cons rfl (fun K hK => ?_) AllReadyH.nil))
   focus
    go_simp
    refine (gversions_any _ xV w8.drew ((unhide HRD8).frS ((Fr.refl (fun _ => False) w8).drew) (fun _ _ h => h)) (unhide HVO) (by have := (unhide HYY).2; omega)).mono ?_
    rintro e w9 ⟨vv, rfl, hvv, f9⟩
    have f89 := (((Fr.refl (fun _ => False) w8).drew)).trans f9 (fun _ _ h => h)
    rw [(unhide HYY).2.1] at hvv
    obtain ⟨vo, vcp, rfl⟩ := own_formX hvv
    go_simp
    refine hK.out _ _ ((unhide HSS) _ f89) (fun hHeld => ?_)
    clear hK K
    (try simp only [Act.put, nrm])
    have f8A := f89.trans (box1 w9 (.cells #[.int .u32 (ac : Nat), .int .u32 (place : Nat), .slice no ml nc, .bool false] 75)) (fun _ _ h => h)
    refine wpAnyH_ready (rs := [8]) (by kernel_rfl) (by simp) (AllReadyH.cons rfl (fun K hK => ?_) AllReadyH.nil)
    go_simp
    refine hK.out _ _ ((unhide HSS) _ f8A) (fun hHeld => ?_)
    clear hK K
    (try simp only [Act.put, nrm])
    obtain ⟨ao, cap, w10, hr10, ho10, hf10⟩ := app_GV (w9.alloc (.cells #[.int .u32 (ac : Nat), .int .u32 (place : Nat), .slice no ml nc, .bool false] 75)) w8.heap.size w9.heap.size (.slice vo vn vcp) xV (⟨⟨ac, place, M, false⟩, .slice no ml nc⟩ : GV) (by rw [(unhide HYY).2.1]; exact (ownsRow_base hvv (Nat.le_refl _)).alloc _) (by have := f89.size; simp at this ⊢; omega) (by have := (unhide HYY).2; omega) Array.getElem?_push_size (fun u hu => by simp [GV.cs] at hu; rcases hu with rfl | rfl | rfl | rfl <;> rfl)
    rw [(unhide HYY).2.1] at hr10 ho10
    have HR10 := hide hr10
    have F10 := hide (f8A.absorb hf10 (fun k hk => (hvv.lt k hk).1))
    have HO10 := hide ho10
    clear hvv f9 f89 f8A hr10 ho10 hf10
   rotate_left
   focus
    go_simp
    have f8A := ((Fr.refl (fun _ => False) w8).drew).trans (box1 w8.drew (.cells #[.int .u32 (ac : Nat), .int .u32 (place : Nat), .slice no ml nc, .bool false] 75)) (fun _ _ h => h)
    refine hK.out _ _ ((unhide HSS) _ f8A) (fun hHeld => ?_)
    clear hK K
    (try simp only [Act.put, nrm])
    refine wpAnyH_ready (rs := [2]) (by kernel_rfl) (by simp) (AllReadyH.cons rfl (fun K hK => ?_) AllReadyH.nil)
    go_simp
    refine (gversions_any _ xV (w8.drew.alloc (.cells #[.int .u32 (ac : Nat), .int .u32 (place : Nat), .slice no ml nc, .bool false] 75)) ((unhide HRD8).frS f8A (fun _ _ h => h)) (unhide HVO) (by have := (unhide HYY).2; omega)).mono ?_
    rintro e w9 ⟨vv, rfl, hvv, f9⟩
    have f89 := (f8A).trans f9 (fun _ _ h => h)
    rw [(unhide HYY).2.1] at hvv
    obtain ⟨vo, vcp, rfl⟩ := own_formX hvv
    go_simp
    refine hK.out _ _ ((unhide HSS) _ f89) (fun hHeld => ?_)
    clear hK K
    (try simp only [Act.put, nrm])
    obtain ⟨ao, cap, w10, hr10, ho10, hf10⟩ := app_GV w9 w8.heap.size w8.heap.size (.slice vo vn vcp) xV (⟨⟨ac, place, M, false⟩, .slice no ml nc⟩ : GV) (by rw [(unhide HYY).2.1]; exact ownsRow_base hvv (by simp)) (by have := f89.size; simp at this ⊢; omega) (by have := (unhide HYY).2; omega) ((f9.block w8.heap.size (by simp) (fun h => h)).trans Array.getElem?_push_size) (fun u hu => by simp [GV.cs] at hu; rcases hu with rfl | rfl | rfl | rfl <;> rfl)
    rw [(unhide HYY).2.1] at hr10 ho10
    have HR10 := hide hr10
    have F10 := hide (f89.absorb hf10 (fun k hk => by have h1 := (hvv.lt k hk).1; simp at h1; omega))
    have HO10 := hide ho10
    clear hvv f9 f89 f8A hr10 ho10 hf10
   all_goals
    refine wpAnyH_ready (rs := [9]) (by kernel_rfl) (by simp) (AllReadyH.cons rfl (fun K hK => ?_) AllReadyH.nil)
    refine step_app rfl (.tmp 204) (.tmp 210) 76 76 rfl _ _ _ (by simp [Act.eval]) (by simp [Act.eval]) (unhide HR10) ?_
    refine hK.out _ _ ((unhide HSS) _ (unhide F10)) (fun hHeld => ?_)
    clear hK K
    (try simp only [Act.put, nrm])
    refine wtk2 (i := 10) rfl hHeld ?_
    (try simp only [Act.put, nrm])
    refine wpAnyH_done (by kernel_rfl) ?_ _
    simp only [lastQ]
    have ex := ((unhide F10).block bx (lt_of_block (unhide KX8)) (fun h => h)).trans (unhide KX8)
    have e9 := ((unhide F10).block b9 (lt_of_block (unhide K98)) (fun h => h)).trans (unhide K98)
    have x4 : w10.cell? ⟨bx, 4, none⟩ = some (.slice (some ⟨vgg, vgo, none⟩) vn vcap) := by simp [World.cell?, ex]
    have zx : w10.frozen? ⟨bx, 4, none⟩ = false := by simp [World.frozen?, ex]
    have a4 : w10.cell? ⟨b9, 4, none⟩ = some (.int .u32 0) := by simp [World.cell?, e9]
    have za : w10.frozen? ⟨b9, 4, none⟩ = false := by simp [World.frozen?, e9]
    have s5 : ¬ b9 = bx := (unhide BL).2.2.1
    have s6 : ¬ bx = b9 := fun e => s5 e.symm
    obtain ⟨WA, hWA⟩ : ∃ WA, WA = (w10.setCell ⟨bx, 4, none⟩ (.slice ao (vn + 1) cap)).setCell ⟨b9, 4, none⟩ (.int .u32 ((vn : Int) + 1)) := ⟨_, rfl⟩
    have g1 := (Fr.refl (fun k => k = bx) w10).setCell (p := ⟨bx, 4, none⟩) (.inl rfl) (.slice ao (vn + 1) cap)
    have g3 := (Fr.refl (fun k => k = b9) (w10.setCell ⟨bx, 4, none⟩ (.slice ao (vn + 1) cap))).setCell (p := ⟨b9, 4, none⟩) (.inl rfl) (.int .u32 ((vn : Int) + 1))
    rw [← hWA] at g3
    have t1 := heap_setCell_same w10 bx 4 _ 78 (.slice ao (vn + 1) cap) ex
    simp only [List.setIfInBounds_toArray, List.set_cons_zero, List.set_cons_succ] at t1
    have t2 := (g3.block bx (lt_of_block t1) s6).trans t1
    have u1 := (g1.block b9 (lt_of_block e9) s5).trans e9
    have u2 := heap_setCell_same _ b9 4 _ 45 (.int .u32 ((vn : Int) + 1)) u1
    simp only [List.setIfInBounds_toArray, List.set_cons_zero, List.set_cons_succ] at u2
    rw [← hWA] at u2
    have g4 : Fr (fun k => k = bx ∨ k = b9) w10 WA := (g1.mono (fun _ _ h => .inl h)).trans (g3.mono (fun _ _ h => .inr h)) (fun _ _ h => h)
    have hb8 : W2.heap.size ≤ w8.heap.size := (unhide F8).size
    have r1x := ownsRow_of_block (unhide HO10) (fun g hg => g4.block g ((unhide HO10).lt g hg).2 (fun e => by have h1 : w8.heap.size ≤ g := ((unhide HO10).lt g hg).1; have := unhide BL; omega))
    have hnw10 := ownsRow_of_block (unhide HNW) (fun g hg => (unhide F10).block g ((unhide HNW).lt g hg).2 (fun h => h))
    have r2x := ownsRow_of_block hnw10 (fun g hg => g4.block g (hnw10.lt g hg).2 (fun e => by have h1 : W2.heap.size ≤ g := (hnw10.lt g hg).1; have := unhide BL; omega))
    have A8b : Hid (AB w WA (.slice so sn sc) (.slice (some ⟨rg, rr, none⟩) rn rcap) #[.int .u32 (cl : Nat), .int .u32 (nu : Nat), .int .u32 (ac : Nat), .int .u8 (op : Nat), .int .u32 (rc : Nat), .int .u32 (ve : Nat), .int .u32 (wa : Nat), .int .u32 (ow : Nat), .slice fo fn fc, .string rs] #[.slice none 0 0, .slice none 0 0] #[.int .u32 0, .int .u32 0, .int .u8 0, .int .u32 0, .int .u32 0, .slice none 0 0, .slice none 0 0] ∧ WA.heap[b9]? = some (.cells #[.int .u32 (cl : Nat), .int .u32 (nu : Nat), .int .u8 0, .int .u32 (rc : Nat), .int .u32 ((vn : Int) + 1), .slice none 0 0, .slice none 0 0] 45) ∧ WA.heap[bx]? = some (.cells #[.int .u32 (xw : Nat), .int .u32 (xo : Nat), .bool xs, .slice go gn gc, .slice ao (vn + 1) cap] 78)) := ⟨((unhide A8).fr (unhide F10)).frS g4 (fun k hk => by have := unhide BL; omega), u2, t2⟩
    have HNV := hide (And.intro r1x (And.intro r2x (show w.heap.size + 4 ≤ W2.heap.size ∧ W2.heap.size ≤ w8.heap.size by have := (unhide BL); omega)))
    have HX1 : Hid (GC.one (⟨xw, xo, xs, xG, xV ++ [(⟨⟨ac, place, M, false⟩, .slice no ml nc⟩ : GV)], .slice go gn gc, .slice ao (vn + 1) cap⟩ : GC)) := ⟨rfl, rfl⟩
    clear ex e9 g1 g3 t1 t2 u1 u2 g4 r1x r2x hnw10 hb8 A8 K98 KX8 HRD8 HSS HR10 hHeld HO10 HNW
    have A8 := A8b
    clear A8b
    go_simp
    go_wp2_with fail
    rw [← hWA]
    clear hWA x4 zx a4 za s5 s6
    refine wp_region_noPanic ?_
    refine wp_region_held_drew (S := S74W w so sn sc (some ⟨rg, rr, none⟩) rn rcap cl nu ac op rc ve wa ow fo fn fc rs b9 (.int .u32 (cl : Nat)) (.int .u32 (nu : Nat)) (.int .u8 0) (.int .u32 (rc : Nat)) (.int .u32 ((vn : Int) + 1)) (.slice none 0 0) (.slice none 0 0) bx (.int .u32 (xw : Nat)) (.int .u32 (xo : Nat)) (.bool xs) (.slice go gn gc) (.slice ao (vn + 1) cap)) (by kernel_rfl) (((unhide A8).1.fr (Fr.refl _ _).drew).s74 (unhide A8).2.1 (unhide A8).2.2) (fun hHeld => ?_)
    refine wtk (i := 0) (v := ?_) rfl (Or.inl ⟨by rfl, ?_⟩) hHeld ?_
    rotate_left
    ·intro w hSw; dsimp only [S74W, S12W] at hSw; go_simp; (try with_reducible rfl)
    (try simp only [Act.put, nrm])
    refine wtk (i := 1) (v := ?_) rfl (Or.inl ⟨by rfl, ?_⟩) hHeld ?_
    rotate_left
    ·intro w hSw; dsimp only [S74W, S12W] at hSw; go_simp; (try with_reducible rfl)
    (try simp only [Act.put, nrm])
    refine wtk (i := 2) (v := ?_) rfl (Or.inl ⟨by rfl, ?_⟩) hHeld ?_
    rotate_left
    ·intro w hSw; dsimp only [S74W, S12W] at hSw; go_simp; (try with_reducible rfl)
    (try simp only [Act.put, nrm])
    refine wtk (i := 4) (v := ?_) rfl (Or.inl ⟨by rfl, ?_⟩) hHeld ?_
    rotate_left
    ·intro w hSw; dsimp only [S74W, S12W] at hSw; go_simp; (try with_reducible rfl)
    (try simp only [Act.put, nrm])
    refine wpAnyH_ready (rs := [3]) (by kernel_rfl) (by simp) (AllReadyH.cons rfl (fun K hK => ?_) (AllReadyH.nil))
    go_simp
    have HP := hide (gput_any so sn sc (.slice (some ⟨rg, rr, none⟩) rn rcap) L i (⟨xw, xo, xs, xG, xV ++ [(⟨⟨ac, place, M, false⟩, .slice no ml nc⟩ : GV)], .slice go gn gc, .slice ao (vn + 1) cap⟩ : GC) WA.drew ((unhide HG).1.fr ((unhide A8).1.f.trans (Fr.refl _ _).drew (fun _ _ h => h))).r (unhide HG).2.1 (unhide HX1) (by have := (unhide HG).2.2; omega) (by have := (unhide HG).2.2; omega))
    refine (unhide HP).mono ?_
    rintro e w9 ⟨v, rfl, hov, f9⟩
    rw [show putL L i (⟨xw, xo, xs, xG, xV ++ [(⟨⟨ac, place, M, false⟩, .slice no ml nc⟩ : GV)], .slice go gn gc, .slice ao (vn + 1) cap⟩ : GC) = L.set i (⟨xw, xo, xs, xG, xV ++ [(⟨⟨ac, place, M, false⟩, .slice no ml nc⟩ : GV)], .slice go gn gc, .slice ao (vn + 1) cap⟩ : GC) from if_neg (by have := (unhide HG).2.2; omega)] at hov
    obtain ⟨vo, vc, rfl⟩ := own_formX hov
    have hfA9 : Fr (fun _ => False) WA w9 := (Fr.refl (fun _ => False) WA).drew.trans f9 (fun _ _ h => h)
    have B2 := hide ((unhide A8).1.fr hfA9)
    have K2 := hide ((hfA9.block b9 (lt_of_block (unhide A8).2.1) (fun h => h)).trans (unhide A8).2.1)
    have X2 := hide ((hfA9.block bx (lt_of_block (unhide A8).2.2) (fun h => h)).trans (unhide A8).2.2)
    have HOV := hide (And.intro hov hfA9)
    have HZ := hide (show w.heap.size + 4 ≤ WA.heap.size by have := lt_of_block (unhide A8).1.b; omega)
    clear hov f9 HP hfA9
    go_simp
    refine hK.out _ _ ((unhide B2).s74 (unhide K2) (unhide X2)) (fun hHeld => ?_)
    clear hK K
    (try simp only [Act.put, nrm])
    refine wpAnyH_ready (rs := [5]) (by kernel_rfl) (by simp) (AllReadyH.cons rfl (fun K hK => ?_) (AllReadyH.nil))
    obtain ⟨W10, st10, a10, fa10⟩ := (unhide B2).putA (.slice so sn sc) (.slice vo (L.set i (⟨xw, xo, xs, xG, xV ++ [(⟨⟨ac, place, M, false⟩, .slice no ml nc⟩ : GV)], .slice go gn gc, .slice ao (vn + 1) cap⟩ : GC)).length vc) (fun u hu => by simp at hu; rcases hu with rfl | rfl <;> rfl)
    have H10 := hide st10
    have B3 := hide (And.intro a10 fa10)
    have K3 := hide ((fa10.block b9 (lt_of_block (unhide K2)) (fun e => by have := (unhide BL); omega)).trans (unhide K2))
    have X3 := hide ((fa10.block bx (lt_of_block (unhide X2)) (fun e => by have := (unhide BL); omega)).trans (unhide X2))
    clear st10 a10 fa10
    refine step_stN rfl 36 (.tmp 6) (.tmp 327) rfl _ _ (by simp [Act.eval]) (by simp [Act.eval]) (unhide H10) ?_
    refine hK.out _ _ ((unhide B3).1.s74 (unhide K3) (unhide X3)) (fun hHeld => ?_)
    clear hK K
    (try simp only [Act.put])
    refine wpAnyH_ready (rs := [6]) (by kernel_rfl) (by simp) (AllReadyH.cons rfl (fun K hK => ?_) (AllReadyH.nil))
    obtain ⟨W11, st11, a11, fa11⟩ := (unhide B3).1.putB (.int .u32 (cl : Nat)) (.int .u32 (nu : Nat)) (.int .u8 0) (.int .u32 (rc : Nat)) (.int .u32 ((vn : Int) + 1)) (.slice none 0 0) (.slice none 0 0) (fun u hu => by simp at hu; rcases hu with rfl | rfl | rfl | rfl | rfl | rfl | rfl <;> rfl)
    have H11 := hide st11
    have B4 := hide (And.intro a11 fa11)
    have K4 := hide ((fa11.block b9 (lt_of_block (unhide K3)) (fun e => by have := (unhide BL); omega)).trans (unhide K3))
    have X4 := hide ((fa11.block bx (lt_of_block (unhide X3)) (fun e => by have := (unhide BL); omega)).trans (unhide X3))
    clear st11 a11 fa11
    refine step_stN rfl 45 (.tmp 7) (.tmp 328) rfl _ _ (by simp [Act.eval]) (by simp [Act.eval]) (unhide H11) ?_
    refine hK.out _ _ ((unhide B4).1.s74 (unhide K4) (unhide X4)) (fun hHeld => ?_)
    clear hK K
    (try simp only [Act.put])
    refine wpAnyH_done (by kernel_rfl) ?_ _
    refine NoPanic.normal ?_
    go_wp2_with fail
    refine bodyPost_ret (results_cells2 rfl _ _ (w.heap.size + 2) (w.heap.size + 3) [.slice so sn sc, .slice vo (L.set i (⟨xw, xo, xs, xG, xV ++ [(⟨⟨ac, place, M, false⟩, .slice no ml nc⟩ : GV)], .slice go gn gc, .slice ao (vn + 1) cap⟩ : GC)).length vc] [.int .u32 (cl : Nat), .int .u32 (nu : Nat), .int .u8 0, .int .u32 (rc : Nat), .int .u32 ((vn : Int) + 1), .slice none 0 0, .slice none 0 0] _ _ rfl rfl (unhide B4).1.range.1 (unhide B4).1.range.2 Tryz.underlying36 rfl (by kernel_rfl) Tryz.underlying45 rfl (by kernel_rfl)) rfl ?_
    have hfw := (unhide B4).1.f
    have hfe : Fr (fun k => k = w.heap.size + 2 ∨ k = w.heap.size + 3) WA W11 := (((unhide HOV).2.mono (fun _ _ h => h.elim)).trans ((unhide B3).2.mono (fun _ _ h => .inl h)) (fun _ _ h => h)).trans ((unhide B4).2.mono (fun _ _ h => .inr h)) (fun _ _ h => h)
    have hown := ownsRow_of_block (ownsRow_of_block (unhide HOV).1 (fun g hg => (unhide B3).2.block g ((unhide HOV).1.lt g hg).2 (fun e => by have h1 : WA.heap.size ≤ g := ((unhide HOV).1.lt g hg).1; have := unhide HZ; omega))) (fun g hg => (unhide B4).2.block g (Nat.lt_of_lt_of_le ((unhide HOV).1.lt g hg).2 (unhide B3).2.size) (fun e => by have h1 : WA.heap.size ≤ g := ((unhide HOV).1.lt g hg).1; have := unhide HZ; omega))
    refine Or.inr (Or.inr (Or.inr (Or.inr ⟨unhide HEQ, unhide HC64, unhide HC32, (unhide HM).2.1, ?_⟩)))
    rw [(unhide HM).1]
    refine ⟨_, _, _, rfl, ⟨(unhide HG).1.s.fr hfw, fun k hk => .inl ((unhide HG).1.sb k hk), own_rd hown, fun k hk => .inr (by have h1 : WA.heap.size ≤ k := (own_blkX hown hk).1; have := unhide HZ; omega), fun y hy => ?_⟩, hfw⟩
    rcases List.mem_or_eq_of_mem_set hy with hy | rfl
    ·exact (((unhide HG).1.c y hy).frS hfw (fun _ h => h.elim)).mono (fun k hk => .inl hk)
    ·have hgx := ((unhide HGX).frS hfw (fun _ h => h.elim)).mono (T' := fun k => T k ∨ w.heap.size ≤ k) (fun k hk => .inl hk)
     have hbz := (unhide HNV).2.2
     have hrow := ownsRow_of_block (unhide HNV).1 (fun g hg => hfe.block g ((unhide HNV).1.lt g hg).2 (fun e => by have h1 : w8.heap.size ≤ g := ((unhide HNV).1.lt g hg).1; omega))
     have hrow2 : W11.ownsRow w8.heap.size 75 4 (.slice ao (vn + 1) cap) (xV ++ [(⟨⟨ac, place, M, false⟩, .slice no ml nc⟩ : GV)]).length (vgc (xV ++ [(⟨⟨ac, place, M, false⟩, .slice no ml nc⟩ : GV)])) := by rw [List.length_append, List.length_singleton, (unhide HYY).2.1]; exact hrow
     have hrf0 := ownsRow_of_block (unhide HNV).2.1 (fun g hg => hfe.block g ((unhide HNV).2.1.lt g hg).2 (fun e => by have h1 : W2.heap.size ≤ g := ((unhide HNV).2.1.lt g hg).1; omega))
     have hrf : OwF W11 W2.heap.size (.slice no ml nc) M := hrf0
     refine ⟨hgx.g, hgx.gb, own_rd hrow2, fun k hk => .inr ?_, fun y hy => ?_, fun y hy => ?_⟩
     ·have := (own_blkX hrow2 hk).1
      omega
     ·rcases List.mem_append.1 hy with hy | hy
      ·exact hgx.f y hy
      ·rw [List.mem_singleton] at hy; subst hy; exact hrf.fds
     ·rcases List.mem_append.1 hy with hy | hy
      ·exact hgx.fb y hy
      ·rw [List.mem_singleton] at hy; subst hy
       intro k hk
       have h1 := (own_blkX hrf0 hk).1
       exact .inr (by omega)
  ·clear f8 hnv A2 A7 HRD h32
   go_wp2_with fail
   refine wp_region_noPanic ?_
   have B0 := hide ((unhide A8).fr (Fr.refl _ _).drew)
   refine wp_region_held_drew (S := S12W w so sn sc (some ⟨rg, rr, none⟩) rn rcap cl nu ac op rc ve wa ow fo fn fc rs) (by kernel_rfl) (unhide B0).s12 (fun hHeld => ?_)
   refine wtk (i := 0) (v := ?_) rfl (Or.inl ⟨by rfl, ?_⟩) hHeld ?_
   rotate_left
   ·intro w hSw; dsimp only [S12W] at hSw; go_simp; (try with_reducible rfl)
   (try simp only [Act.put, nrm])
   refine wtk (i := 1) (v := ?_) rfl (Or.inl ⟨by rfl, ?_⟩) hHeld ?_
   rotate_left
   ·intro w hSw; dsimp only [S12W] at hSw; go_simp; (try with_reducible rfl)
   (try simp only [Act.put, nrm])
   refine wpAnyH_ready (rs := [2]) (by kernel_rfl) (by simp) (AllReadyH.cons rfl (fun K hK => ?_) (AllReadyH.nil))
   go_simp
   refine ((unhide HRf) 10 _).mono ?_
   rintro e w1 ⟨rfl, f1⟩
   have B1 := hide ((unhide B0).fr f1)
   clear f1
   go_simp
   refine hK.out _ _ (unhide B1).s12 (fun hHeld => ?_)
   clear hK K
   (try simp only [Act.put, nrm])
   refine wpAnyH_ready (rs := [3]) (by kernel_rfl) (by simp) (AllReadyH.cons rfl (fun K hK => ?_) (AllReadyH.nil))
   obtain ⟨W2, st2, a2, _⟩ := (unhide B1).putA (.slice so sn sc) (.slice (some ⟨rg, rr, none⟩) rn rcap) (fun u hu => by simp at hu; rcases hu with rfl | rfl <;> rfl)
   have H2 := hide st2
   have B2 := hide a2
   clear st2 a2
   refine step_stN rfl 36 (.tmp 6) (.tmp 199) rfl _ _ (by simp [Act.eval]) (by simp [Act.eval]) (unhide H2) ?_
   refine hK.out _ _ (unhide B2).s12 (fun hHeld => ?_)
   clear hK K
   (try simp only [Act.put])
   refine wpAnyH_ready (rs := [4]) (by kernel_rfl) (by simp) (AllReadyH.cons rfl (fun K hK => ?_) (AllReadyH.nil))
   obtain ⟨W3, st3, a3, _⟩ := (unhide B2).putB (.int .u32 (cl : Nat)) (.int .u32 (nu : Nat)) (.int .u8 10) (.int .u32 0) (.int .u32 0) (.slice none 0 0) (.slice none 0 0) (fun u hu => by simp at hu; rcases hu with rfl | rfl | rfl | rfl | rfl | rfl | rfl <;> rfl)
   have H3 := hide st3
   have B3 := hide a3
   clear st3 a3
   refine step_stN rfl 45 (.tmp 7) (.tmp 201) rfl _ _ (by simp [Act.eval]) (by simp [Act.eval]) (unhide H3) ?_
   refine hK.out _ _ (unhide B3).s12 (fun hHeld => ?_)
   clear hK K
   (try simp only [Act.put])
   refine wpAnyH_done (by kernel_rfl) ?_ _
   refine NoPanic.normal ?_
   go_wp2_with fail
   refine bodyPost_ret (results_cells2 rfl _ _ (w.heap.size + 2) (w.heap.size + 3) [.slice so sn sc, .slice (some ⟨rg, rr, none⟩) rn rcap] [.int .u32 (cl : Nat), .int .u32 (nu : Nat), .int .u8 10, .int .u32 0, .int .u32 0, .slice none 0 0, .slice none 0 0] _ _ rfl rfl (unhide B3).range.1 (unhide B3).range.2 Tryz.underlying36 rfl (by kernel_rfl) Tryz.underlying45 rfl (by kernel_rfl)) rfl ?_
   exact Or.inr (Or.inr (Or.inr (Or.inl ⟨unhide HEQ, unhide HC64, unhide HC32, (unhide HM).2.1, rfl, (unhide B3).f⟩)))
def RdP (w : World) (so : Option Addr) (sn : Nat) (sc : Nat) (ro : Option Addr) (rn : Nat) (rcap : Nat) (cl : Nat) (nu : Nat) (rc : Nat) (ve : Nat) (i : Nat) (xw : Nat) (xo : Nat) (xs : Bool) (xG : List Nat) (xV : List GV) (go : Option Addr) (gn : Nat) (gc : Nat) (vg : Option Addr) (vn : Nat) (vcap : Nat) (S : List P3) (L : List GC) (T : Nat → Prop) (rd : Bool) (fa : Option Addr) (fl : Nat) (fb : Nat) (N : Nat) (e : Ending) (w' : World) : Prop := (vn < ve ∧ RefP w so sn sc ro rn rcap cl nu 4 e w') ∨ (¬ vn < ve ∧ rd = true ∧ RefP w so sn sc ro rn rcap cl nu 8 e w') ∨ (¬ vn < ve ∧ rd = false ∧ ∃ v, e = .returned (.tuple #[.agg #[.slice so sn sc, v], .agg #[.int .u32 (cl : Nat), .int .u32 (nu : Nat), .int .u8 0, .int .u32 (rc : Nat), .int .u32 (N : Nat), .slice fa fl fb, .slice none 0 0]]) ∧ GSt w' (fun k => T k ∨ w.heap.size ≤ k) (.slice so sn sc) v S (L.set i ⟨xw, xo, xs, xG, xV, .slice go gn gc, .slice vg vn vcap⟩) ∧ Fr (fun _ => False) w w')
set_option maxHeartbeats 4000000 in
set_option maxRecDepth 100000 in
theorem gapply_read (so : Option Addr) (sn sc : Nat) (rg rr rn rcap : Nat) (cl nu ac op rc ve wa ow : Nat) (fo : Option Addr) (fn fc : Nat) (rs : ByteArray) (place : Nat) (w : World) (HFo : Hid (FoH w cl nu ac op rc ve wa ow fo fn fc rs true)) (z : Int) (HFd : Hid (FdH w so sn sc ac z)) (hz : ¬ z < 0) (jc : Nat) (HJd : Hid (JdH w so sn sc (some ⟨rg, rr, none⟩) rn rcap cl nu ac op rc ve wa ow fo fn fc rs jc)) (hj : jc = 0) (ho : op = 3) (i xw xo : Nat) (xs : Bool) (xG : List Nat) (xV : List GV) (go : Option Addr) (gn gc : Nat) (vg : Option Addr) (vn vcap : Nat) (hrc : rc = i + 1) (hrn : rn ≤ 256) (hve : ve < 4294967296) (S : List P3) (L : List GC) (T : Nat → Prop) (hst : GSt w T (.slice so sn sc) (.slice (some ⟨rg, rr, none⟩) rn rcap) S L) (hx : L[i]? = some ⟨xw, xo, xs, xG, xV, .slice go gn gc, .slice vg vn vcap⟩) (hone : ∀ y ∈ L, y.one) (m : Nat) (au ev : Nat) (F : List F5) (rd : Bool) (fa : Option Addr) (fl fb : Nat) (N : Nat) (hN0 : ve = 0 → N = vn) (hN1 : ¬ ve = 0 → N = ve) (hm : N ≤ vn → N = m + 1 ∧ xV[m]? = some ⟨⟨au, ev, F, rd⟩, .slice fa fl fb⟩) (hvn : vn ≤ 64) :
  Calls Tryz.prog 12 #[.agg #[.slice so sn sc, .slice (some ⟨rg, rr, none⟩) rn rcap], .agg #[.int .u32 (cl : Nat), .int .u32 (nu : Nat), .int .u32 (ac : Nat), .int .u8 (op : Nat), .int .u32 (rc : Nat), .int .u32 (ve : Nat), .int .u32 (wa : Nat), .int .u32 (ow : Nat), .slice fo fn fc, .string rs], .int .u32 (place : Nat)] w fun e w' => RdP w so sn sc (some ⟨rg, rr, none⟩) rn rcap cl nu rc ve i xw xo xs xG xV go gn gc vg vn vcap S L T rd fa fl fb N e w' := by
 have o1 : ((op : Int) != 1) = true := by rw [bne_iff_ne]; omega
 have o31 : ((op : Int) == 1) = false := by rw [beq_eq_false_iff_ne]; omega
 have o32 : ((op : Int) == 2) = false := by rw [beq_eq_false_iff_ne]; omega
 have o33 : ((op : Int) == 3) = true := by rw [beq_iff_eq]; omega
 have o34 : ((op : Int) == 4) = false := by rw [beq_eq_false_iff_ne]; omega
 have o35 : ((op : Int) == 5) = false := by rw [beq_eq_false_iff_ne]; omega
 have o36 : ((op : Int) == 6) = false := by rw [beq_eq_false_iff_ne]; omega
 have o37 : ((op : Int) == 7) = false := by rw [beq_eq_false_iff_ne]; omega
 have z1 : decide (z < 0) = false := decide_eq_false (by omega)
 have z2 : ¬ z < 0 := by omega
 have j1 : ((jc : Int) != 0) = false := by rw [bne_eq_false_iff_eq]; omega
 have hln : L.length = rn := by
  obtain ⟨_, _, e⟩ := hst.r.form
  cases e
  rfl
 have hil : i < rn := by rw [← hln]; exact (List.getElem?_eq_some_iff.1 hx).1
 have r1 : ((rc : Int) == 0) = false := by rw [beq_eq_false_iff_ne]; omega
 have r2 : IntKind.i64.wrap (rc : Int) = (rc : Int) := by rw [IntKind.wrap_i64]; omega
 have r3 : ¬ rn < rc := by omega
 have r4 : ¬ (rn : Int) < (rc : Int) := by omega
 have r5 : (rc : Int) - 1 = (i : Int) := by omega
 have r6 : IntKind.i64.wrap (i : Int) = (i : Int) := by rw [IntKind.wrap_i64]; omega
 have r7 : (i : Int) < (rn : Int) := by omega
 have v1 : IntKind.i64.wrap (ve : Int) = (ve : Int) := by have := hve; rw [IntKind.wrap_i64]; omega
 have hxl : xV.length = vn := by
  obtain ⟨_, _, e⟩ := (hst.c _ (List.mem_of_getElem? hx)).v.form
  have h2 := (Value.slice.inj e).2.1
  simp only at h2
  omega
 have HN := hide (And.intro hN0 (And.intro hN1 hm))
 have HV64 := hide hvn
 have HXL := hide hxl
 have hat := cgc_at L i _ hx
 obtain ⟨_, _, e0, hcr⟩ := hst.r.at_ (by omega)
 cases e0
 have c0 := hcr (i * 5) _ (by have := hat 0 (by omega); simpa [GC.cs] using this)
 have c1 := hcr (i * 5 + 1) _ (by have := hat 1 (by omega); simpa [GC.cs] using this)
 have c2 := hcr (i * 5 + 2) _ (by have := hat 2 (by omega); simpa [GC.cs] using this)
 have c3 := hcr (i * 5 + 3) _ (by have := hat 3 (by omega); simpa [GC.cs] using this)
 have c4 := hcr (i * 5 + 4) _ (by have := hat 4 (by omega); simpa [GC.cs] using this)
 rw [← Nat.add_assoc] at c1 c2 c3 c4
 have hrgl : rg < w.heap.size := lt_of_cell c0
 have HC5 := hide (And.intro c0 (And.intro c1 (And.intro c2 (And.intro c3 c4))))
 have HG := hide (And.intro hst (And.intro hone (show L.length = rn ∧ i < rn ∧ rn ≤ 256 from ⟨hln, hil, hrn⟩)))
 have HGX := hide (hst.c _ (List.mem_of_getElem? hx))
 have HVE := hide hve
 clear hN0 hN1 hm hvn hxl hone ho hz hj hst hx hrc hrn hve hln hil hat hcr c0 c1 c2 c3 c4
 obtain ⟨W4, hW4, a4⟩ := ab_new w so sn sc (some ⟨rg, rr, none⟩) rn rcap cl nu ac op rc ve wa ow fo fn fc rs
 have A4 := hide a4
 clear a4
 have HRf := hide (fun (co : Nat) W => grefused_any cl nu ac op rc ve wa ow co fo fn fc rs W)
 go_enter Tryz.func12, Tryz.ntmps12
 go_wp2_with fail
 rw [← hW4]
 clear hW4
 refine ((unhide HFo) _ (unhide A4).f).mono ?_
 rintro e w5 ⟨rfl, hf5⟩
 have A5 := hide ((unhide A4).fr hf5)
 clear hf5 A4
 obtain ⟨⟨p0, p1⟩, q0, q1, q2, q3, q4, q5, q6, q7, q8, q9⟩ := (unhide A5).s12
 go_wp2_with fail
 refine ((unhide HFd) _ (unhide A5).f).mono ?_
 rintro e w6 ⟨rfl, hw6⟩
 obtain rfl := hw6.symm
 clear hw6
 clear p0 p1 q0 q1 q2 q3 q4 q5 q6 q7 q8 q9
 obtain ⟨⟨p0, p1⟩, q0, q1, q2, q3, q4, q5, q6, q7, q8, q9⟩ := (unhide A5).s12
 go_wp2_with fail
 refine ((unhide HJd) _ (unhide A5).f).mono ?_
 rintro e w7 ⟨rfl, f7⟩
 have A7 := hide ((unhide A5).fr f7)
 clear f7 A5
 obtain ⟨⟨p0, p1⟩, q0, q1, q2, q3, q4, q5, q6, q7, q8, q9⟩ := (unhide A7).s12
 have l0 := lt_of_block (unhide A7).s
 have l1 := lt_of_block (unhide A7).r
 have f7 := (unhide A7).f
 have c0 := (f7.cell (p := ⟨rg, rr + i * 5, none⟩) hrgl (fun h => h)).trans (unhide HC5).1
 have c1 := (f7.cell (p := ⟨rg, rr + i * 5 + 1, none⟩) hrgl (fun h => h)).trans (unhide HC5).2.1
 have c2 := (f7.cell (p := ⟨rg, rr + i * 5 + 2, none⟩) hrgl (fun h => h)).trans (unhide HC5).2.2.1
 have c3 := (f7.cell (p := ⟨rg, rr + i * 5 + 3, none⟩) hrgl (fun h => h)).trans (unhide HC5).2.2.2.1
 have c4 := (f7.cell (p := ⟨rg, rr + i * 5 + 4, none⟩) hrgl (fun h => h)).trans (unhide HC5).2.2.2.2
 have l5 : rg < w7.heap.size := Nat.lt_of_lt_of_le hrgl f7.size
 clear f7
 by_cases hvv : vn < ve
 ·have HCC := hide hvv
  have v2 : (vn : Int) < (ve : Int) := by omega
  have v3 : vn < ve := by omega
  clear hvv
  go_wp2_with fail
  clear p0 p1 q0 q1 q2 q3 q4 q5 q6 q7 q8 q9 l0 l1 c0 c1 c2 c3 c4 l5
  have A8 := hide ((unhide A7).fr ((box1 w7 (.cells #[.int .u32 (cl : Nat), .int .u32 (nu : Nat), .int .u8 0, .int .u32 (rc : Nat), .int .u32 0, .slice none 0 0, .slice none 0 0] 45)).alloc (.cells #[.int .u32 (xw : Nat), .int .u32 (xo : Nat), .bool xs, .slice go gn gc, .slice vg vn vcap] 78)))
  refine wp_region_noPanic ?_
  have B0 := hide ((unhide A8).fr (Fr.refl _ _).drew)
  refine wp_region_held_drew (S := S12W w so sn sc (some ⟨rg, rr, none⟩) rn rcap cl nu ac op rc ve wa ow fo fn fc rs) (by kernel_rfl) (unhide B0).s12 (fun hHeld => ?_)
  refine wtk (i := 0) (v := ?_) rfl (Or.inl ⟨by rfl, ?_⟩) hHeld ?_
  rotate_left
  ·intro w hSw; dsimp only [S12W] at hSw; go_simp; (try with_reducible rfl)
  (try simp only [Act.put, nrm])
  refine wtk (i := 1) (v := ?_) rfl (Or.inl ⟨by rfl, ?_⟩) hHeld ?_
  rotate_left
  ·intro w hSw; dsimp only [S12W] at hSw; go_simp; (try with_reducible rfl)
  (try simp only [Act.put, nrm])
  refine wpAnyH_ready (rs := [2]) (by kernel_rfl) (by simp) (AllReadyH.cons rfl (fun K hK => ?_) (AllReadyH.nil))
  go_simp
  refine ((unhide HRf) 4 _).mono ?_
  rintro e w1 ⟨rfl, f1⟩
  have B1 := hide ((unhide B0).fr f1)
  clear f1
  go_simp
  refine hK.out _ _ (unhide B1).s12 (fun hHeld => ?_)
  clear hK K
  (try simp only [Act.put, nrm])
  refine wpAnyH_ready (rs := [3]) (by kernel_rfl) (by simp) (AllReadyH.cons rfl (fun K hK => ?_) (AllReadyH.nil))
  obtain ⟨W2, st2, a2, _⟩ := (unhide B1).putA (.slice so sn sc) (.slice (some ⟨rg, rr, none⟩) rn rcap) (fun u hu => by simp at hu; rcases hu with rfl | rfl <;> rfl)
  have H2 := hide st2
  have B2 := hide a2
  clear st2 a2
  refine step_stN rfl 36 (.tmp 6) (.tmp 222) rfl _ _ (by simp [Act.eval]) (by simp [Act.eval]) (unhide H2) ?_
  refine hK.out _ _ (unhide B2).s12 (fun hHeld => ?_)
  clear hK K
  (try simp only [Act.put])
  refine wpAnyH_ready (rs := [4]) (by kernel_rfl) (by simp) (AllReadyH.cons rfl (fun K hK => ?_) (AllReadyH.nil))
  obtain ⟨W3, st3, a3, _⟩ := (unhide B2).putB (.int .u32 (cl : Nat)) (.int .u32 (nu : Nat)) (.int .u8 4) (.int .u32 0) (.int .u32 0) (.slice none 0 0) (.slice none 0 0) (fun u hu => by simp at hu; rcases hu with rfl | rfl | rfl | rfl | rfl | rfl | rfl <;> rfl)
  have H3 := hide st3
  have B3 := hide a3
  clear st3 a3
  refine step_stN rfl 45 (.tmp 7) (.tmp 224) rfl _ _ (by simp [Act.eval]) (by simp [Act.eval]) (unhide H3) ?_
  refine hK.out _ _ (unhide B3).s12 (fun hHeld => ?_)
  clear hK K
  (try simp only [Act.put])
  refine wpAnyH_done (by kernel_rfl) ?_ _
  refine NoPanic.normal ?_
  go_wp2_with fail
  refine bodyPost_ret (results_cells2 rfl _ _ (w.heap.size + 2) (w.heap.size + 3) [.slice so sn sc, .slice (some ⟨rg, rr, none⟩) rn rcap] [.int .u32 (cl : Nat), .int .u32 (nu : Nat), .int .u8 4, .int .u32 0, .int .u32 0, .slice none 0 0, .slice none 0 0] _ _ rfl rfl (unhide B3).range.1 (unhide B3).range.2 Tryz.underlying36 rfl (by kernel_rfl) Tryz.underlying45 rfl (by kernel_rfl)) rfl ?_
  exact Or.inl ⟨unhide HCC, rfl, (unhide B3).f⟩
 have HCC := hide hvv
 have v2 : ¬ (vn : Int) < (ve : Int) := by omega
 have v3 : ¬ vn < ve := by omega
 obtain ⟨hNm, hy⟩ : N = m + 1 ∧ xV[m]? = some ⟨⟨au, ev, F, rd⟩, .slice fa fl fb⟩ := by
  refine (unhide HN).2.2 ?_
  rcases Nat.eq_zero_or_pos ve with h0 | h0
  ·have := (unhide HN).1 h0
   omega
  ·have := (unhide HN).2.1 (by omega)
   omega
 have HYY := hide (And.intro hy trivial)
 have hvn : vn ≤ 64 := unhide HV64
 have hmv : m < vn := by
  have h2 := (List.getElem?_eq_some_iff.1 hy).1
  have h3 := unhide HXL
  omega
 have v9 : (m : Int) < (vn : Int) := by omega
 have v7 : IntKind.i64.wrap (m : Int) = (m : Int) := by rw [IntKind.wrap_i64]; omega
 clear hvv hvn hmv hy
 have hrd7 := (unhide HGX).v.frS (unhide A7).f (fun _ _ h => h)
 obtain ⟨vgg, vgo, hve0, hvc⟩ := hrd7.at_ (Nat.lt_of_le_of_lt (Nat.zero_le m) (List.getElem?_eq_some_iff.1 (unhide HYY).1).1)
 subst hve0
 have hat := vgc_at xV m _ (unhide HYY).1
 have d0 := hvc (m * 4) _ (by have := hat 0 (by omega); simpa [GV.cs] using this)
 have d1 := hvc (m * 4 + 1) _ (by have := hat 1 (by omega); simpa [GV.cs] using this)
 have d2 := hvc (m * 4 + 2) _ (by have := hat 2 (by omega); simpa [GV.cs] using this)
 have d3 := hvc (m * 4 + 3) _ (by have := hat 3 (by omega); simpa [GV.cs] using this)
 rw [← Nat.add_assoc] at d1 d2 d3
 have l6 : vgg < w7.heap.size := lt_of_cell d3
 have HRD := hide hrd7
 clear hvc hat hrd7
 by_cases h0 : ve = 0
 ·have v4 : ((ve : Int) == 0) = true := by rw [beq_iff_eq]; omega
  have hNn : N = vn := (unhide HN).1 h0
  have v6 : (vn : Int) - 1 = (m : Int) := by omega
  have v8 : IntKind.u32.wrap (vn : Int) = (vn : Int) := by have := unhide HV64; have := unhide HVE; rw [IntKind.wrap_u32]; omega
  have HNN := hide hNn
  clear h0 hNm hNn
  cases rd
  ·go_wp2_with fail
   clear p0 p1 q0 q1 q2 q3 q4 q5 q6 q7 q8 q9 l0 l1 c0 c1 c2 c3 c4 l5 d0 d1 d2 d3 l6 HRf
   have HX1 : Hid (GC.one (⟨xw, xo, xs, xG, xV, .slice go gn gc, .slice (some ⟨vgg, vgo, none⟩) vn vcap⟩ : GC)) := ⟨rfl, rfl⟩
   obtain ⟨b9, hb9⟩ : ∃ b9, b9 = w7.heap.size := ⟨_, rfl⟩
   obtain ⟨bx, hbx⟩ : ∃ bx, bx = w7.heap.size + 1 := ⟨_, rfl⟩
   obtain ⟨WA, hWA⟩ : ∃ WA, WA = ((w7.alloc (.cells #[.int .u32 (cl : Nat), .int .u32 (nu : Nat), .int .u8 0, .int .u32 (rc : Nat), .int .u32 (vn : Nat), .slice fa fl fb, .slice none 0 0] 45)).alloc (.cells #[.int .u32 (xw : Nat), .int .u32 (xo : Nat), .bool xs, .slice go gn gc, .slice (some ⟨vgg, vgo, none⟩) vn vcap] 78)).alloc (.cells #[.int .u32 (au : Nat), .int .u32 (ev : Nat), .slice fa fl fb, .bool false] 75) := ⟨_, rfl⟩
   have A8 : Hid (AB w WA (.slice so sn sc) (.slice (some ⟨rg, rr, none⟩) rn rcap) #[.int .u32 (cl : Nat), .int .u32 (nu : Nat), .int .u32 (ac : Nat), .int .u8 (op : Nat), .int .u32 (rc : Nat), .int .u32 (ve : Nat), .int .u32 (wa : Nat), .int .u32 (ow : Nat), .slice fo fn fc, .string rs] #[.slice none 0 0, .slice none 0 0] #[.int .u32 0, .int .u32 0, .int .u8 0, .int .u32 0, .int .u32 0, .slice none 0 0, .slice none 0 0] ∧ WA.heap[b9]? = some (.cells #[.int .u32 (cl : Nat), .int .u32 (nu : Nat), .int .u8 0, .int .u32 (rc : Nat), .int .u32 (vn : Nat), .slice fa fl fb, .slice none 0 0] 45) ∧ WA.heap[bx]? = some (.cells #[.int .u32 (xw : Nat), .int .u32 (xo : Nat), .bool xs, .slice go gn gc, .slice (some ⟨vgg, vgo, none⟩) vn vcap] 78)) := ⟨by rw [hWA]; exact (unhide A7).fr (((box1 w7 _).alloc _).alloc _), by rw [hWA, hb9]; exact (((Fr.refl (fun _ => False) _).alloc _).alloc _ |>.block _ (by simp) (fun h => h)).trans Array.getElem?_push_size, by rw [hWA, hbx]; exact ((box1 _ _).block _ (by simp) (fun h => h)).trans (heap_two w7 _ _)⟩
   have BL := hide (show w.heap.size + 4 ≤ b9 ∧ w.heap.size + 4 ≤ bx by have := lt_of_block (unhide A7).b; omega)
   rw [← hWA, ← hbx, ← hb9]
   clear hWA hb9 hbx A7
   refine wp_region_noPanic ?_
   refine wp_region_held_drew (S := S74W w so sn sc (some ⟨rg, rr, none⟩) rn rcap cl nu ac op rc ve wa ow fo fn fc rs b9 (.int .u32 (cl : Nat)) (.int .u32 (nu : Nat)) (.int .u8 0) (.int .u32 (rc : Nat)) (.int .u32 (vn : Nat)) (.slice fa fl fb) (.slice none 0 0) bx (.int .u32 (xw : Nat)) (.int .u32 (xo : Nat)) (.bool xs) (.slice go gn gc) (.slice (some ⟨vgg, vgo, none⟩) vn vcap)) (by kernel_rfl) (((unhide A8).1.fr (Fr.refl _ _).drew).s74 (unhide A8).2.1 (unhide A8).2.2) (fun hHeld => ?_)
   refine wtk (i := 0) (v := ?_) rfl (Or.inl ⟨by rfl, ?_⟩) hHeld ?_
   rotate_left
   ·intro w hSw; dsimp only [S74W, S12W] at hSw; go_simp; (try with_reducible rfl)
   (try simp only [Act.put, nrm])
   refine wtk (i := 1) (v := ?_) rfl (Or.inl ⟨by rfl, ?_⟩) hHeld ?_
   rotate_left
   ·intro w hSw; dsimp only [S74W, S12W] at hSw; go_simp; (try with_reducible rfl)
   (try simp only [Act.put, nrm])
   refine wtk (i := 2) (v := ?_) rfl (Or.inl ⟨by rfl, ?_⟩) hHeld ?_
   rotate_left
   ·intro w hSw; dsimp only [S74W, S12W] at hSw; go_simp; (try with_reducible rfl)
   (try simp only [Act.put, nrm])
   refine wtk (i := 4) (v := ?_) rfl (Or.inl ⟨by rfl, ?_⟩) hHeld ?_
   rotate_left
   ·intro w hSw; dsimp only [S74W, S12W] at hSw; go_simp; (try with_reducible rfl)
   (try simp only [Act.put, nrm])
   refine wpAnyH_ready (rs := [3]) (by kernel_rfl) (by simp) (AllReadyH.cons rfl (fun K hK => ?_) (AllReadyH.nil))
   go_simp
   have HP := hide (gput_any so sn sc (.slice (some ⟨rg, rr, none⟩) rn rcap) L i (⟨xw, xo, xs, xG, xV, .slice go gn gc, .slice (some ⟨vgg, vgo, none⟩) vn vcap⟩ : GC) WA.drew ((unhide HG).1.fr ((unhide A8).1.f.trans (Fr.refl _ _).drew (fun _ _ h => h))).r (unhide HG).2.1 (unhide HX1) (by have := (unhide HG).2.2; omega) (by have := (unhide HG).2.2; omega))
   refine (unhide HP).mono ?_
   rintro e w9 ⟨v, rfl, hov, f9⟩
   rw [show putL L i (⟨xw, xo, xs, xG, xV, .slice go gn gc, .slice (some ⟨vgg, vgo, none⟩) vn vcap⟩ : GC) = L.set i (⟨xw, xo, xs, xG, xV, .slice go gn gc, .slice (some ⟨vgg, vgo, none⟩) vn vcap⟩ : GC) from if_neg (by have := (unhide HG).2.2; omega)] at hov
   obtain ⟨vo, vc, rfl⟩ := own_formX hov
   have hfA9 : Fr (fun _ => False) WA w9 := (Fr.refl (fun _ => False) WA).drew.trans f9 (fun _ _ h => h)
   have B2 := hide ((unhide A8).1.fr hfA9)
   have K2 := hide ((hfA9.block b9 (lt_of_block (unhide A8).2.1) (fun h => h)).trans (unhide A8).2.1)
   have X2 := hide ((hfA9.block bx (lt_of_block (unhide A8).2.2) (fun h => h)).trans (unhide A8).2.2)
   have HOV := hide (And.intro hov hfA9)
   have HZ := hide (show w.heap.size + 4 ≤ WA.heap.size by have := lt_of_block (unhide A8).1.b; omega)
   clear hov f9 HP hfA9
   go_simp
   refine hK.out _ _ ((unhide B2).s74 (unhide K2) (unhide X2)) (fun hHeld => ?_)
   clear hK K
   (try simp only [Act.put, nrm])
   refine wpAnyH_ready (rs := [5]) (by kernel_rfl) (by simp) (AllReadyH.cons rfl (fun K hK => ?_) (AllReadyH.nil))
   obtain ⟨W10, st10, a10, fa10⟩ := (unhide B2).putA (.slice so sn sc) (.slice vo (L.set i (⟨xw, xo, xs, xG, xV, .slice go gn gc, .slice (some ⟨vgg, vgo, none⟩) vn vcap⟩ : GC)).length vc) (fun u hu => by simp at hu; rcases hu with rfl | rfl <;> rfl)
   have H10 := hide st10
   have B3 := hide (And.intro a10 fa10)
   have K3 := hide ((fa10.block b9 (lt_of_block (unhide K2)) (fun e => by have := (unhide BL); omega)).trans (unhide K2))
   have X3 := hide ((fa10.block bx (lt_of_block (unhide X2)) (fun e => by have := (unhide BL); omega)).trans (unhide X2))
   clear st10 a10 fa10
   refine step_stN rfl 36 (.tmp 6) (.tmp 327) rfl _ _ (by simp [Act.eval]) (by simp [Act.eval]) (unhide H10) ?_
   refine hK.out _ _ ((unhide B3).1.s74 (unhide K3) (unhide X3)) (fun hHeld => ?_)
   clear hK K
   (try simp only [Act.put])
   refine wpAnyH_ready (rs := [6]) (by kernel_rfl) (by simp) (AllReadyH.cons rfl (fun K hK => ?_) (AllReadyH.nil))
   obtain ⟨W11, st11, a11, fa11⟩ := (unhide B3).1.putB (.int .u32 (cl : Nat)) (.int .u32 (nu : Nat)) (.int .u8 0) (.int .u32 (rc : Nat)) (.int .u32 (vn : Nat)) (.slice fa fl fb) (.slice none 0 0) (fun u hu => by simp at hu; rcases hu with rfl | rfl | rfl | rfl | rfl | rfl | rfl <;> rfl)
   have H11 := hide st11
   have B4 := hide (And.intro a11 fa11)
   have K4 := hide ((fa11.block b9 (lt_of_block (unhide K3)) (fun e => by have := (unhide BL); omega)).trans (unhide K3))
   have X4 := hide ((fa11.block bx (lt_of_block (unhide X3)) (fun e => by have := (unhide BL); omega)).trans (unhide X3))
   clear st11 a11 fa11
   refine step_stN rfl 45 (.tmp 7) (.tmp 328) rfl _ _ (by simp [Act.eval]) (by simp [Act.eval]) (unhide H11) ?_
   refine hK.out _ _ ((unhide B4).1.s74 (unhide K4) (unhide X4)) (fun hHeld => ?_)
   clear hK K
   (try simp only [Act.put])
   refine wpAnyH_done (by kernel_rfl) ?_ _
   refine NoPanic.normal ?_
   go_wp2_with fail
   refine bodyPost_ret (results_cells2 rfl _ _ (w.heap.size + 2) (w.heap.size + 3) [.slice so sn sc, .slice vo (L.set i (⟨xw, xo, xs, xG, xV, .slice go gn gc, .slice (some ⟨vgg, vgo, none⟩) vn vcap⟩ : GC)).length vc] [.int .u32 (cl : Nat), .int .u32 (nu : Nat), .int .u8 0, .int .u32 (rc : Nat), .int .u32 (vn : Nat), .slice fa fl fb, .slice none 0 0] _ _ rfl rfl (unhide B4).1.range.1 (unhide B4).1.range.2 Tryz.underlying36 rfl (by kernel_rfl) Tryz.underlying45 rfl (by kernel_rfl)) rfl ?_
   have hfw := (unhide B4).1.f
   have hfe : Fr (fun k => k = w.heap.size + 2 ∨ k = w.heap.size + 3) WA W11 := (((unhide HOV).2.mono (fun _ _ h => h.elim)).trans ((unhide B3).2.mono (fun _ _ h => .inl h)) (fun _ _ h => h)).trans ((unhide B4).2.mono (fun _ _ h => .inr h)) (fun _ _ h => h)
   have hown := ownsRow_of_block (ownsRow_of_block (unhide HOV).1 (fun g hg => (unhide B3).2.block g ((unhide HOV).1.lt g hg).2 (fun e => by have h1 : WA.heap.size ≤ g := ((unhide HOV).1.lt g hg).1; have := unhide HZ; omega))) (fun g hg => (unhide B4).2.block g (Nat.lt_of_lt_of_le ((unhide HOV).1.lt g hg).2 (unhide B3).2.size) (fun e => by have h1 : WA.heap.size ≤ g := ((unhide HOV).1.lt g hg).1; have := unhide HZ; omega))
   rw [unhide HNN]
   refine Or.inr (Or.inr ⟨unhide HCC, rfl, _, rfl, ⟨(unhide HG).1.s.fr hfw, fun k hk => .inl ((unhide HG).1.sb k hk), own_rd hown, fun k hk => .inr (by have h1 : WA.heap.size ≤ k := (own_blkX hown hk).1; have := unhide HZ; omega), fun y hy => ?_⟩, hfw⟩)
   rcases List.mem_or_eq_of_mem_set hy with hy | rfl
   ·exact (((unhide HG).1.c y hy).frS hfw (fun _ h => h.elim)).mono (fun k hk => .inl hk)
   ·exact ((unhide HGX).frS hfw (fun _ h => h.elim)).mono (fun k hk => .inl hk)
  ·go_wp2_with fail
   clear p0 p1 q0 q1 q2 q3 q4 q5 q6 q7 q8 q9 l0 l1 c0 c1 c2 c3 c4 l5 d0 d1 d2 d3 l6
   have A8 := hide ((unhide A7).fr (((box1 w7 (.cells #[.int .u32 (cl : Nat), .int .u32 (nu : Nat), .int .u8 0, .int .u32 (rc : Nat), .int .u32 0, .slice none 0 0, .slice none 0 0] 45)).alloc (.cells #[.int .u32 (xw : Nat), .int .u32 (xo : Nat), .bool xs, .slice go gn gc, .slice (some ⟨vgg, vgo, none⟩) vn vcap] 78)).alloc (.cells #[.int .u32 (au : Nat), .int .u32 (ev : Nat), .slice fa fl fb, .bool true] 75)))
   refine wp_region_noPanic ?_
   have B0 := hide ((unhide A8).fr (Fr.refl _ _).drew)
   refine wp_region_held_drew (S := S12W w so sn sc (some ⟨rg, rr, none⟩) rn rcap cl nu ac op rc ve wa ow fo fn fc rs) (by kernel_rfl) (unhide B0).s12 (fun hHeld => ?_)
   refine wtk (i := 0) (v := ?_) rfl (Or.inl ⟨by rfl, ?_⟩) hHeld ?_
   rotate_left
   ·intro w hSw; dsimp only [S12W] at hSw; go_simp; (try with_reducible rfl)
   (try simp only [Act.put, nrm])
   refine wtk (i := 1) (v := ?_) rfl (Or.inl ⟨by rfl, ?_⟩) hHeld ?_
   rotate_left
   ·intro w hSw; dsimp only [S12W] at hSw; go_simp; (try with_reducible rfl)
   (try simp only [Act.put, nrm])
   refine wpAnyH_ready (rs := [2]) (by kernel_rfl) (by simp) (AllReadyH.cons rfl (fun K hK => ?_) (AllReadyH.nil))
   go_simp
   refine ((unhide HRf) 8 _).mono ?_
   rintro e w1 ⟨rfl, f1⟩
   have B1 := hide ((unhide B0).fr f1)
   clear f1
   go_simp
   refine hK.out _ _ (unhide B1).s12 (fun hHeld => ?_)
   clear hK K
   (try simp only [Act.put, nrm])
   refine wpAnyH_ready (rs := [3]) (by kernel_rfl) (by simp) (AllReadyH.cons rfl (fun K hK => ?_) (AllReadyH.nil))
   obtain ⟨W2, st2, a2, _⟩ := (unhide B1).putA (.slice so sn sc) (.slice (some ⟨rg, rr, none⟩) rn rcap) (fun u hu => by simp at hu; rcases hu with rfl | rfl <;> rfl)
   have H2 := hide st2
   have B2 := hide a2
   clear st2 a2
   refine step_stN rfl 36 (.tmp 6) (.tmp 236) rfl _ _ (by simp [Act.eval]) (by simp [Act.eval]) (unhide H2) ?_
   refine hK.out _ _ (unhide B2).s12 (fun hHeld => ?_)
   clear hK K
   (try simp only [Act.put])
   refine wpAnyH_ready (rs := [4]) (by kernel_rfl) (by simp) (AllReadyH.cons rfl (fun K hK => ?_) (AllReadyH.nil))
   obtain ⟨W3, st3, a3, _⟩ := (unhide B2).putB (.int .u32 (cl : Nat)) (.int .u32 (nu : Nat)) (.int .u8 8) (.int .u32 0) (.int .u32 0) (.slice none 0 0) (.slice none 0 0) (fun u hu => by simp at hu; rcases hu with rfl | rfl | rfl | rfl | rfl | rfl | rfl <;> rfl)
   have H3 := hide st3
   have B3 := hide a3
   clear st3 a3
   refine step_stN rfl 45 (.tmp 7) (.tmp 238) rfl _ _ (by simp [Act.eval]) (by simp [Act.eval]) (unhide H3) ?_
   refine hK.out _ _ (unhide B3).s12 (fun hHeld => ?_)
   clear hK K
   (try simp only [Act.put])
   refine wpAnyH_done (by kernel_rfl) ?_ _
   refine NoPanic.normal ?_
   go_wp2_with fail
   refine bodyPost_ret (results_cells2 rfl _ _ (w.heap.size + 2) (w.heap.size + 3) [.slice so sn sc, .slice (some ⟨rg, rr, none⟩) rn rcap] [.int .u32 (cl : Nat), .int .u32 (nu : Nat), .int .u8 8, .int .u32 0, .int .u32 0, .slice none 0 0, .slice none 0 0] _ _ rfl rfl (unhide B3).range.1 (unhide B3).range.2 Tryz.underlying36 rfl (by kernel_rfl) Tryz.underlying45 rfl (by kernel_rfl)) rfl ?_
   exact Or.inr (Or.inl ⟨unhide HCC, rfl, rfl, (unhide B3).f⟩)
 have v4 : ((ve : Int) == 0) = false := by rw [beq_eq_false_iff_ne]; omega
 have hNn : N = ve := (unhide HN).2.1 h0
 have v6 : (ve : Int) - 1 = (m : Int) := by omega
 have v8 : IntKind.u32.wrap (ve : Int) = (ve : Int) := by have := unhide HV64; have := unhide HVE; rw [IntKind.wrap_u32]; omega
 have HNN := hide hNn
 clear h0 hNm hNn
 cases rd
 ·go_wp2_with fail
  clear p0 p1 q0 q1 q2 q3 q4 q5 q6 q7 q8 q9 l0 l1 c0 c1 c2 c3 c4 l5 d0 d1 d2 d3 l6 HRf
  have HX1 : Hid (GC.one (⟨xw, xo, xs, xG, xV, .slice go gn gc, .slice (some ⟨vgg, vgo, none⟩) vn vcap⟩ : GC)) := ⟨rfl, rfl⟩
  obtain ⟨b9, hb9⟩ : ∃ b9, b9 = w7.heap.size := ⟨_, rfl⟩
  obtain ⟨bx, hbx⟩ : ∃ bx, bx = w7.heap.size + 1 := ⟨_, rfl⟩
  obtain ⟨WA, hWA⟩ : ∃ WA, WA = ((w7.alloc (.cells #[.int .u32 (cl : Nat), .int .u32 (nu : Nat), .int .u8 0, .int .u32 (rc : Nat), .int .u32 (ve : Nat), .slice fa fl fb, .slice none 0 0] 45)).alloc (.cells #[.int .u32 (xw : Nat), .int .u32 (xo : Nat), .bool xs, .slice go gn gc, .slice (some ⟨vgg, vgo, none⟩) vn vcap] 78)).alloc (.cells #[.int .u32 (au : Nat), .int .u32 (ev : Nat), .slice fa fl fb, .bool false] 75) := ⟨_, rfl⟩
  have A8 : Hid (AB w WA (.slice so sn sc) (.slice (some ⟨rg, rr, none⟩) rn rcap) #[.int .u32 (cl : Nat), .int .u32 (nu : Nat), .int .u32 (ac : Nat), .int .u8 (op : Nat), .int .u32 (rc : Nat), .int .u32 (ve : Nat), .int .u32 (wa : Nat), .int .u32 (ow : Nat), .slice fo fn fc, .string rs] #[.slice none 0 0, .slice none 0 0] #[.int .u32 0, .int .u32 0, .int .u8 0, .int .u32 0, .int .u32 0, .slice none 0 0, .slice none 0 0] ∧ WA.heap[b9]? = some (.cells #[.int .u32 (cl : Nat), .int .u32 (nu : Nat), .int .u8 0, .int .u32 (rc : Nat), .int .u32 (ve : Nat), .slice fa fl fb, .slice none 0 0] 45) ∧ WA.heap[bx]? = some (.cells #[.int .u32 (xw : Nat), .int .u32 (xo : Nat), .bool xs, .slice go gn gc, .slice (some ⟨vgg, vgo, none⟩) vn vcap] 78)) := ⟨by rw [hWA]; exact (unhide A7).fr (((box1 w7 _).alloc _).alloc _), by rw [hWA, hb9]; exact (((Fr.refl (fun _ => False) _).alloc _).alloc _ |>.block _ (by simp) (fun h => h)).trans Array.getElem?_push_size, by rw [hWA, hbx]; exact ((box1 _ _).block _ (by simp) (fun h => h)).trans (heap_two w7 _ _)⟩
  have BL := hide (show w.heap.size + 4 ≤ b9 ∧ w.heap.size + 4 ≤ bx by have := lt_of_block (unhide A7).b; omega)
  rw [← hWA, ← hbx, ← hb9]
  clear hWA hb9 hbx A7
  refine wp_region_noPanic ?_
  refine wp_region_held_drew (S := S74W w so sn sc (some ⟨rg, rr, none⟩) rn rcap cl nu ac op rc ve wa ow fo fn fc rs b9 (.int .u32 (cl : Nat)) (.int .u32 (nu : Nat)) (.int .u8 0) (.int .u32 (rc : Nat)) (.int .u32 (ve : Nat)) (.slice fa fl fb) (.slice none 0 0) bx (.int .u32 (xw : Nat)) (.int .u32 (xo : Nat)) (.bool xs) (.slice go gn gc) (.slice (some ⟨vgg, vgo, none⟩) vn vcap)) (by kernel_rfl) (((unhide A8).1.fr (Fr.refl _ _).drew).s74 (unhide A8).2.1 (unhide A8).2.2) (fun hHeld => ?_)
  refine wtk (i := 0) (v := ?_) rfl (Or.inl ⟨by rfl, ?_⟩) hHeld ?_
  rotate_left
  ·intro w hSw; dsimp only [S74W, S12W] at hSw; go_simp; (try with_reducible rfl)
  (try simp only [Act.put, nrm])
  refine wtk (i := 1) (v := ?_) rfl (Or.inl ⟨by rfl, ?_⟩) hHeld ?_
  rotate_left
  ·intro w hSw; dsimp only [S74W, S12W] at hSw; go_simp; (try with_reducible rfl)
  (try simp only [Act.put, nrm])
  refine wtk (i := 2) (v := ?_) rfl (Or.inl ⟨by rfl, ?_⟩) hHeld ?_
  rotate_left
  ·intro w hSw; dsimp only [S74W, S12W] at hSw; go_simp; (try with_reducible rfl)
  (try simp only [Act.put, nrm])
  refine wtk (i := 4) (v := ?_) rfl (Or.inl ⟨by rfl, ?_⟩) hHeld ?_
  rotate_left
  ·intro w hSw; dsimp only [S74W, S12W] at hSw; go_simp; (try with_reducible rfl)
  (try simp only [Act.put, nrm])
  refine wpAnyH_ready (rs := [3]) (by kernel_rfl) (by simp) (AllReadyH.cons rfl (fun K hK => ?_) (AllReadyH.nil))
  go_simp
  have HP := hide (gput_any so sn sc (.slice (some ⟨rg, rr, none⟩) rn rcap) L i (⟨xw, xo, xs, xG, xV, .slice go gn gc, .slice (some ⟨vgg, vgo, none⟩) vn vcap⟩ : GC) WA.drew ((unhide HG).1.fr ((unhide A8).1.f.trans (Fr.refl _ _).drew (fun _ _ h => h))).r (unhide HG).2.1 (unhide HX1) (by have := (unhide HG).2.2; omega) (by have := (unhide HG).2.2; omega))
  refine (unhide HP).mono ?_
  rintro e w9 ⟨v, rfl, hov, f9⟩
  rw [show putL L i (⟨xw, xo, xs, xG, xV, .slice go gn gc, .slice (some ⟨vgg, vgo, none⟩) vn vcap⟩ : GC) = L.set i (⟨xw, xo, xs, xG, xV, .slice go gn gc, .slice (some ⟨vgg, vgo, none⟩) vn vcap⟩ : GC) from if_neg (by have := (unhide HG).2.2; omega)] at hov
  obtain ⟨vo, vc, rfl⟩ := own_formX hov
  have hfA9 : Fr (fun _ => False) WA w9 := (Fr.refl (fun _ => False) WA).drew.trans f9 (fun _ _ h => h)
  have B2 := hide ((unhide A8).1.fr hfA9)
  have K2 := hide ((hfA9.block b9 (lt_of_block (unhide A8).2.1) (fun h => h)).trans (unhide A8).2.1)
  have X2 := hide ((hfA9.block bx (lt_of_block (unhide A8).2.2) (fun h => h)).trans (unhide A8).2.2)
  have HOV := hide (And.intro hov hfA9)
  have HZ := hide (show w.heap.size + 4 ≤ WA.heap.size by have := lt_of_block (unhide A8).1.b; omega)
  clear hov f9 HP hfA9
  go_simp
  refine hK.out _ _ ((unhide B2).s74 (unhide K2) (unhide X2)) (fun hHeld => ?_)
  clear hK K
  (try simp only [Act.put, nrm])
  refine wpAnyH_ready (rs := [5]) (by kernel_rfl) (by simp) (AllReadyH.cons rfl (fun K hK => ?_) (AllReadyH.nil))
  obtain ⟨W10, st10, a10, fa10⟩ := (unhide B2).putA (.slice so sn sc) (.slice vo (L.set i (⟨xw, xo, xs, xG, xV, .slice go gn gc, .slice (some ⟨vgg, vgo, none⟩) vn vcap⟩ : GC)).length vc) (fun u hu => by simp at hu; rcases hu with rfl | rfl <;> rfl)
  have H10 := hide st10
  have B3 := hide (And.intro a10 fa10)
  have K3 := hide ((fa10.block b9 (lt_of_block (unhide K2)) (fun e => by have := (unhide BL); omega)).trans (unhide K2))
  have X3 := hide ((fa10.block bx (lt_of_block (unhide X2)) (fun e => by have := (unhide BL); omega)).trans (unhide X2))
  clear st10 a10 fa10
  refine step_stN rfl 36 (.tmp 6) (.tmp 327) rfl _ _ (by simp [Act.eval]) (by simp [Act.eval]) (unhide H10) ?_
  refine hK.out _ _ ((unhide B3).1.s74 (unhide K3) (unhide X3)) (fun hHeld => ?_)
  clear hK K
  (try simp only [Act.put])
  refine wpAnyH_ready (rs := [6]) (by kernel_rfl) (by simp) (AllReadyH.cons rfl (fun K hK => ?_) (AllReadyH.nil))
  obtain ⟨W11, st11, a11, fa11⟩ := (unhide B3).1.putB (.int .u32 (cl : Nat)) (.int .u32 (nu : Nat)) (.int .u8 0) (.int .u32 (rc : Nat)) (.int .u32 (ve : Nat)) (.slice fa fl fb) (.slice none 0 0) (fun u hu => by simp at hu; rcases hu with rfl | rfl | rfl | rfl | rfl | rfl | rfl <;> rfl)
  have H11 := hide st11
  have B4 := hide (And.intro a11 fa11)
  have K4 := hide ((fa11.block b9 (lt_of_block (unhide K3)) (fun e => by have := (unhide BL); omega)).trans (unhide K3))
  have X4 := hide ((fa11.block bx (lt_of_block (unhide X3)) (fun e => by have := (unhide BL); omega)).trans (unhide X3))
  clear st11 a11 fa11
  refine step_stN rfl 45 (.tmp 7) (.tmp 328) rfl _ _ (by simp [Act.eval]) (by simp [Act.eval]) (unhide H11) ?_
  refine hK.out _ _ ((unhide B4).1.s74 (unhide K4) (unhide X4)) (fun hHeld => ?_)
  clear hK K
  (try simp only [Act.put])
  refine wpAnyH_done (by kernel_rfl) ?_ _
  refine NoPanic.normal ?_
  go_wp2_with fail
  refine bodyPost_ret (results_cells2 rfl _ _ (w.heap.size + 2) (w.heap.size + 3) [.slice so sn sc, .slice vo (L.set i (⟨xw, xo, xs, xG, xV, .slice go gn gc, .slice (some ⟨vgg, vgo, none⟩) vn vcap⟩ : GC)).length vc] [.int .u32 (cl : Nat), .int .u32 (nu : Nat), .int .u8 0, .int .u32 (rc : Nat), .int .u32 (ve : Nat), .slice fa fl fb, .slice none 0 0] _ _ rfl rfl (unhide B4).1.range.1 (unhide B4).1.range.2 Tryz.underlying36 rfl (by kernel_rfl) Tryz.underlying45 rfl (by kernel_rfl)) rfl ?_
  have hfw := (unhide B4).1.f
  have hfe : Fr (fun k => k = w.heap.size + 2 ∨ k = w.heap.size + 3) WA W11 := (((unhide HOV).2.mono (fun _ _ h => h.elim)).trans ((unhide B3).2.mono (fun _ _ h => .inl h)) (fun _ _ h => h)).trans ((unhide B4).2.mono (fun _ _ h => .inr h)) (fun _ _ h => h)
  have hown := ownsRow_of_block (ownsRow_of_block (unhide HOV).1 (fun g hg => (unhide B3).2.block g ((unhide HOV).1.lt g hg).2 (fun e => by have h1 : WA.heap.size ≤ g := ((unhide HOV).1.lt g hg).1; have := unhide HZ; omega))) (fun g hg => (unhide B4).2.block g (Nat.lt_of_lt_of_le ((unhide HOV).1.lt g hg).2 (unhide B3).2.size) (fun e => by have h1 : WA.heap.size ≤ g := ((unhide HOV).1.lt g hg).1; have := unhide HZ; omega))
  rw [unhide HNN]
  refine Or.inr (Or.inr ⟨unhide HCC, rfl, _, rfl, ⟨(unhide HG).1.s.fr hfw, fun k hk => .inl ((unhide HG).1.sb k hk), own_rd hown, fun k hk => .inr (by have h1 : WA.heap.size ≤ k := (own_blkX hown hk).1; have := unhide HZ; omega), fun y hy => ?_⟩, hfw⟩)
  rcases List.mem_or_eq_of_mem_set hy with hy | rfl
  ·exact (((unhide HG).1.c y hy).frS hfw (fun _ h => h.elim)).mono (fun k hk => .inl hk)
  ·exact ((unhide HGX).frS hfw (fun _ h => h.elim)).mono (fun k hk => .inl hk)
 ·go_wp2_with fail
  clear p0 p1 q0 q1 q2 q3 q4 q5 q6 q7 q8 q9 l0 l1 c0 c1 c2 c3 c4 l5 d0 d1 d2 d3 l6
  have A8 := hide ((unhide A7).fr (((box1 w7 (.cells #[.int .u32 (cl : Nat), .int .u32 (nu : Nat), .int .u8 0, .int .u32 (rc : Nat), .int .u32 0, .slice none 0 0, .slice none 0 0] 45)).alloc (.cells #[.int .u32 (xw : Nat), .int .u32 (xo : Nat), .bool xs, .slice go gn gc, .slice (some ⟨vgg, vgo, none⟩) vn vcap] 78)).alloc (.cells #[.int .u32 (au : Nat), .int .u32 (ev : Nat), .slice fa fl fb, .bool true] 75)))
  refine wp_region_noPanic ?_
  have B0 := hide ((unhide A8).fr (Fr.refl _ _).drew)
  refine wp_region_held_drew (S := S12W w so sn sc (some ⟨rg, rr, none⟩) rn rcap cl nu ac op rc ve wa ow fo fn fc rs) (by kernel_rfl) (unhide B0).s12 (fun hHeld => ?_)
  refine wtk (i := 0) (v := ?_) rfl (Or.inl ⟨by rfl, ?_⟩) hHeld ?_
  rotate_left
  ·intro w hSw; dsimp only [S12W] at hSw; go_simp; (try with_reducible rfl)
  (try simp only [Act.put, nrm])
  refine wtk (i := 1) (v := ?_) rfl (Or.inl ⟨by rfl, ?_⟩) hHeld ?_
  rotate_left
  ·intro w hSw; dsimp only [S12W] at hSw; go_simp; (try with_reducible rfl)
  (try simp only [Act.put, nrm])
  refine wpAnyH_ready (rs := [2]) (by kernel_rfl) (by simp) (AllReadyH.cons rfl (fun K hK => ?_) (AllReadyH.nil))
  go_simp
  refine ((unhide HRf) 8 _).mono ?_
  rintro e w1 ⟨rfl, f1⟩
  have B1 := hide ((unhide B0).fr f1)
  clear f1
  go_simp
  refine hK.out _ _ (unhide B1).s12 (fun hHeld => ?_)
  clear hK K
  (try simp only [Act.put, nrm])
  refine wpAnyH_ready (rs := [3]) (by kernel_rfl) (by simp) (AllReadyH.cons rfl (fun K hK => ?_) (AllReadyH.nil))
  obtain ⟨W2, st2, a2, _⟩ := (unhide B1).putA (.slice so sn sc) (.slice (some ⟨rg, rr, none⟩) rn rcap) (fun u hu => by simp at hu; rcases hu with rfl | rfl <;> rfl)
  have H2 := hide st2
  have B2 := hide a2
  clear st2 a2
  refine step_stN rfl 36 (.tmp 6) (.tmp 236) rfl _ _ (by simp [Act.eval]) (by simp [Act.eval]) (unhide H2) ?_
  refine hK.out _ _ (unhide B2).s12 (fun hHeld => ?_)
  clear hK K
  (try simp only [Act.put])
  refine wpAnyH_ready (rs := [4]) (by kernel_rfl) (by simp) (AllReadyH.cons rfl (fun K hK => ?_) (AllReadyH.nil))
  obtain ⟨W3, st3, a3, _⟩ := (unhide B2).putB (.int .u32 (cl : Nat)) (.int .u32 (nu : Nat)) (.int .u8 8) (.int .u32 0) (.int .u32 0) (.slice none 0 0) (.slice none 0 0) (fun u hu => by simp at hu; rcases hu with rfl | rfl | rfl | rfl | rfl | rfl | rfl <;> rfl)
  have H3 := hide st3
  have B3 := hide a3
  clear st3 a3
  refine step_stN rfl 45 (.tmp 7) (.tmp 238) rfl _ _ (by simp [Act.eval]) (by simp [Act.eval]) (unhide H3) ?_
  refine hK.out _ _ (unhide B3).s12 (fun hHeld => ?_)
  clear hK K
  (try simp only [Act.put])
  refine wpAnyH_done (by kernel_rfl) ?_ _
  refine NoPanic.normal ?_
  go_wp2_with fail
  refine bodyPost_ret (results_cells2 rfl _ _ (w.heap.size + 2) (w.heap.size + 3) [.slice so sn sc, .slice (some ⟨rg, rr, none⟩) rn rcap] [.int .u32 (cl : Nat), .int .u32 (nu : Nat), .int .u8 8, .int .u32 0, .int .u32 0, .slice none 0 0, .slice none 0 0] _ _ rfl rfl (unhide B3).range.1 (unhide B3).range.2 Tryz.underlying36 rfl (by kernel_rfl) Tryz.underlying45 rfl (by kernel_rfl)) rfl ?_
  exact Or.inr (Or.inl ⟨unhide HCC, rfl, rfl, (unhide B3).f⟩)
theorem vgc_rd : ∀ (V : List GV) (m : Nat) (x : GV), V[m]? = some x → (vgc V).set (m * 4 + 3) (.bool true) = vgc (V.set m ⟨⟨x.v.au, x.v.ev, x.v.F, true⟩, x.fv⟩)
 | [], m, x, h => by simp at h
 | y :: r, 0, x, h => by
  simp at h
  subst h
  simp [vgc, GV.cs]
 | y :: r, m + 1, x, h => by
  rw [List.getElem?_cons_succ] at h
  have ih := vgc_rd r m x h
  have e : ∀ z : GV, ∀ l, vgc (z :: l) = [.int .u32 (z.v.au : Nat), .int .u32 (z.v.ev : Nat), z.fv, .bool z.v.rd] ++ vgc l := fun z l => by simp [vgc, GV.cs]
  rw [List.set_cons_succ, e, e, ← ih, show (m + 1) * 4 + 3 = m * 4 + 3 + 1 + 1 + 1 + 1 by omega]
  rfl
def RcP (w : World) (so : Option Addr) (sn : Nat) (sc : Nat) (ro : Option Addr) (rn : Nat) (rcap : Nat) (cl : Nat) (nu : Nat) (rc : Nat) (ve : Nat) (i : Nat) (xw : Nat) (xo : Nat) (xs : Bool) (xG : List Nat) (xV : List GV) (go : Option Addr) (gn : Nat) (gc : Nat) (vn : Nat) (S : List P3) (L : List GC) (T : Nat → Prop) (m : Nat) (au : Nat) (ev : Nat) (F : List F5) (rd : Bool) (fa : Option Addr) (fl : Nat) (fb : Nat) (e : Ending) (w' : World) : Prop := ((ve = 0 ∨ vn < ve) ∧ RefP w so sn sc ro rn rcap cl nu 4 e w') ∨ (¬ ve = 0 ∧ ¬ vn < ve ∧ rd = true ∧ RefP w so sn sc ro rn rcap cl nu 8 e w') ∨ (¬ ve = 0 ∧ ¬ vn < ve ∧ rd = false ∧ ∃ v nv, e = .returned (.tuple #[.agg #[.slice so sn sc, v], .agg #[.int .u32 (cl : Nat), .int .u32 (nu : Nat), .int .u8 0, .int .u32 (rc : Nat), .int .u32 (ve : Nat), .slice none 0 0, .slice none 0 0]]) ∧ GSt w' (fun k => T k ∨ w.heap.size ≤ k) (.slice so sn sc) v S (L.set i (⟨xw, xo, xs, xG, xV.set m ⟨⟨au, ev, F, true⟩, .slice fa fl fb⟩, .slice go gn gc, nv⟩ : GC)) ∧ Fr (fun _ => False) w w')
set_option maxHeartbeats 4000000 in
set_option maxRecDepth 100000 in
theorem gapply_redact (so : Option Addr) (sn sc : Nat) (rg rr rn rcap : Nat) (cl nu ac op rc ve wa ow : Nat) (fo : Option Addr) (fn fc : Nat) (rs : ByteArray) (place : Nat) (w : World) (HFo : Hid (FoH w cl nu ac op rc ve wa ow fo fn fc rs true)) (z : Int) (HFd : Hid (FdH w so sn sc ac z)) (hz : ¬ z < 0) (jc : Nat) (HJd : Hid (JdH w so sn sc (some ⟨rg, rr, none⟩) rn rcap cl nu ac op rc ve wa ow fo fn fc rs jc)) (hj : jc = 0) (ho : op = 4) (i xw xo : Nat) (xs : Bool) (xG : List Nat) (xV : List GV) (go : Option Addr) (gn gc : Nat) (vg : Option Addr) (vn vcap : Nat) (hrc : rc = i + 1) (hrn : rn ≤ 256) (hve : ve < 4294967296) (S : List P3) (L : List GC) (T : Nat → Prop) (hst : GSt w T (.slice so sn sc) (.slice (some ⟨rg, rr, none⟩) rn rcap) S L) (hx : L[i]? = some ⟨xw, xo, xs, xG, xV, .slice go gn gc, .slice vg vn vcap⟩) (hone : ∀ y ∈ L, y.one) (m : Nat) (au ev : Nat) (F : List F5) (rd : Bool) (fa : Option Addr) (fl fb : Nat) (hm : ve ≤ vn → ¬ ve = 0 → ve = m + 1 ∧ xV[m]? = some ⟨⟨au, ev, F, rd⟩, .slice fa fl fb⟩) (hvn : vn ≤ 64) (hvo : ∀ y ∈ xV, y.one) :
  Calls Tryz.prog 12 #[.agg #[.slice so sn sc, .slice (some ⟨rg, rr, none⟩) rn rcap], .agg #[.int .u32 (cl : Nat), .int .u32 (nu : Nat), .int .u32 (ac : Nat), .int .u8 (op : Nat), .int .u32 (rc : Nat), .int .u32 (ve : Nat), .int .u32 (wa : Nat), .int .u32 (ow : Nat), .slice fo fn fc, .string rs], .int .u32 (place : Nat)] w fun e w' => RcP w so sn sc (some ⟨rg, rr, none⟩) rn rcap cl nu rc ve i xw xo xs xG xV go gn gc vn S L T m au ev F rd fa fl fb e w' := by
 have o1 : ((op : Int) != 1) = true := by rw [bne_iff_ne]; omega
 have o41 : ((op : Int) == 1) = false := by rw [beq_eq_false_iff_ne]; omega
 have o42 : ((op : Int) == 2) = false := by rw [beq_eq_false_iff_ne]; omega
 have o43 : ((op : Int) == 3) = false := by rw [beq_eq_false_iff_ne]; omega
 have o44 : ((op : Int) == 4) = true := by rw [beq_iff_eq]; omega
 have o45 : ((op : Int) == 5) = false := by rw [beq_eq_false_iff_ne]; omega
 have o46 : ((op : Int) == 6) = false := by rw [beq_eq_false_iff_ne]; omega
 have o47 : ((op : Int) == 7) = false := by rw [beq_eq_false_iff_ne]; omega
 have z1 : decide (z < 0) = false := decide_eq_false (by omega)
 have z2 : ¬ z < 0 := by omega
 have j1 : ((jc : Int) != 0) = false := by rw [bne_eq_false_iff_eq]; omega
 have hln : L.length = rn := by
  obtain ⟨_, _, e⟩ := hst.r.form
  cases e
  rfl
 have hil : i < rn := by rw [← hln]; exact (List.getElem?_eq_some_iff.1 hx).1
 have r1 : ((rc : Int) == 0) = false := by rw [beq_eq_false_iff_ne]; omega
 have r2 : IntKind.i64.wrap (rc : Int) = (rc : Int) := by rw [IntKind.wrap_i64]; omega
 have r3 : ¬ rn < rc := by omega
 have r4 : ¬ (rn : Int) < (rc : Int) := by omega
 have r5 : (rc : Int) - 1 = (i : Int) := by omega
 have r6 : IntKind.i64.wrap (i : Int) = (i : Int) := by rw [IntKind.wrap_i64]; omega
 have r7 : (i : Int) < (rn : Int) := by omega
 have v1 : IntKind.i64.wrap (ve : Int) = (ve : Int) := by have := hve; rw [IntKind.wrap_i64]; omega
 have hxl : xV.length = vn := by
  obtain ⟨_, _, e⟩ := (hst.c _ (List.mem_of_getElem? hx)).v.form
  have h2 := (Value.slice.inj e).2.1
  simp only at h2
  omega
 have HM := hide (And.intro hm (And.intro hvn (And.intro hvo hxl)))
 have hat := cgc_at L i _ hx
 obtain ⟨_, _, e0, hcr⟩ := hst.r.at_ (by omega)
 cases e0
 have c0 := hcr (i * 5) _ (by have := hat 0 (by omega); simpa [GC.cs] using this)
 have c1 := hcr (i * 5 + 1) _ (by have := hat 1 (by omega); simpa [GC.cs] using this)
 have c2 := hcr (i * 5 + 2) _ (by have := hat 2 (by omega); simpa [GC.cs] using this)
 have c3 := hcr (i * 5 + 3) _ (by have := hat 3 (by omega); simpa [GC.cs] using this)
 have c4 := hcr (i * 5 + 4) _ (by have := hat 4 (by omega); simpa [GC.cs] using this)
 rw [← Nat.add_assoc] at c1 c2 c3 c4
 have hrgl : rg < w.heap.size := lt_of_cell c0
 have HC5 := hide (And.intro c0 (And.intro c1 (And.intro c2 (And.intro c3 c4))))
 have HG := hide (And.intro hst (And.intro hone (show L.length = rn ∧ i < rn ∧ rn ≤ 256 from ⟨hln, hil, hrn⟩)))
 have HGX := hide (hst.c _ (List.mem_of_getElem? hx))
 have HVE := hide hve
 clear hm hvn hvo hxl hone ho hz hj hst hx hrc hrn hve hln hil hat hcr c0 c1 c2 c3 c4
 obtain ⟨W4, hW4, a4⟩ := ab_new w so sn sc (some ⟨rg, rr, none⟩) rn rcap cl nu ac op rc ve wa ow fo fn fc rs
 have A4 := hide a4
 clear a4
 have HRf := hide (fun (co : Nat) W => grefused_any cl nu ac op rc ve wa ow co fo fn fc rs W)
 go_enter Tryz.func12, Tryz.ntmps12
 go_wp2_with fail
 rw [← hW4]
 clear hW4
 refine ((unhide HFo) _ (unhide A4).f).mono ?_
 rintro e w5 ⟨rfl, hf5⟩
 have A5 := hide ((unhide A4).fr hf5)
 clear hf5 A4
 obtain ⟨⟨p0, p1⟩, q0, q1, q2, q3, q4, q5, q6, q7, q8, q9⟩ := (unhide A5).s12
 go_wp2_with fail
 refine ((unhide HFd) _ (unhide A5).f).mono ?_
 rintro e w6 ⟨rfl, hw6⟩
 obtain rfl := hw6.symm
 clear hw6
 clear p0 p1 q0 q1 q2 q3 q4 q5 q6 q7 q8 q9
 obtain ⟨⟨p0, p1⟩, q0, q1, q2, q3, q4, q5, q6, q7, q8, q9⟩ := (unhide A5).s12
 go_wp2_with fail
 refine ((unhide HJd) _ (unhide A5).f).mono ?_
 rintro e w7 ⟨rfl, f7⟩
 have A7 := hide ((unhide A5).fr f7)
 clear f7 A5
 obtain ⟨⟨p0, p1⟩, q0, q1, q2, q3, q4, q5, q6, q7, q8, q9⟩ := (unhide A7).s12
 have l0 := lt_of_block (unhide A7).s
 have l1 := lt_of_block (unhide A7).r
 have f7 := (unhide A7).f
 have c0 := (f7.cell (p := ⟨rg, rr + i * 5, none⟩) hrgl (fun h => h)).trans (unhide HC5).1
 have c1 := (f7.cell (p := ⟨rg, rr + i * 5 + 1, none⟩) hrgl (fun h => h)).trans (unhide HC5).2.1
 have c2 := (f7.cell (p := ⟨rg, rr + i * 5 + 2, none⟩) hrgl (fun h => h)).trans (unhide HC5).2.2.1
 have c3 := (f7.cell (p := ⟨rg, rr + i * 5 + 3, none⟩) hrgl (fun h => h)).trans (unhide HC5).2.2.2.1
 have c4 := (f7.cell (p := ⟨rg, rr + i * 5 + 4, none⟩) hrgl (fun h => h)).trans (unhide HC5).2.2.2.2
 have l5 : rg < w7.heap.size := Nat.lt_of_lt_of_le hrgl f7.size
 clear f7
 by_cases h0 : ve = 0
 ·have HC0 := hide (show ve = 0 ∨ vn < ve from .inl h0)
  have v4 : decide ((ve : Int) < 1) = true := decide_eq_true (by omega)
  have v5 : (ve : Int) < 1 := by omega
  clear h0
  go_wp2_with fail
  clear p0 p1 q0 q1 q2 q3 q4 q5 q6 q7 q8 q9 l0 l1 c0 c1 c2 c3 c4 l5
  have A8 := hide ((unhide A7).fr ((box1 w7 (.cells #[.int .u32 (cl : Nat), .int .u32 (nu : Nat), .int .u8 0, .int .u32 (rc : Nat), .int .u32 0, .slice none 0 0, .slice none 0 0] 45)).alloc (.cells #[.int .u32 (xw : Nat), .int .u32 (xo : Nat), .bool xs, .slice go gn gc, .slice vg vn vcap] 78)))
  refine wp_region_noPanic ?_
  have B0 := hide ((unhide A8).fr (Fr.refl _ _).drew)
  refine wp_region_held_drew (S := S12W w so sn sc (some ⟨rg, rr, none⟩) rn rcap cl nu ac op rc ve wa ow fo fn fc rs) (by kernel_rfl) (unhide B0).s12 (fun hHeld => ?_)
  refine wtk (i := 0) (v := ?_) rfl (Or.inl ⟨by rfl, ?_⟩) hHeld ?_
  rotate_left
  ·intro w hSw; dsimp only [S12W] at hSw; go_simp; (try with_reducible rfl)
  (try simp only [Act.put, nrm])
  refine wtk (i := 1) (v := ?_) rfl (Or.inl ⟨by rfl, ?_⟩) hHeld ?_
  rotate_left
  ·intro w hSw; dsimp only [S12W] at hSw; go_simp; (try with_reducible rfl)
  (try simp only [Act.put, nrm])
  refine wpAnyH_ready (rs := [2]) (by kernel_rfl) (by simp) (AllReadyH.cons rfl (fun K hK => ?_) (AllReadyH.nil))
  go_simp
  refine ((unhide HRf) 4 _).mono ?_
  rintro e w1 ⟨rfl, f1⟩
  have B1 := hide ((unhide B0).fr f1)
  clear f1
  go_simp
  refine hK.out _ _ (unhide B1).s12 (fun hHeld => ?_)
  clear hK K
  (try simp only [Act.put, nrm])
  refine wpAnyH_ready (rs := [3]) (by kernel_rfl) (by simp) (AllReadyH.cons rfl (fun K hK => ?_) (AllReadyH.nil))
  obtain ⟨W2, st2, a2, _⟩ := (unhide B1).putA (.slice so sn sc) (.slice (some ⟨rg, rr, none⟩) rn rcap) (fun u hu => by simp at hu; rcases hu with rfl | rfl <;> rfl)
  have H2 := hide st2
  have B2 := hide a2
  clear st2 a2
  refine step_stN rfl 36 (.tmp 6) (.tmp 254) rfl _ _ (by simp [Act.eval]) (by simp [Act.eval]) (unhide H2) ?_
  refine hK.out _ _ (unhide B2).s12 (fun hHeld => ?_)
  clear hK K
  (try simp only [Act.put])
  refine wpAnyH_ready (rs := [4]) (by kernel_rfl) (by simp) (AllReadyH.cons rfl (fun K hK => ?_) (AllReadyH.nil))
  obtain ⟨W3, st3, a3, _⟩ := (unhide B2).putB (.int .u32 (cl : Nat)) (.int .u32 (nu : Nat)) (.int .u8 4) (.int .u32 0) (.int .u32 0) (.slice none 0 0) (.slice none 0 0) (fun u hu => by simp at hu; rcases hu with rfl | rfl | rfl | rfl | rfl | rfl | rfl <;> rfl)
  have H3 := hide st3
  have B3 := hide a3
  clear st3 a3
  refine step_stN rfl 45 (.tmp 7) (.tmp 256) rfl _ _ (by simp [Act.eval]) (by simp [Act.eval]) (unhide H3) ?_
  refine hK.out _ _ (unhide B3).s12 (fun hHeld => ?_)
  clear hK K
  (try simp only [Act.put])
  refine wpAnyH_done (by kernel_rfl) ?_ _
  refine NoPanic.normal ?_
  go_wp2_with fail
  refine bodyPost_ret (results_cells2 rfl _ _ (w.heap.size + 2) (w.heap.size + 3) [.slice so sn sc, .slice (some ⟨rg, rr, none⟩) rn rcap] [.int .u32 (cl : Nat), .int .u32 (nu : Nat), .int .u8 4, .int .u32 0, .int .u32 0, .slice none 0 0, .slice none 0 0] _ _ rfl rfl (unhide B3).range.1 (unhide B3).range.2 Tryz.underlying36 rfl (by kernel_rfl) Tryz.underlying45 rfl (by kernel_rfl)) rfl ?_
  exact Or.inl ⟨unhide HC0, rfl, (unhide B3).f⟩
 by_cases hvv : vn < ve
 ·have HC0 := hide (show ve = 0 ∨ vn < ve from .inr hvv)
  have v4 : decide ((ve : Int) < 1) = false := decide_eq_false (by omega)
  have v5 : ¬ (ve : Int) < 1 := by omega
  have v2 : (vn : Int) < (ve : Int) := by omega
  have v3 : vn < ve := by omega
  clear h0 hvv
  go_wp2_with fail
  clear p0 p1 q0 q1 q2 q3 q4 q5 q6 q7 q8 q9 l0 l1 c0 c1 c2 c3 c4 l5
  have A8 := hide ((unhide A7).fr ((box1 w7 (.cells #[.int .u32 (cl : Nat), .int .u32 (nu : Nat), .int .u8 0, .int .u32 (rc : Nat), .int .u32 0, .slice none 0 0, .slice none 0 0] 45)).alloc (.cells #[.int .u32 (xw : Nat), .int .u32 (xo : Nat), .bool xs, .slice go gn gc, .slice vg vn vcap] 78)))
  refine wp_region_noPanic ?_
  have B0 := hide ((unhide A8).fr (Fr.refl _ _).drew)
  refine wp_region_held_drew (S := S12W w so sn sc (some ⟨rg, rr, none⟩) rn rcap cl nu ac op rc ve wa ow fo fn fc rs) (by kernel_rfl) (unhide B0).s12 (fun hHeld => ?_)
  refine wtk (i := 0) (v := ?_) rfl (Or.inl ⟨by rfl, ?_⟩) hHeld ?_
  rotate_left
  ·intro w hSw; dsimp only [S12W] at hSw; go_simp; (try with_reducible rfl)
  (try simp only [Act.put, nrm])
  refine wtk (i := 1) (v := ?_) rfl (Or.inl ⟨by rfl, ?_⟩) hHeld ?_
  rotate_left
  ·intro w hSw; dsimp only [S12W] at hSw; go_simp; (try with_reducible rfl)
  (try simp only [Act.put, nrm])
  refine wpAnyH_ready (rs := [2]) (by kernel_rfl) (by simp) (AllReadyH.cons rfl (fun K hK => ?_) (AllReadyH.nil))
  go_simp
  refine ((unhide HRf) 4 _).mono ?_
  rintro e w1 ⟨rfl, f1⟩
  have B1 := hide ((unhide B0).fr f1)
  clear f1
  go_simp
  refine hK.out _ _ (unhide B1).s12 (fun hHeld => ?_)
  clear hK K
  (try simp only [Act.put, nrm])
  refine wpAnyH_ready (rs := [3]) (by kernel_rfl) (by simp) (AllReadyH.cons rfl (fun K hK => ?_) (AllReadyH.nil))
  obtain ⟨W2, st2, a2, _⟩ := (unhide B1).putA (.slice so sn sc) (.slice (some ⟨rg, rr, none⟩) rn rcap) (fun u hu => by simp at hu; rcases hu with rfl | rfl <;> rfl)
  have H2 := hide st2
  have B2 := hide a2
  clear st2 a2
  refine step_stN rfl 36 (.tmp 6) (.tmp 254) rfl _ _ (by simp [Act.eval]) (by simp [Act.eval]) (unhide H2) ?_
  refine hK.out _ _ (unhide B2).s12 (fun hHeld => ?_)
  clear hK K
  (try simp only [Act.put])
  refine wpAnyH_ready (rs := [4]) (by kernel_rfl) (by simp) (AllReadyH.cons rfl (fun K hK => ?_) (AllReadyH.nil))
  obtain ⟨W3, st3, a3, _⟩ := (unhide B2).putB (.int .u32 (cl : Nat)) (.int .u32 (nu : Nat)) (.int .u8 4) (.int .u32 0) (.int .u32 0) (.slice none 0 0) (.slice none 0 0) (fun u hu => by simp at hu; rcases hu with rfl | rfl | rfl | rfl | rfl | rfl | rfl <;> rfl)
  have H3 := hide st3
  have B3 := hide a3
  clear st3 a3
  refine step_stN rfl 45 (.tmp 7) (.tmp 256) rfl _ _ (by simp [Act.eval]) (by simp [Act.eval]) (unhide H3) ?_
  refine hK.out _ _ (unhide B3).s12 (fun hHeld => ?_)
  clear hK K
  (try simp only [Act.put])
  refine wpAnyH_done (by kernel_rfl) ?_ _
  refine NoPanic.normal ?_
  go_wp2_with fail
  refine bodyPost_ret (results_cells2 rfl _ _ (w.heap.size + 2) (w.heap.size + 3) [.slice so sn sc, .slice (some ⟨rg, rr, none⟩) rn rcap] [.int .u32 (cl : Nat), .int .u32 (nu : Nat), .int .u8 4, .int .u32 0, .int .u32 0, .slice none 0 0, .slice none 0 0] _ _ rfl rfl (unhide B3).range.1 (unhide B3).range.2 Tryz.underlying36 rfl (by kernel_rfl) Tryz.underlying45 rfl (by kernel_rfl)) rfl ?_
  exact Or.inl ⟨unhide HC0, rfl, (unhide B3).f⟩
 have HCC := hide (And.intro h0 hvv)
 have v4 : decide ((ve : Int) < 1) = false := decide_eq_false (by omega)
 have v5 : ¬ (ve : Int) < 1 := by omega
 have v2 : ¬ (vn : Int) < (ve : Int) := by omega
 have v3 : ¬ vn < ve := by omega
 obtain ⟨hem, hy⟩ := (unhide HM).1 (by omega) h0
 have hvn : vn ≤ 64 := (unhide HM).2.1
 have hmv2 : m < vn := by
  have h2 := (List.getElem?_eq_some_iff.1 hy).1
  have h3 := (unhide HM).2.2.2
  omega
 have v6 : (ve : Int) - 1 = (m : Int) := by omega
 have v7 : IntKind.i64.wrap (m : Int) = (m : Int) := by rw [IntKind.wrap_i64]; omega
 have v9 : (m : Int) < (vn : Int) := by omega
 have HYY := hide (And.intro hy (And.intro (unhide HM).2.2.2 (And.intro hmv2 (And.intro (unhide HM).2.2.1 hvn))))
 clear h0 hvv hem hy hvn hmv2
 have hrd7 := (unhide HGX).v.frS (unhide A7).f (fun _ _ h => h)
 obtain ⟨vgg, vgo, hve0, hvc⟩ := hrd7.at_ (Nat.lt_of_le_of_lt (Nat.zero_le m) (List.getElem?_eq_some_iff.1 (unhide HYY).1).1)
 subst hve0
 have hat := vgc_at xV m _ (unhide HYY).1
 have d3 := hvc (m * 4 + 3) _ (by have := hat 3 (by omega); simpa [GV.cs] using this)
 rw [← Nat.add_assoc] at d3
 have l6 : vgg < w7.heap.size := lt_of_cell d3
 have HRD := hide hrd7
 clear hvc hat hrd7
 cases rd
 ·go_wp2_with fail
  clear p0 p1 q0 q1 q2 q3 q4 q5 q6 q7 q8 q9 l0 l1 c0 c1 c2 c3 c4 l5 d3 l6 HRf
  obtain ⟨b9, hb9⟩ : ∃ b9, b9 = w7.heap.size := ⟨_, rfl⟩
  obtain ⟨bx, hbx⟩ : ∃ bx, bx = w7.heap.size + 1 := ⟨_, rfl⟩
  obtain ⟨W0, hW0⟩ : ∃ W0, W0 = (w7.alloc (.cells #[.int .u32 (cl : Nat), .int .u32 (nu : Nat), .int .u8 0, .int .u32 (rc : Nat), .int .u32 0, .slice none 0 0, .slice none 0 0] 45)).alloc (.cells #[.int .u32 (xw : Nat), .int .u32 (xo : Nat), .bool xs, .slice go gn gc, .slice (some ⟨vgg, vgo, none⟩) vn vcap] 78) := ⟨_, rfl⟩
  have f0 : Fr (fun _ => False) w7 W0 := by rw [hW0]; exact (box1 w7 _).alloc _
  have k9 : W0.heap[b9]? = some (.cells #[.int .u32 (cl : Nat), .int .u32 (nu : Nat), .int .u8 0, .int .u32 (rc : Nat), .int .u32 0, .slice none 0 0, .slice none 0 0] 45) := by rw [hW0, hb9]; exact ((box1 _ _).block _ (by simp) (fun h => h)).trans Array.getElem?_push_size
  have kx : W0.heap[bx]? = some (.cells #[.int .u32 (xw : Nat), .int .u32 (xo : Nat), .bool xs, .slice go gn gc, .slice (some ⟨vgg, vgo, none⟩) vn vcap] 78) := by rw [hW0, hbx]; exact heap_two w7 _ _
  have BL := hide (show w.heap.size + 4 ≤ b9 ∧ w.heap.size + 4 ≤ bx ∧ b9 ≠ bx by have := lt_of_block (unhide A7).b; omega)
  rw [← hW0, ← hbx, ← hb9]
  clear hW0 hb9 hbx
  refine (gversions_any _ xV W0 ((unhide HRD).frS f0 (fun _ _ h => h)) (unhide HYY).2.2.2.1 (by have := (unhide HYY).2; omega)).mono ?_
  rintro e w8 ⟨nv, rfl, hnv, f8⟩
  obtain ⟨ng, ncap, rfl, hng, _⟩ := hnv.form (by have := (unhide HYY).2; omega)
  have e9 := (f8.block b9 (lt_of_block k9) (fun h => h)).trans k9
  have ex := (f8.block bx (lt_of_block kx) (fun h => h)).trans kx
  have A9 := hide (((unhide A7).fr f0).fr f8)
  have hngW : W0.heap.size ≤ ng := hng
  have hb9l := lt_of_block k9
  have hbxl := lt_of_block kx
  rw [(unhide HYY).2.1] at hnv ⊢
  obtain ⟨⟨_, _⟩, _, _, _, _, _, q5, _, _, _, _⟩ := (unhide A9).s12
  have x4 : w8.cell? ⟨bx, 4, none⟩ = some (.slice (some ⟨vgg, vgo, none⟩) vn vcap) := by simp [World.cell?, ex]
  have zx : w8.frozen? ⟨bx, 4, none⟩ = false := by simp [World.frozen?, ex]
  have a4 : w8.cell? ⟨b9, 4, none⟩ = some (.int .u32 0) := by simp [World.cell?, e9]
  have za : w8.frozen? ⟨b9, 4, none⟩ = false := by simp [World.frozen?, e9]
  have hat := vgc_at xV m _ (unhide HYY).1
  have n3 : w8.cell? ⟨ng, m * 4 + 3, none⟩ = some (.bool false) := by
   have h1 := hnv
   rw [hnv.cellAt _ (by have := (unhide HYY).2.2.1; omega)]
   have := hat 3 (by omega)
   simpa [GV.cs] using this
  have zn : w8.frozen? ⟨ng, m * 4 + 3, none⟩ = false := hnv.frozenAt _
  have s1 : ¬ bx = ng := by omega
  have s2 : ¬ ng = bx := by omega
  have s3 : ¬ b9 = ng := by omega
  have s4 : ¬ ng = b9 := by omega
  have s5 : ¬ b9 = bx := (unhide BL).2.2
  have s6 : ¬ bx = b9 := fun e => s5 e.symm
  have s7 : ¬ w.heap.size + 1 = bx := by have := (unhide BL).2.1; omega
  have s8 : ¬ w.heap.size + 1 = ng := by have := (unhide BL).2.1; omega
  have s9 : ¬ bx = w.heap.size + 1 := fun e => s7 e.symm
  have s0 : ¬ ng = w.heap.size + 1 := fun e => s8 e.symm
  obtain ⟨WA, hWA⟩ : ∃ WA, WA = ((w8.setCell ⟨bx, 4, none⟩ (.slice (some ⟨ng, 0, none⟩) vn ncap)).setCell ⟨ng, m * 4 + 3, none⟩ (.bool true)).setCell ⟨b9, 4, none⟩ (.int .u32 (ve : Nat)) := ⟨_, rfl⟩
  have g1 := (Fr.refl (fun k => k = bx) w8).setCell (p := ⟨bx, 4, none⟩) (.inl rfl) (.slice (some ⟨ng, 0, none⟩) vn ncap)
  have g2 := (Fr.refl (fun k => k = ng) (w8.setCell ⟨bx, 4, none⟩ (.slice (some ⟨ng, 0, none⟩) vn ncap))).setCell (p := ⟨ng, m * 4 + 3, none⟩) (.inl rfl) (.bool true)
  have g3 := (Fr.refl (fun k => k = b9) ((w8.setCell ⟨bx, 4, none⟩ (.slice (some ⟨ng, 0, none⟩) vn ncap)).setCell ⟨ng, m * 4 + 3, none⟩ (.bool true))).setCell (p := ⟨b9, 4, none⟩) (.inl rfl) (.int .u32 (ve : Nat))
  rw [← hWA] at g3
  have t1 := heap_setCell_same w8 bx 4 _ 78 (.slice (some ⟨ng, 0, none⟩) vn ncap) ex
  simp only [List.setIfInBounds_toArray, List.set_cons_zero, List.set_cons_succ] at t1
  have t2 := (g3.block bx (by have := lt_of_block t1; have := g2.size; omega) s6).trans ((g2.block bx (lt_of_block t1) s1).trans t1)
  have u1 := (g2.block b9 (by have := g1.size; have := lt_of_block e9; omega) s3).trans ((g1.block b9 (lt_of_block e9) s5).trans e9)
  have u2 := heap_setCell_same _ b9 4 _ 45 (.int .u32 (ve : Nat)) u1
  simp only [List.setIfInBounds_toArray, List.set_cons_zero, List.set_cons_succ] at u2
  rw [← hWA] at u2
  have r1x := ownsRow_of_block hnv (fun g hg => g1.block g (hnv.lt g hg).2 (fun e => s2 (by have : ng = g := Option.some.inj hg; omega)))
  have r2x := own_set r1x rfl (m * 4 + 3) (.bool true)
  rw [vgc_rd xV m _ (unhide HYY).1] at r2x
  have r3x := ownsRow_of_block r2x (fun g hg => g3.block g (r2x.lt g hg).2 (fun e => s4 (by have : ng = g := Option.some.inj hg; omega)))
  have g4 : Fr (fun k => k = bx ∨ k = ng ∨ k = b9) w8 WA := ((g1.mono (fun _ _ h => .inl h)).trans (g2.mono (fun _ _ h => .inr (.inl h))) (fun _ _ h => h)).trans (g3.mono (fun _ _ h => .inr (.inr h))) (fun _ _ h => h)
  have A8 : Hid (AB w WA (.slice so sn sc) (.slice (some ⟨rg, rr, none⟩) rn rcap) #[.int .u32 (cl : Nat), .int .u32 (nu : Nat), .int .u32 (ac : Nat), .int .u8 (op : Nat), .int .u32 (rc : Nat), .int .u32 (ve : Nat), .int .u32 (wa : Nat), .int .u32 (ow : Nat), .slice fo fn fc, .string rs] #[.slice none 0 0, .slice none 0 0] #[.int .u32 0, .int .u32 0, .int .u8 0, .int .u32 0, .int .u32 0, .slice none 0 0, .slice none 0 0] ∧ WA.heap[b9]? = some (.cells #[.int .u32 (cl : Nat), .int .u32 (nu : Nat), .int .u8 0, .int .u32 (rc : Nat), .int .u32 (ve : Nat), .slice none 0 0, .slice none 0 0] 45) ∧ WA.heap[bx]? = some (.cells #[.int .u32 (xw : Nat), .int .u32 (xo : Nat), .bool xs, .slice go gn gc, .slice (some ⟨ng, 0, none⟩) vn ncap] 78)) := ⟨(unhide A9).frS g4 (fun k hk => by have := unhide BL; rcases hk with rfl | rfl | rfl <;> omega), u2, t2⟩
  have HNV := hide (And.intro r3x (show w.heap.size + 4 ≤ ng by have := (unhide BL).1; omega))
  have HX1 : Hid (GC.one (⟨xw, xo, xs, xG, xV.set m ⟨⟨au, ev, F, true⟩, .slice fa fl fb⟩, .slice go gn gc, .slice (some ⟨ng, 0, none⟩) vn ncap⟩ : GC)) := ⟨rfl, rfl⟩
  clear hnv f8 f0 k9 kx e9 ex hng hngW hb9l hbxl hat g1 g2 g3 g4 t1 t2 u1 u2 r1x r2x r3x A7 A9 HRD
  go_wp2_with fail
  rw [← hWA]
  clear hWA x4 zx a4 za n3 zn s1 s2 s3 s4 s5 s6 s7 s8 s9 s0 q5
  refine wp_region_noPanic ?_
  refine wp_region_held_drew (S := S74W w so sn sc (some ⟨rg, rr, none⟩) rn rcap cl nu ac op rc ve wa ow fo fn fc rs b9 (.int .u32 (cl : Nat)) (.int .u32 (nu : Nat)) (.int .u8 0) (.int .u32 (rc : Nat)) (.int .u32 (ve : Nat)) (.slice none 0 0) (.slice none 0 0) bx (.int .u32 (xw : Nat)) (.int .u32 (xo : Nat)) (.bool xs) (.slice go gn gc) (.slice (some ⟨ng, 0, none⟩) vn ncap)) (by kernel_rfl) (((unhide A8).1.fr (Fr.refl _ _).drew).s74 (unhide A8).2.1 (unhide A8).2.2) (fun hHeld => ?_)
  refine wtk (i := 0) (v := ?_) rfl (Or.inl ⟨by rfl, ?_⟩) hHeld ?_
  rotate_left
  ·intro w hSw; dsimp only [S74W, S12W] at hSw; go_simp; (try with_reducible rfl)
  (try simp only [Act.put, nrm])
  refine wtk (i := 1) (v := ?_) rfl (Or.inl ⟨by rfl, ?_⟩) hHeld ?_
  rotate_left
  ·intro w hSw; dsimp only [S74W, S12W] at hSw; go_simp; (try with_reducible rfl)
  (try simp only [Act.put, nrm])
  refine wtk (i := 2) (v := ?_) rfl (Or.inl ⟨by rfl, ?_⟩) hHeld ?_
  rotate_left
  ·intro w hSw; dsimp only [S74W, S12W] at hSw; go_simp; (try with_reducible rfl)
  (try simp only [Act.put, nrm])
  refine wtk (i := 4) (v := ?_) rfl (Or.inl ⟨by rfl, ?_⟩) hHeld ?_
  rotate_left
  ·intro w hSw; dsimp only [S74W, S12W] at hSw; go_simp; (try with_reducible rfl)
  (try simp only [Act.put, nrm])
  refine wpAnyH_ready (rs := [3]) (by kernel_rfl) (by simp) (AllReadyH.cons rfl (fun K hK => ?_) (AllReadyH.nil))
  go_simp
  have HP := hide (gput_any so sn sc (.slice (some ⟨rg, rr, none⟩) rn rcap) L i (⟨xw, xo, xs, xG, xV.set m ⟨⟨au, ev, F, true⟩, .slice fa fl fb⟩, .slice go gn gc, .slice (some ⟨ng, 0, none⟩) vn ncap⟩ : GC) WA.drew ((unhide HG).1.fr ((unhide A8).1.f.trans (Fr.refl _ _).drew (fun _ _ h => h))).r (unhide HG).2.1 (unhide HX1) (by have := (unhide HG).2.2; omega) (by have := (unhide HG).2.2; omega))
  refine (unhide HP).mono ?_
  rintro e w9 ⟨v, rfl, hov, f9⟩
  rw [show putL L i (⟨xw, xo, xs, xG, xV.set m ⟨⟨au, ev, F, true⟩, .slice fa fl fb⟩, .slice go gn gc, .slice (some ⟨ng, 0, none⟩) vn ncap⟩ : GC) = L.set i (⟨xw, xo, xs, xG, xV.set m ⟨⟨au, ev, F, true⟩, .slice fa fl fb⟩, .slice go gn gc, .slice (some ⟨ng, 0, none⟩) vn ncap⟩ : GC) from if_neg (by have := (unhide HG).2.2; omega)] at hov
  obtain ⟨vo, vc, rfl⟩ := own_formX hov
  have hfA9 : Fr (fun _ => False) WA w9 := (Fr.refl (fun _ => False) WA).drew.trans f9 (fun _ _ h => h)
  have B2 := hide ((unhide A8).1.fr hfA9)
  have K2 := hide ((hfA9.block b9 (lt_of_block (unhide A8).2.1) (fun h => h)).trans (unhide A8).2.1)
  have X2 := hide ((hfA9.block bx (lt_of_block (unhide A8).2.2) (fun h => h)).trans (unhide A8).2.2)
  have HOV := hide (And.intro hov hfA9)
  have HZ := hide (show w.heap.size + 4 ≤ WA.heap.size by have := lt_of_block (unhide A8).1.b; omega)
  clear hov f9 HP hfA9
  go_simp
  refine hK.out _ _ ((unhide B2).s74 (unhide K2) (unhide X2)) (fun hHeld => ?_)
  clear hK K
  (try simp only [Act.put, nrm])
  refine wpAnyH_ready (rs := [5]) (by kernel_rfl) (by simp) (AllReadyH.cons rfl (fun K hK => ?_) (AllReadyH.nil))
  obtain ⟨W10, st10, a10, fa10⟩ := (unhide B2).putA (.slice so sn sc) (.slice vo (L.set i (⟨xw, xo, xs, xG, xV.set m ⟨⟨au, ev, F, true⟩, .slice fa fl fb⟩, .slice go gn gc, .slice (some ⟨ng, 0, none⟩) vn ncap⟩ : GC)).length vc) (fun u hu => by simp at hu; rcases hu with rfl | rfl <;> rfl)
  have H10 := hide st10
  have B3 := hide (And.intro a10 fa10)
  have K3 := hide ((fa10.block b9 (lt_of_block (unhide K2)) (fun e => by have := (unhide BL); omega)).trans (unhide K2))
  have X3 := hide ((fa10.block bx (lt_of_block (unhide X2)) (fun e => by have := (unhide BL); omega)).trans (unhide X2))
  clear st10 a10 fa10
  refine step_stN rfl 36 (.tmp 6) (.tmp 327) rfl _ _ (by simp [Act.eval]) (by simp [Act.eval]) (unhide H10) ?_
  refine hK.out _ _ ((unhide B3).1.s74 (unhide K3) (unhide X3)) (fun hHeld => ?_)
  clear hK K
  (try simp only [Act.put])
  refine wpAnyH_ready (rs := [6]) (by kernel_rfl) (by simp) (AllReadyH.cons rfl (fun K hK => ?_) (AllReadyH.nil))
  obtain ⟨W11, st11, a11, fa11⟩ := (unhide B3).1.putB (.int .u32 (cl : Nat)) (.int .u32 (nu : Nat)) (.int .u8 0) (.int .u32 (rc : Nat)) (.int .u32 (ve : Nat)) (.slice none 0 0) (.slice none 0 0) (fun u hu => by simp at hu; rcases hu with rfl | rfl | rfl | rfl | rfl | rfl | rfl <;> rfl)
  have H11 := hide st11
  have B4 := hide (And.intro a11 fa11)
  have K4 := hide ((fa11.block b9 (lt_of_block (unhide K3)) (fun e => by have := (unhide BL); omega)).trans (unhide K3))
  have X4 := hide ((fa11.block bx (lt_of_block (unhide X3)) (fun e => by have := (unhide BL); omega)).trans (unhide X3))
  clear st11 a11 fa11
  refine step_stN rfl 45 (.tmp 7) (.tmp 328) rfl _ _ (by simp [Act.eval]) (by simp [Act.eval]) (unhide H11) ?_
  refine hK.out _ _ ((unhide B4).1.s74 (unhide K4) (unhide X4)) (fun hHeld => ?_)
  clear hK K
  (try simp only [Act.put])
  refine wpAnyH_done (by kernel_rfl) ?_ _
  refine NoPanic.normal ?_
  go_wp2_with fail
  refine bodyPost_ret (results_cells2 rfl _ _ (w.heap.size + 2) (w.heap.size + 3) [.slice so sn sc, .slice vo (L.set i (⟨xw, xo, xs, xG, xV.set m ⟨⟨au, ev, F, true⟩, .slice fa fl fb⟩, .slice go gn gc, .slice (some ⟨ng, 0, none⟩) vn ncap⟩ : GC)).length vc] [.int .u32 (cl : Nat), .int .u32 (nu : Nat), .int .u8 0, .int .u32 (rc : Nat), .int .u32 (ve : Nat), .slice none 0 0, .slice none 0 0] _ _ rfl rfl (unhide B4).1.range.1 (unhide B4).1.range.2 Tryz.underlying36 rfl (by kernel_rfl) Tryz.underlying45 rfl (by kernel_rfl)) rfl ?_
  have hfw := (unhide B4).1.f
  have hfe : Fr (fun k => k = w.heap.size + 2 ∨ k = w.heap.size + 3) WA W11 := (((unhide HOV).2.mono (fun _ _ h => h.elim)).trans ((unhide B3).2.mono (fun _ _ h => .inl h)) (fun _ _ h => h)).trans ((unhide B4).2.mono (fun _ _ h => .inr h)) (fun _ _ h => h)
  have hown := ownsRow_of_block (ownsRow_of_block (unhide HOV).1 (fun g hg => (unhide B3).2.block g ((unhide HOV).1.lt g hg).2 (fun e => by have h1 : WA.heap.size ≤ g := ((unhide HOV).1.lt g hg).1; have := unhide HZ; omega))) (fun g hg => (unhide B4).2.block g (Nat.lt_of_lt_of_le ((unhide HOV).1.lt g hg).2 (unhide B3).2.size) (fun e => by have h1 : WA.heap.size ≤ g := ((unhide HOV).1.lt g hg).1; have := unhide HZ; omega))
  refine Or.inr (Or.inr ⟨(unhide HCC).1, (unhide HCC).2, rfl, _, _, rfl, ⟨(unhide HG).1.s.fr hfw, fun k hk => .inl ((unhide HG).1.sb k hk), own_rd hown, fun k hk => .inr (by have h1 : WA.heap.size ≤ k := (own_blkX hown hk).1; have := unhide HZ; omega), fun y hy => ?_⟩, hfw⟩)
  rcases List.mem_or_eq_of_mem_set hy with hy | rfl
  ·exact (((unhide HG).1.c y hy).frS hfw (fun _ h => h.elim)).mono (fun k hk => .inl hk)
  ·have hgx := ((unhide HGX).frS hfw (fun _ h => h.elim)).mono (T' := fun k => T k ∨ w.heap.size ≤ k) (fun k hk => .inl hk)
   have hrow := ownsRow_of_block (unhide HNV).1 (fun g hg => hfe.block g ((unhide HNV).1.lt g hg).2 (fun e => by have h1 : ng = g := Option.some.inj hg; have := (unhide HNV).2; omega))
   refine ⟨hgx.g, hgx.gb, ?_, fun k hk => .inr ?_, fun y hy => ?_, fun y hy => ?_⟩
   ·have := own_rd hrow
    simpa [(unhide HYY).2.1] using this
   ·obtain ⟨_, _, _, e, _⟩ := hk
    cases e
    have := (unhide HNV).2
    omega
   ·rcases List.mem_or_eq_of_mem_set hy with hy | rfl
    ·exact hgx.f y hy
    ·exact hgx.f ⟨⟨au, ev, F, false⟩, .slice fa fl fb⟩ (List.mem_of_getElem? (unhide HYY).1)
   ·rcases List.mem_or_eq_of_mem_set hy with hy | rfl
    ·exact hgx.fb y hy
    ·exact hgx.fb ⟨⟨au, ev, F, false⟩, .slice fa fl fb⟩ (List.mem_of_getElem? (unhide HYY).1)
 ·go_wp2_with fail
  clear p0 p1 q0 q1 q2 q3 q4 q5 q6 q7 q8 q9 l0 l1 c0 c1 c2 c3 c4 l5 d3 l6
  have A8 := hide ((unhide A7).fr ((box1 w7 (.cells #[.int .u32 (cl : Nat), .int .u32 (nu : Nat), .int .u8 0, .int .u32 (rc : Nat), .int .u32 0, .slice none 0 0, .slice none 0 0] 45)).alloc (.cells #[.int .u32 (xw : Nat), .int .u32 (xo : Nat), .bool xs, .slice go gn gc, .slice (some ⟨vgg, vgo, none⟩) vn vcap] 78)))
  refine wp_region_noPanic ?_
  have B0 := hide ((unhide A8).fr (Fr.refl _ _).drew)
  refine wp_region_held_drew (S := S12W w so sn sc (some ⟨rg, rr, none⟩) rn rcap cl nu ac op rc ve wa ow fo fn fc rs) (by kernel_rfl) (unhide B0).s12 (fun hHeld => ?_)
  refine wtk (i := 0) (v := ?_) rfl (Or.inl ⟨by rfl, ?_⟩) hHeld ?_
  rotate_left
  ·intro w hSw; dsimp only [S12W] at hSw; go_simp; (try with_reducible rfl)
  (try simp only [Act.put, nrm])
  refine wtk (i := 1) (v := ?_) rfl (Or.inl ⟨by rfl, ?_⟩) hHeld ?_
  rotate_left
  ·intro w hSw; dsimp only [S12W] at hSw; go_simp; (try with_reducible rfl)
  (try simp only [Act.put, nrm])
  refine wpAnyH_ready (rs := [2]) (by kernel_rfl) (by simp) (AllReadyH.cons rfl (fun K hK => ?_) (AllReadyH.nil))
  go_simp
  refine ((unhide HRf) 8 _).mono ?_
  rintro e w1 ⟨rfl, f1⟩
  have B1 := hide ((unhide B0).fr f1)
  clear f1
  go_simp
  refine hK.out _ _ (unhide B1).s12 (fun hHeld => ?_)
  clear hK K
  (try simp only [Act.put, nrm])
  refine wpAnyH_ready (rs := [3]) (by kernel_rfl) (by simp) (AllReadyH.cons rfl (fun K hK => ?_) (AllReadyH.nil))
  obtain ⟨W2, st2, a2, _⟩ := (unhide B1).putA (.slice so sn sc) (.slice (some ⟨rg, rr, none⟩) rn rcap) (fun u hu => by simp at hu; rcases hu with rfl | rfl <;> rfl)
  have H2 := hide st2
  have B2 := hide a2
  clear st2 a2
  refine step_stN rfl 36 (.tmp 6) (.tmp 264) rfl _ _ (by simp [Act.eval]) (by simp [Act.eval]) (unhide H2) ?_
  refine hK.out _ _ (unhide B2).s12 (fun hHeld => ?_)
  clear hK K
  (try simp only [Act.put])
  refine wpAnyH_ready (rs := [4]) (by kernel_rfl) (by simp) (AllReadyH.cons rfl (fun K hK => ?_) (AllReadyH.nil))
  obtain ⟨W3, st3, a3, _⟩ := (unhide B2).putB (.int .u32 (cl : Nat)) (.int .u32 (nu : Nat)) (.int .u8 8) (.int .u32 0) (.int .u32 0) (.slice none 0 0) (.slice none 0 0) (fun u hu => by simp at hu; rcases hu with rfl | rfl | rfl | rfl | rfl | rfl | rfl <;> rfl)
  have H3 := hide st3
  have B3 := hide a3
  clear st3 a3
  refine step_stN rfl 45 (.tmp 7) (.tmp 266) rfl _ _ (by simp [Act.eval]) (by simp [Act.eval]) (unhide H3) ?_
  refine hK.out _ _ (unhide B3).s12 (fun hHeld => ?_)
  clear hK K
  (try simp only [Act.put])
  refine wpAnyH_done (by kernel_rfl) ?_ _
  refine NoPanic.normal ?_
  go_wp2_with fail
  refine bodyPost_ret (results_cells2 rfl _ _ (w.heap.size + 2) (w.heap.size + 3) [.slice so sn sc, .slice (some ⟨rg, rr, none⟩) rn rcap] [.int .u32 (cl : Nat), .int .u32 (nu : Nat), .int .u8 8, .int .u32 0, .int .u32 0, .slice none 0 0, .slice none 0 0] _ _ rfl rfl (unhide B3).range.1 (unhide B3).range.2 Tryz.underlying36 rfl (by kernel_rfl) Tryz.underlying45 rfl (by kernel_rfl)) rfl ?_
  exact Or.inr (Or.inl ⟨(unhide HCC).1, (unhide HCC).2, rfl, rfl, (unhide B3).f⟩)
end Go.Proofs.YtiknjghcjaaenaaGreatDoor
