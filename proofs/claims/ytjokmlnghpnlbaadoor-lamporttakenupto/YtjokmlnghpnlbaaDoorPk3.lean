import Derived.Test.YtjokmlnghpnlbaaDoorPk2
import Derived.Test.YtjokmlnghpnlbaaDoorPk1
namespace Go.Proofs.YtjokmlnghpnlbaaDoor
open Go.RowKit

set_option maxRecDepth 100000 in
set_option maxHeartbeats 1000000 in
theorem ltaken_Aneg (wi H : Nat) (hw1 : 1 ≤ wi) (hw32 : wi ≤ 32) (hH : H ≤ 6) (hp : ¬ 8 < wi) (K : Int) (hK : K < 0) (x mv ov : Value) (seed m ot : List Nat) (w : World) (hg : GS w) (hr : GR w) (ht : GT w) (hx : Sl w x seed) (hm : Sl w mv m) (ho : Sl w ov ot) (hs : seed.length ≤ 2000000) (hml : m.length ≤ 2000000) (hol : ot.length ≤ 2000000) :
    Calls Tryd.prog 7 #[.int .i64 wi, .int .i64 H, x, .int .i64 K, mv, ov] w fun e w' => e = .returned (.bool true) ∧ Fr (fun _ => False) w w' := by
  have hN64 : 2 ^ H ≤ 64 := Nat.pow_le_pow_right (n := 2) (by decide) hH
  have hN1 : 1 ≤ 2 ^ H := Nat.one_le_two_pow
  have HC := hide (c5_of wi H hw1 hw32 hH x mv seed m w hg ht hx (by omega) hm (by omega))
  have HT := hide (t5_of wi H hw1 hw32 hH mv ov seed m ot w hg hr hm (by omega) ho (by omega))
  have hmay := fun w' => g5may_any wi H w'
  rw [decide_eq_true (by omega)] at hmay
  obtain ⟨xo, xc, rfl⟩ := hx.form
  obtain ⟨mo, mc, rfl⟩ := hm.form
  obtain ⟨oo, oc, rfl⟩ := ho.form
  have hSZ9 : 16 * wi * wi ≤ 16384 := Nat.mul_le_mul (show 16 * wi ≤ 512 by omega) hw32
  have hhw9 : H * wi ≤ 192 := Nat.mul_le_mul hH hw32
  have hS9 : 16 * wi * wi + H * wi ≤ 140737488355328 := by omega
  have hls : ∀ n, lvs wi seed (n + 1) = lvs wi seed n ++ [(fun K => lf (wi : Int) (eN wi seed K)) n] := lvs_succ wi seed
  have hl0 : lvs wi seed 0 = [] := rfl
  generalize Ky5 wi H seed = KY at *
  generalize 16 * wi * wi + H * wi = SZ at *
  generalize mth (wi : Int) (lvs wi seed (2 ^ H)) = PB at *
  generalize 2 ^ H = N at *
  generalize (fun K => sig wi H K seed (sm wi m)) = SG at *
  generalize (fun K => lf (wi : Int) (eN wi seed K)) = LF at *
  generalize lvs wi seed = LS at *
  generalize sm (wi : Int) m = HM at *
  generalize sm (wi : Int) ot = HO at *
  have HY := hide hmay
  have HZ := hide hS9
  have HLS := hide (And.intro hls hl0)
  clear hmay hx hm ho hg hr ht hSZ9 hhw9 hS9 hls hl0
  generalize seed.length = SN at *
  generalize m.length = ML at *
  generalize ot.length = OL at *
  have hkk : 0 < N := by omega
  have hp' : ¬ (8 : Int) < (wi : Int) := by omega
  go_enter Tryd.func7, Tryd.ntmps7
  go_wp2_with fail
  refine ((unhide HY) _).mono ?_
  rintro e w0 ⟨rfl, rfl⟩
  go_wp2_with fail
  refine ((unhide HC).new _ (Fr.refl _ _)).mono ?_
  rintro e w1 ⟨kb, rfl, hk1, hF1⟩
  have H1 := hide (And.intro hk1 hF1)
  clear hk1 hF1
  go_wp2_with fail
  refine ((unhide HC).new _ (unhide H1).2).mono ?_
  rintro e w2 ⟨tb, rfl, hk2, hF2⟩
  have H2 := hide (And.intro ((unhide HC).fr _ _ _ (unhide H1).1 hF2) (And.intro hk2 ((unhide H1).2.trans hF2 (fun _ _ h => h))))
  clear hk2 hF2 H1
  go_wp2_with fail
  refine ((unhide HC).liv _ (unhide H2).2.2).mono ?_
  rintro e w3 ⟨rfl, hF3⟩
  have H3 := hide (And.intro ((unhide HC).fr _ _ _ (unhide H2).1 hF3) (And.intro ((unhide HC).fr _ _ _ (unhide H2).2.1 hF3) ((unhide H2).2.2.trans hF3 (fun _ _ h => h))))
  clear hF3 H2
  go_wp2_with fail
  refine ((unhide HC).sign _ _ 0 (unhide H3).1 (unhide H3).2.2 hkk).mono ?_
  rintro e w5 ⟨so, sc, rfl, hO5⟩
  have H5 := hide (And.intro ((unhide HC).fr _ _ _ (unhide H3).1 hO5.fr) (And.intro ((unhide HC).fr _ _ _ (unhide H3).2.1 hO5.fr) (And.intro ((unhide H3).2.2.trans hO5.fr (fun _ _ h => h)) (hO5.sl2 ((unhide HC).sbyt _) ((unhide HC).slen _ hkk)))))
  clear hO5 H3
  go_wp2_with fail
  refine ((unhide HC).sign _ _ 0 (unhide H5).2.1 (unhide H5).2.2.1 hkk).mono ?_
  rintro e w6 ⟨uo, uc, rfl, hO6⟩
  have H6 := hide (And.intro ((unhide HC).fr _ _ _ (unhide H5).1 hO6.fr) (And.intro ((unhide HC).fr _ _ _ (unhide H5).2.1 hO6.fr) (And.intro ((unhide H5).2.2.1.trans hO6.fr (fun _ _ h => h)) (And.intro ((unhide H5).2.2.2.fr0 hO6.fr) (hO6.sl2 ((unhide HC).sbyt _) ((unhide HC).slen _ hkk))))))
  clear hO6 H5
  go_wp2_with fail
  refine (same_T (unhide H6).2.2.2.1.s (unhide H6).2.2.2.2.s (by rw [(unhide HC).slen _ hkk]; exact unhide HZ) (sameB_refl _)).mono ?_
  rintro e w7 ⟨rfl, hF7⟩
  have H7 := hide (And.intro ((unhide HC).fr _ _ _ (unhide H6).1 hF7) (And.intro ((unhide HC).fr _ _ _ (unhide H6).2.1 hF7) (And.intro ((unhide H6).2.2.1.trans hF7 (fun _ _ h => h)) ((unhide H6).2.2.2.1.fr0 hF7))))
  clear hF7 H6
  go_wp2_with fail
  refine ((unhide HC).size _).mono ?_
  rintro e w8 ⟨rfl, rfl⟩
  go_wp2_with fail
  refine ((unhide HC).pub _ _ (unhide H7).1).mono ?_
  rintro e w9 ⟨po, pc, rfl, hO9⟩
  have H9 := hide (And.intro ((unhide HC).fr _ _ _ (unhide H7).1 hO9.fr) (And.intro ((unhide HC).fr _ _ _ (unhide H7).2.1 hO9.fr) (And.intro ((unhide H7).2.2.1.trans hO9.fr (fun _ _ h => h)) (And.intro ((unhide H7).2.2.2.fr0 hO9.fr) (hO9.sl2 (unhide HC).pbyt (unhide HC).plen)))))
  clear hO9 H7
  go_wp2_with fail
  refine ((unhide HT).chk _ _ _ 0 (unhide H9).2.2.1 (unhide H9).2.2.2.2 (unhide H9).2.2.2.1 hkk).mono ?_
  rintro e wA ⟨rfl, hFA⟩
  have HA := hide (And.intro ((unhide HC).fr _ _ _ (unhide H9).1 hFA) (And.intro ((unhide HC).fr _ _ _ (unhide H9).2.1 hFA) (And.intro ((unhide H9).2.2.1.trans hFA (fun _ _ h => h)) ((unhide H9).2.2.2.1.fr0 hFA))))
  clear hFA H9
  go_wp2_with fail
  refine ((unhide HT).sum _ (unhide HA).2.2.1).mono ?_
  rintro e wB ⟨mo9, mc9, rfl, hOB⟩
  have HB := hide (And.intro (hOB.sl2 (unhide HT).hmb (unhide HT).hml) hOB.fr)
  clear hOB
  go_wp2_with fail
  refine ((unhide HT).suo _ ((unhide HA).2.2.1.trans (unhide HB).2 (fun _ _ h => h))).mono ?_
  rintro e wC ⟨oo9, oc9, rfl, hOC⟩
  have HCc := hide (And.intro ((unhide HB).1.fr0 hOC.fr) (And.intro (hOC.sl2 (unhide HT).hob (unhide HT).hol) ((unhide HB).2.trans hOC.fr (fun _ _ h => h))))
  clear hOC HB
  go_wp2_with fail
  refine (gsame_D (unhide HCc).1 (unhide HCc).2.1 (by rw [(unhide HT).hml]; omega)).mono ?_
  rintro e wD ⟨rfl, hFD⟩
  have hAD : Fr (fun _ => False) wA wD := (unhide HCc).2.2.trans hFD (fun _ _ h => h)
  have HD := hide (And.intro ((unhide HC).fr _ _ _ (unhide HA).1 hAD) (And.intro ((unhide HC).fr _ _ _ (unhide HA).2.1 hAD) (And.intro ((unhide HA).2.2.1.trans hAD (fun _ _ h => h)) ((unhide HA).2.2.2.fr0 hAD))))
  clear hFD hAD HCc HA
  by_cases heq : HM = HO
  · rw [decide_eq_true heq]
    have HE := hide heq
    clear heq
    go_wp2_with fail
    refine ((unhide HC).pub _ _ (unhide HD).1).mono ?_
    rintro e wE ⟨qo, qc, rfl, hOE⟩
    have H9 := hide (And.intro ((unhide HC).fr _ _ _ (unhide HD).1 hOE.fr) (And.intro ((unhide HC).fr _ _ _ (unhide HD).2.1 hOE.fr) (And.intro ((unhide HD).2.2.1.trans hOE.fr (fun _ _ h => h)) (And.intro ((unhide HD).2.2.2.fr0 hOE.fr) (hOE.sl2 (unhide HC).pbyt (unhide HC).plen)))))
    clear hOE HD
    go_wp2_with fail
    refine ((unhide HT).cho (unhide HE) _ _ _ 0 (unhide H9).2.2.1 (unhide H9).2.2.2.2 (unhide H9).2.2.2.1 hkk).mono ?_
    rintro e wF ⟨rfl, hFF⟩
    have HL := hide (And.intro ((unhide HC).fr _ _ _ (unhide H9).1 hFF) (And.intro ((unhide HC).fr _ _ _ (unhide H9).2.1 hFF) ((unhide H9).2.2.1.trans hFF (fun _ _ h => h))))
    clear hFF H9
    go_wp2_with fail
    have hL0 : LV wF wF none 0 [] (LS 0) := (unhide HLS).2 ▸ LV.nil _
    have HL0 := hide hL0
    clear hL0
    go_loopw [21, 22] (fun v iv wr => ∃ (i : Nat) (ao : Option Addr) (cp : Nat) (us : List Value), i ≤ N ∧ iv = .int .i64 (i : Nat) ∧ v = .slice ao i cp ∧ us.length = i ∧ LV wF wr ao cp us (LS i)) (fun _ iv _ => N - (intOf iv).toNat)
    case atStart => exact ⟨0, none, 0, [], Nat.zero_le _, rfl, rfl, rfl, unhide HL0⟩
    case round =>
      obtain ⟨i, ao, cp, us, hi, rfl, rfl, hus, hI⟩ := hrel
      have hky := (unhide HC).fr _ _ _ (unhide HL).1 hI.own.fr
      by_cases hlt : i < N
      · have hlt' : (i : Int) < (N : Int) := by omega
        have HI := hide (And.intro hky (And.intro hus hI))
        clear hky hus hI
        go_wp2_with fail
        refine ((unhide HC).len _ _ (unhide HI).1).mono ?_
        rintro e wG ⟨rfl, rfl⟩
        go_wp2_with fail
        refine ((unhide HC).leaf _ _ i (unhide HI).1 hlt).mono ?_
        rintro e wJ ⟨zo, rfl, hOJ⟩
        obtain ⟨ao', cp', w3, hr3, hL3⟩ := (unhide HI).2.2.step (LF i) zo wi hOJ ((unhide HC).lbyt i) (by rw [(unhide HI).2.1]; omega)
        rw [← (unhide HLS).1] at hL3
        rw [(unhide HI).2.1, (unhide HC).llen] at hr3
        have HR := hide (And.intro hr3 hL3)
        clear hr3 hL3 hOJ
        go_wp2_with (at_builtin; refine wpList_app rfl _ _ 40 40 rfl _ _ _ rfl rfl (unhide HR).1 ?_)
        exact ⟨⟨i + 1, ao', cp', _, by omega, by go_num, rfl, by rw [List.length_append, (unhide HI).2.1]; rfl, (unhide HR).2⟩, by simp [intOf]; omega⟩
      · have hlt' : ¬ (i : Int) < (N : Int) := by omega
        have hiN : i = N := by omega
        have hpc := hI.pcs
        have hcp : i ≤ cp := by
          rcases hI.own.own.2 with ⟨e, e2⟩ | ⟨g, cap, cur, e, _, _, h3, _⟩
          · omega
          · simp only [Value.slice.injEq, true_and] at e
            rw [e.2, ← hus]; exact h3
        rw [hus, hiN] at hpc
        rw [hiN] at hcp
        have hfr := (unhide HL).2.2.trans hI.own.fr (fun _ _ h => h)
        have hky2 := (unhide HC).fr _ _ _ (unhide HL).2.1 hI.own.fr
        have HI := hide (And.intro hky (And.intro hky2 (And.intro hpc (And.intro hcp hfr))))
        clear hky hky2 hpc hcp hfr hI hus
        subst hiN
        go_wp2_with fail
        refine ((unhide HC).len _ _ (unhide HI).1).mono ?_
        rintro e wG ⟨rfl, rfl⟩
        go_wp2_with fail
        refine ((unhide HT).of _ _ us (unhide HI).2.2.2.2 (unhide HI).2.2.1 (fun _ _ _ e => by cases e; exact (unhide HI).2.2.2.1)).mono ?_
        rintro e wK ⟨fo, fc, rfl, hSK, hFK⟩
        have HK := hide (And.intro hSK (And.intro ((unhide HC).fr _ _ _ (unhide HI).1 hFK) (And.intro ((unhide HC).fr _ _ _ (unhide HI).2.1 hFK) ((unhide HI).2.2.2.2.trans hFK (fun _ _ h => h)))))
        clear hSK hFK
        go_wp2_with fail
        refine ((unhide HC).pub _ _ (unhide HK).2.1).mono ?_
        rintro e wM ⟨qo1, qc1, rfl, hOM⟩
        have HM1 := hide (And.intro ((unhide HK).1.fr0 hOM.fr) (And.intro (hOM.sl2 (unhide HC).pbyt (unhide HC).plen) (And.intro ((unhide HC).fr _ _ _ (unhide HK).2.1 hOM.fr) (And.intro ((unhide HC).fr _ _ _ (unhide HK).2.2.1 hOM.fr) ((unhide HK).2.2.2.trans hOM.fr (fun _ _ h => h))))))
        clear hOM HK
        go_wp2_with fail
        refine (same_T (unhide HM1).1.s (unhide HM1).2.1.s (by rw [(unhide HC).plen]; omega) (sameB_refl _)).mono ?_
        rintro e wN ⟨rfl, hFN⟩
        have HN1 := hide (And.intro ((unhide HC).fr _ _ _ (unhide HM1).2.2.1 hFN) (And.intro ((unhide HC).fr _ _ _ (unhide HM1).2.2.2.1 hFN) ((unhide HM1).2.2.2.2.trans hFN (fun _ _ h => h))))
        clear hFN HM1
        go_wp2_with fail
        refine ((unhide HC).pub _ _ (unhide HN1).1).mono ?_
        rintro e wO ⟨qo2, qc2, rfl, hOO⟩
        have HO1 := hide (And.intro (hOO.sl2 (unhide HC).pbyt (unhide HC).plen) (And.intro ((unhide HC).fr _ _ _ (unhide HN1).2.1 hOO.fr) ((unhide HN1).2.2.trans hOO.fr (fun _ _ h => h))))
        clear hOO HN1
        go_wp2_with fail
        refine ((unhide HC).pub _ _ (unhide HO1).2.1).mono ?_
        rintro e wP ⟨qo3, qc3, rfl, hOP⟩
        have HP1 := hide (And.intro ((unhide HO1).1.fr0 hOP.fr) (And.intro (hOP.sl2 (unhide HC).pbyt (unhide HC).plen) ((unhide HO1).2.2.trans hOP.fr (fun _ _ h => h))))
        clear hOP HO1
        go_wp2_with fail
        refine (same_T (unhide HP1).1.s (unhide HP1).2.1.s (by rw [(unhide HC).plen]; omega) (sameB_refl _)).mono ?_
        rintro e wQ ⟨rfl, hFQ⟩
        have HQ1 := hide ((unhide HP1).2.2.trans hFQ (fun _ _ h => h))
        clear hFQ HP1
        go_wp2_with fail
        go_ret
        exact ⟨rfl, unhide HQ1⟩
  · rw [decide_eq_false heq]
    have HL := hide (And.intro (unhide HD).1 (And.intro (unhide HD).2.1 (unhide HD).2.2.1))
    clear heq HD
    go_wp2_with fail
    have hL0 : LV wD wD none 0 [] (LS 0) := (unhide HLS).2 ▸ LV.nil _
    have HL0 := hide hL0
    clear hL0
    go_loopw [21, 22] (fun v iv wr => ∃ (i : Nat) (ao : Option Addr) (cp : Nat) (us : List Value), i ≤ N ∧ iv = .int .i64 (i : Nat) ∧ v = .slice ao i cp ∧ us.length = i ∧ LV wD wr ao cp us (LS i)) (fun _ iv _ => N - (intOf iv).toNat)
    case atStart => exact ⟨0, none, 0, [], Nat.zero_le _, rfl, rfl, rfl, unhide HL0⟩
    case round =>
      obtain ⟨i, ao, cp, us, hi, rfl, rfl, hus, hI⟩ := hrel
      have hky := (unhide HC).fr _ _ _ (unhide HL).1 hI.own.fr
      by_cases hlt : i < N
      · have hlt' : (i : Int) < (N : Int) := by omega
        have HI := hide (And.intro hky (And.intro hus hI))
        clear hky hus hI
        go_wp2_with fail
        refine ((unhide HC).len _ _ (unhide HI).1).mono ?_
        rintro e wG ⟨rfl, rfl⟩
        go_wp2_with fail
        refine ((unhide HC).leaf _ _ i (unhide HI).1 hlt).mono ?_
        rintro e wJ ⟨zo, rfl, hOJ⟩
        obtain ⟨ao', cp', w3, hr3, hL3⟩ := (unhide HI).2.2.step (LF i) zo wi hOJ ((unhide HC).lbyt i) (by rw [(unhide HI).2.1]; omega)
        rw [← (unhide HLS).1] at hL3
        rw [(unhide HI).2.1, (unhide HC).llen] at hr3
        have HR := hide (And.intro hr3 hL3)
        clear hr3 hL3 hOJ
        go_wp2_with (at_builtin; refine wpList_app rfl _ _ 40 40 rfl _ _ _ rfl rfl (unhide HR).1 ?_)
        exact ⟨⟨i + 1, ao', cp', _, by omega, by go_num, rfl, by rw [List.length_append, (unhide HI).2.1]; rfl, (unhide HR).2⟩, by simp [intOf]; omega⟩
      · have hlt' : ¬ (i : Int) < (N : Int) := by omega
        have hiN : i = N := by omega
        have hpc := hI.pcs
        have hcp : i ≤ cp := by
          rcases hI.own.own.2 with ⟨e, e2⟩ | ⟨g, cap, cur, e, _, _, h3, _⟩
          · omega
          · simp only [Value.slice.injEq, true_and] at e
            rw [e.2, ← hus]; exact h3
        rw [hus, hiN] at hpc
        rw [hiN] at hcp
        have hfr := (unhide HL).2.2.trans hI.own.fr (fun _ _ h => h)
        have hky2 := (unhide HC).fr _ _ _ (unhide HL).2.1 hI.own.fr
        have HI := hide (And.intro hky (And.intro hky2 (And.intro hpc (And.intro hcp hfr))))
        clear hky hky2 hpc hcp hfr hI hus
        subst hiN
        go_wp2_with fail
        refine ((unhide HC).len _ _ (unhide HI).1).mono ?_
        rintro e wG ⟨rfl, rfl⟩
        go_wp2_with fail
        refine ((unhide HT).of _ _ us (unhide HI).2.2.2.2 (unhide HI).2.2.1 (fun _ _ _ e => by cases e; exact (unhide HI).2.2.2.1)).mono ?_
        rintro e wK ⟨fo, fc, rfl, hSK, hFK⟩
        have HK := hide (And.intro hSK (And.intro ((unhide HC).fr _ _ _ (unhide HI).1 hFK) (And.intro ((unhide HC).fr _ _ _ (unhide HI).2.1 hFK) ((unhide HI).2.2.2.2.trans hFK (fun _ _ h => h)))))
        clear hSK hFK
        go_wp2_with fail
        refine ((unhide HC).pub _ _ (unhide HK).2.1).mono ?_
        rintro e wM ⟨qo1, qc1, rfl, hOM⟩
        have HM1 := hide (And.intro ((unhide HK).1.fr0 hOM.fr) (And.intro (hOM.sl2 (unhide HC).pbyt (unhide HC).plen) (And.intro ((unhide HC).fr _ _ _ (unhide HK).2.1 hOM.fr) (And.intro ((unhide HC).fr _ _ _ (unhide HK).2.2.1 hOM.fr) ((unhide HK).2.2.2.trans hOM.fr (fun _ _ h => h))))))
        clear hOM HK
        go_wp2_with fail
        refine (same_T (unhide HM1).1.s (unhide HM1).2.1.s (by rw [(unhide HC).plen]; omega) (sameB_refl _)).mono ?_
        rintro e wN ⟨rfl, hFN⟩
        have HN1 := hide (And.intro ((unhide HC).fr _ _ _ (unhide HM1).2.2.1 hFN) (And.intro ((unhide HC).fr _ _ _ (unhide HM1).2.2.2.1 hFN) ((unhide HM1).2.2.2.2.trans hFN (fun _ _ h => h))))
        clear hFN HM1
        go_wp2_with fail
        refine ((unhide HC).pub _ _ (unhide HN1).1).mono ?_
        rintro e wO ⟨qo2, qc2, rfl, hOO⟩
        have HO1 := hide (And.intro (hOO.sl2 (unhide HC).pbyt (unhide HC).plen) (And.intro ((unhide HC).fr _ _ _ (unhide HN1).2.1 hOO.fr) ((unhide HN1).2.2.trans hOO.fr (fun _ _ h => h))))
        clear hOO HN1
        go_wp2_with fail
        refine ((unhide HC).pub _ _ (unhide HO1).2.1).mono ?_
        rintro e wP ⟨qo3, qc3, rfl, hOP⟩
        have HP1 := hide (And.intro ((unhide HO1).1.fr0 hOP.fr) (And.intro (hOP.sl2 (unhide HC).pbyt (unhide HC).plen) ((unhide HO1).2.2.trans hOP.fr (fun _ _ h => h))))
        clear hOP HO1
        go_wp2_with fail
        refine (same_T (unhide HP1).1.s (unhide HP1).2.1.s (by rw [(unhide HC).plen]; omega) (sameB_refl _)).mono ?_
        rintro e wQ ⟨rfl, hFQ⟩
        have HQ1 := hide ((unhide HP1).2.2.trans hFQ (fun _ _ h => h))
        clear hFQ HP1
        go_wp2_with fail
        go_ret
        exact ⟨rfl, unhide HQ1⟩
end Go.Proofs.YtjokmlnghpnlbaaDoor

namespace Go.Proofs.YtjokmlnghpnlbaaDoor
open Go.RowKit

set_option maxRecDepth 100000 in
set_option maxHeartbeats 1000000 in
theorem ltaken_Abig (wi H : Nat) (hw1 : 1 ≤ wi) (hw32 : wi ≤ 32) (hH : H ≤ 6) (hp : ¬ 8 < wi) (K : Int) (hK : ((2 ^ H : Nat) : Int) ≤ K) (x mv ov : Value) (seed m ot : List Nat) (w : World) (hg : GS w) (hr : GR w) (ht : GT w) (hx : Sl w x seed) (hm : Sl w mv m) (ho : Sl w ov ot) (hs : seed.length ≤ 2000000) (hml : m.length ≤ 2000000) (hol : ot.length ≤ 2000000) :
    Calls Tryd.prog 7 #[.int .i64 wi, .int .i64 H, x, .int .i64 K, mv, ov] w fun e w' => e = .returned (.bool true) ∧ Fr (fun _ => False) w w' := by
  have hN64 : 2 ^ H ≤ 64 := Nat.pow_le_pow_right (n := 2) (by decide) hH
  have hN1 : 1 ≤ 2 ^ H := Nat.one_le_two_pow
  have HC := hide (c5_of wi H hw1 hw32 hH x mv seed m w hg ht hx (by omega) hm (by omega))
  have HT := hide (t5_of wi H hw1 hw32 hH mv ov seed m ot w hg hr hm (by omega) ho (by omega))
  have hmay := fun w' => g5may_any wi H w'
  rw [decide_eq_true (by omega)] at hmay
  obtain ⟨xo, xc, rfl⟩ := hx.form
  obtain ⟨mo, mc, rfl⟩ := hm.form
  obtain ⟨oo, oc, rfl⟩ := ho.form
  have hSZ9 : 16 * wi * wi ≤ 16384 := Nat.mul_le_mul (show 16 * wi ≤ 512 by omega) hw32
  have hhw9 : H * wi ≤ 192 := Nat.mul_le_mul hH hw32
  have hS9 : 16 * wi * wi + H * wi ≤ 140737488355328 := by omega
  have hls : ∀ n, lvs wi seed (n + 1) = lvs wi seed n ++ [(fun K => lf (wi : Int) (eN wi seed K)) n] := lvs_succ wi seed
  have hl0 : lvs wi seed 0 = [] := rfl
  generalize Ky5 wi H seed = KY at *
  generalize 16 * wi * wi + H * wi = SZ at *
  generalize mth (wi : Int) (lvs wi seed (2 ^ H)) = PB at *
  generalize 2 ^ H = N at *
  generalize (fun K => sig wi H K seed (sm wi m)) = SG at *
  generalize (fun K => lf (wi : Int) (eN wi seed K)) = LF at *
  generalize lvs wi seed = LS at *
  generalize sm (wi : Int) m = HM at *
  generalize sm (wi : Int) ot = HO at *
  have HY := hide hmay
  have HZ := hide hS9
  have HLS := hide (And.intro hls hl0)
  clear hmay hx hm ho hg hr ht hSZ9 hhw9 hS9 hls hl0
  generalize seed.length = SN at *
  generalize m.length = ML at *
  generalize ot.length = OL at *
  have hkk : 0 < N := by omega
  have hp' : ¬ (8 : Int) < (wi : Int) := by omega
  have hk1 : ¬ K < 0 := by omega
  go_enter Tryd.func7, Tryd.ntmps7
  go_wp2_with fail
  refine ((unhide HY) _).mono ?_
  rintro e w0 ⟨rfl, rfl⟩
  go_wp2_with fail
  refine ((unhide HC).new _ (Fr.refl _ _)).mono ?_
  rintro e w1 ⟨kb, rfl, hk1, hF1⟩
  have H1 := hide (And.intro hk1 hF1)
  clear hk1 hF1
  go_wp2_with fail
  refine ((unhide HC).new _ (unhide H1).2).mono ?_
  rintro e w2 ⟨tb, rfl, hk2, hF2⟩
  have H2 := hide (And.intro ((unhide HC).fr _ _ _ (unhide H1).1 hF2) (And.intro hk2 ((unhide H1).2.trans hF2 (fun _ _ h => h))))
  clear hk2 hF2 H1
  go_wp2_with fail
  refine ((unhide HC).liv _ (unhide H2).2.2).mono ?_
  rintro e w3 ⟨rfl, hF3⟩
  have H3 := hide (And.intro ((unhide HC).fr _ _ _ (unhide H2).1 hF3) (And.intro ((unhide HC).fr _ _ _ (unhide H2).2.1 hF3) ((unhide H2).2.2.trans hF3 (fun _ _ h => h))))
  clear hF3 H2
  go_wp2_with fail
  refine ((unhide HC).len _ _ (unhide H3).1).mono ?_
  rintro e w4 ⟨rfl, rfl⟩
  go_wp2_with fail
  refine ((unhide HC).sign _ _ 0 (unhide H3).1 (unhide H3).2.2 hkk).mono ?_
  rintro e w5 ⟨so, sc, rfl, hO5⟩
  have H5 := hide (And.intro ((unhide HC).fr _ _ _ (unhide H3).1 hO5.fr) (And.intro ((unhide HC).fr _ _ _ (unhide H3).2.1 hO5.fr) (And.intro ((unhide H3).2.2.trans hO5.fr (fun _ _ h => h)) (hO5.sl2 ((unhide HC).sbyt _) ((unhide HC).slen _ hkk)))))
  clear hO5 H3
  go_wp2_with fail
  refine ((unhide HC).sign _ _ 0 (unhide H5).2.1 (unhide H5).2.2.1 hkk).mono ?_
  rintro e w6 ⟨uo, uc, rfl, hO6⟩
  have H6 := hide (And.intro ((unhide HC).fr _ _ _ (unhide H5).1 hO6.fr) (And.intro ((unhide HC).fr _ _ _ (unhide H5).2.1 hO6.fr) (And.intro ((unhide H5).2.2.1.trans hO6.fr (fun _ _ h => h)) (And.intro ((unhide H5).2.2.2.fr0 hO6.fr) (hO6.sl2 ((unhide HC).sbyt _) ((unhide HC).slen _ hkk))))))
  clear hO6 H5
  go_wp2_with fail
  refine (same_T (unhide H6).2.2.2.1.s (unhide H6).2.2.2.2.s (by rw [(unhide HC).slen _ hkk]; exact unhide HZ) (sameB_refl _)).mono ?_
  rintro e w7 ⟨rfl, hF7⟩
  have H7 := hide (And.intro ((unhide HC).fr _ _ _ (unhide H6).1 hF7) (And.intro ((unhide HC).fr _ _ _ (unhide H6).2.1 hF7) (And.intro ((unhide H6).2.2.1.trans hF7 (fun _ _ h => h)) ((unhide H6).2.2.2.1.fr0 hF7))))
  clear hF7 H6
  go_wp2_with fail
  refine ((unhide HC).size _).mono ?_
  rintro e w8 ⟨rfl, rfl⟩
  go_wp2_with fail
  refine ((unhide HC).pub _ _ (unhide H7).1).mono ?_
  rintro e w9 ⟨po, pc, rfl, hO9⟩
  have H9 := hide (And.intro ((unhide HC).fr _ _ _ (unhide H7).1 hO9.fr) (And.intro ((unhide HC).fr _ _ _ (unhide H7).2.1 hO9.fr) (And.intro ((unhide H7).2.2.1.trans hO9.fr (fun _ _ h => h)) (And.intro ((unhide H7).2.2.2.fr0 hO9.fr) (hO9.sl2 (unhide HC).pbyt (unhide HC).plen)))))
  clear hO9 H7
  go_wp2_with fail
  refine ((unhide HT).chk _ _ _ 0 (unhide H9).2.2.1 (unhide H9).2.2.2.2 (unhide H9).2.2.2.1 hkk).mono ?_
  rintro e wA ⟨rfl, hFA⟩
  have HA := hide (And.intro ((unhide HC).fr _ _ _ (unhide H9).1 hFA) (And.intro ((unhide HC).fr _ _ _ (unhide H9).2.1 hFA) (And.intro ((unhide H9).2.2.1.trans hFA (fun _ _ h => h)) ((unhide H9).2.2.2.1.fr0 hFA))))
  clear hFA H9
  go_wp2_with fail
  refine ((unhide HT).sum _ (unhide HA).2.2.1).mono ?_
  rintro e wB ⟨mo9, mc9, rfl, hOB⟩
  have HB := hide (And.intro (hOB.sl2 (unhide HT).hmb (unhide HT).hml) hOB.fr)
  clear hOB
  go_wp2_with fail
  refine ((unhide HT).suo _ ((unhide HA).2.2.1.trans (unhide HB).2 (fun _ _ h => h))).mono ?_
  rintro e wC ⟨oo9, oc9, rfl, hOC⟩
  have HCc := hide (And.intro ((unhide HB).1.fr0 hOC.fr) (And.intro (hOC.sl2 (unhide HT).hob (unhide HT).hol) ((unhide HB).2.trans hOC.fr (fun _ _ h => h))))
  clear hOC HB
  go_wp2_with fail
  refine (gsame_D (unhide HCc).1 (unhide HCc).2.1 (by rw [(unhide HT).hml]; omega)).mono ?_
  rintro e wD ⟨rfl, hFD⟩
  have hAD : Fr (fun _ => False) wA wD := (unhide HCc).2.2.trans hFD (fun _ _ h => h)
  have HD := hide (And.intro ((unhide HC).fr _ _ _ (unhide HA).1 hAD) (And.intro ((unhide HC).fr _ _ _ (unhide HA).2.1 hAD) (And.intro ((unhide HA).2.2.1.trans hAD (fun _ _ h => h)) ((unhide HA).2.2.2.fr0 hAD))))
  clear hFD hAD HCc HA
  by_cases heq : HM = HO
  · rw [decide_eq_true heq]
    have HE := hide heq
    clear heq
    go_wp2_with fail
    refine ((unhide HC).pub _ _ (unhide HD).1).mono ?_
    rintro e wE ⟨qo, qc, rfl, hOE⟩
    have H9 := hide (And.intro ((unhide HC).fr _ _ _ (unhide HD).1 hOE.fr) (And.intro ((unhide HC).fr _ _ _ (unhide HD).2.1 hOE.fr) (And.intro ((unhide HD).2.2.1.trans hOE.fr (fun _ _ h => h)) (And.intro ((unhide HD).2.2.2.fr0 hOE.fr) (hOE.sl2 (unhide HC).pbyt (unhide HC).plen)))))
    clear hOE HD
    go_wp2_with fail
    refine ((unhide HT).cho (unhide HE) _ _ _ 0 (unhide H9).2.2.1 (unhide H9).2.2.2.2 (unhide H9).2.2.2.1 hkk).mono ?_
    rintro e wF ⟨rfl, hFF⟩
    have HL := hide (And.intro ((unhide HC).fr _ _ _ (unhide H9).1 hFF) (And.intro ((unhide HC).fr _ _ _ (unhide H9).2.1 hFF) ((unhide H9).2.2.1.trans hFF (fun _ _ h => h))))
    clear hFF H9
    go_wp2_with fail
    have hL0 : LV wF wF none 0 [] (LS 0) := (unhide HLS).2 ▸ LV.nil _
    have HL0 := hide hL0
    clear hL0
    go_loopw [21, 22] (fun v iv wr => ∃ (i : Nat) (ao : Option Addr) (cp : Nat) (us : List Value), i ≤ N ∧ iv = .int .i64 (i : Nat) ∧ v = .slice ao i cp ∧ us.length = i ∧ LV wF wr ao cp us (LS i)) (fun _ iv _ => N - (intOf iv).toNat)
    case atStart => exact ⟨0, none, 0, [], Nat.zero_le _, rfl, rfl, rfl, unhide HL0⟩
    case round =>
      obtain ⟨i, ao, cp, us, hi, rfl, rfl, hus, hI⟩ := hrel
      have hky := (unhide HC).fr _ _ _ (unhide HL).1 hI.own.fr
      by_cases hlt : i < N
      · have hlt' : (i : Int) < (N : Int) := by omega
        have HI := hide (And.intro hky (And.intro hus hI))
        clear hky hus hI
        go_wp2_with fail
        refine ((unhide HC).len _ _ (unhide HI).1).mono ?_
        rintro e wG ⟨rfl, rfl⟩
        go_wp2_with fail
        refine ((unhide HC).leaf _ _ i (unhide HI).1 hlt).mono ?_
        rintro e wJ ⟨zo, rfl, hOJ⟩
        obtain ⟨ao', cp', w3, hr3, hL3⟩ := (unhide HI).2.2.step (LF i) zo wi hOJ ((unhide HC).lbyt i) (by rw [(unhide HI).2.1]; omega)
        rw [← (unhide HLS).1] at hL3
        rw [(unhide HI).2.1, (unhide HC).llen] at hr3
        have HR := hide (And.intro hr3 hL3)
        clear hr3 hL3 hOJ
        go_wp2_with (at_builtin; refine wpList_app rfl _ _ 40 40 rfl _ _ _ rfl rfl (unhide HR).1 ?_)
        exact ⟨⟨i + 1, ao', cp', _, by omega, by go_num, rfl, by rw [List.length_append, (unhide HI).2.1]; rfl, (unhide HR).2⟩, by simp [intOf]; omega⟩
      · have hlt' : ¬ (i : Int) < (N : Int) := by omega
        have hiN : i = N := by omega
        have hpc := hI.pcs
        have hcp : i ≤ cp := by
          rcases hI.own.own.2 with ⟨e, e2⟩ | ⟨g, cap, cur, e, _, _, h3, _⟩
          · omega
          · simp only [Value.slice.injEq, true_and] at e
            rw [e.2, ← hus]; exact h3
        rw [hus, hiN] at hpc
        rw [hiN] at hcp
        have hfr := (unhide HL).2.2.trans hI.own.fr (fun _ _ h => h)
        have hky2 := (unhide HC).fr _ _ _ (unhide HL).2.1 hI.own.fr
        have HI := hide (And.intro hky (And.intro hky2 (And.intro hpc (And.intro hcp hfr))))
        clear hky hky2 hpc hcp hfr hI hus
        subst hiN
        go_wp2_with fail
        refine ((unhide HC).len _ _ (unhide HI).1).mono ?_
        rintro e wG ⟨rfl, rfl⟩
        go_wp2_with fail
        refine ((unhide HT).of _ _ us (unhide HI).2.2.2.2 (unhide HI).2.2.1 (fun _ _ _ e => by cases e; exact (unhide HI).2.2.2.1)).mono ?_
        rintro e wK ⟨fo, fc, rfl, hSK, hFK⟩
        have HK := hide (And.intro hSK (And.intro ((unhide HC).fr _ _ _ (unhide HI).1 hFK) (And.intro ((unhide HC).fr _ _ _ (unhide HI).2.1 hFK) ((unhide HI).2.2.2.2.trans hFK (fun _ _ h => h)))))
        clear hSK hFK
        go_wp2_with fail
        refine ((unhide HC).pub _ _ (unhide HK).2.1).mono ?_
        rintro e wM ⟨qo1, qc1, rfl, hOM⟩
        have HM1 := hide (And.intro ((unhide HK).1.fr0 hOM.fr) (And.intro (hOM.sl2 (unhide HC).pbyt (unhide HC).plen) (And.intro ((unhide HC).fr _ _ _ (unhide HK).2.1 hOM.fr) (And.intro ((unhide HC).fr _ _ _ (unhide HK).2.2.1 hOM.fr) ((unhide HK).2.2.2.trans hOM.fr (fun _ _ h => h))))))
        clear hOM HK
        go_wp2_with fail
        refine (same_T (unhide HM1).1.s (unhide HM1).2.1.s (by rw [(unhide HC).plen]; omega) (sameB_refl _)).mono ?_
        rintro e wN ⟨rfl, hFN⟩
        have HN1 := hide (And.intro ((unhide HC).fr _ _ _ (unhide HM1).2.2.1 hFN) (And.intro ((unhide HC).fr _ _ _ (unhide HM1).2.2.2.1 hFN) ((unhide HM1).2.2.2.2.trans hFN (fun _ _ h => h))))
        clear hFN HM1
        go_wp2_with fail
        refine ((unhide HC).pub _ _ (unhide HN1).1).mono ?_
        rintro e wO ⟨qo2, qc2, rfl, hOO⟩
        have HO1 := hide (And.intro (hOO.sl2 (unhide HC).pbyt (unhide HC).plen) (And.intro ((unhide HC).fr _ _ _ (unhide HN1).2.1 hOO.fr) ((unhide HN1).2.2.trans hOO.fr (fun _ _ h => h))))
        clear hOO HN1
        go_wp2_with fail
        refine ((unhide HC).pub _ _ (unhide HO1).2.1).mono ?_
        rintro e wP ⟨qo3, qc3, rfl, hOP⟩
        have HP1 := hide (And.intro ((unhide HO1).1.fr0 hOP.fr) (And.intro (hOP.sl2 (unhide HC).pbyt (unhide HC).plen) ((unhide HO1).2.2.trans hOP.fr (fun _ _ h => h))))
        clear hOP HO1
        go_wp2_with fail
        refine (same_T (unhide HP1).1.s (unhide HP1).2.1.s (by rw [(unhide HC).plen]; omega) (sameB_refl _)).mono ?_
        rintro e wQ ⟨rfl, hFQ⟩
        have HQ1 := hide ((unhide HP1).2.2.trans hFQ (fun _ _ h => h))
        clear hFQ HP1
        go_wp2_with fail
        go_ret
        exact ⟨rfl, unhide HQ1⟩
  · rw [decide_eq_false heq]
    have HL := hide (And.intro (unhide HD).1 (And.intro (unhide HD).2.1 (unhide HD).2.2.1))
    clear heq HD
    go_wp2_with fail
    have hL0 : LV wD wD none 0 [] (LS 0) := (unhide HLS).2 ▸ LV.nil _
    have HL0 := hide hL0
    clear hL0
    go_loopw [21, 22] (fun v iv wr => ∃ (i : Nat) (ao : Option Addr) (cp : Nat) (us : List Value), i ≤ N ∧ iv = .int .i64 (i : Nat) ∧ v = .slice ao i cp ∧ us.length = i ∧ LV wD wr ao cp us (LS i)) (fun _ iv _ => N - (intOf iv).toNat)
    case atStart => exact ⟨0, none, 0, [], Nat.zero_le _, rfl, rfl, rfl, unhide HL0⟩
    case round =>
      obtain ⟨i, ao, cp, us, hi, rfl, rfl, hus, hI⟩ := hrel
      have hky := (unhide HC).fr _ _ _ (unhide HL).1 hI.own.fr
      by_cases hlt : i < N
      · have hlt' : (i : Int) < (N : Int) := by omega
        have HI := hide (And.intro hky (And.intro hus hI))
        clear hky hus hI
        go_wp2_with fail
        refine ((unhide HC).len _ _ (unhide HI).1).mono ?_
        rintro e wG ⟨rfl, rfl⟩
        go_wp2_with fail
        refine ((unhide HC).leaf _ _ i (unhide HI).1 hlt).mono ?_
        rintro e wJ ⟨zo, rfl, hOJ⟩
        obtain ⟨ao', cp', w3, hr3, hL3⟩ := (unhide HI).2.2.step (LF i) zo wi hOJ ((unhide HC).lbyt i) (by rw [(unhide HI).2.1]; omega)
        rw [← (unhide HLS).1] at hL3
        rw [(unhide HI).2.1, (unhide HC).llen] at hr3
        have HR := hide (And.intro hr3 hL3)
        clear hr3 hL3 hOJ
        go_wp2_with (at_builtin; refine wpList_app rfl _ _ 40 40 rfl _ _ _ rfl rfl (unhide HR).1 ?_)
        exact ⟨⟨i + 1, ao', cp', _, by omega, by go_num, rfl, by rw [List.length_append, (unhide HI).2.1]; rfl, (unhide HR).2⟩, by simp [intOf]; omega⟩
      · have hlt' : ¬ (i : Int) < (N : Int) := by omega
        have hiN : i = N := by omega
        have hpc := hI.pcs
        have hcp : i ≤ cp := by
          rcases hI.own.own.2 with ⟨e, e2⟩ | ⟨g, cap, cur, e, _, _, h3, _⟩
          · omega
          · simp only [Value.slice.injEq, true_and] at e
            rw [e.2, ← hus]; exact h3
        rw [hus, hiN] at hpc
        rw [hiN] at hcp
        have hfr := (unhide HL).2.2.trans hI.own.fr (fun _ _ h => h)
        have hky2 := (unhide HC).fr _ _ _ (unhide HL).2.1 hI.own.fr
        have HI := hide (And.intro hky (And.intro hky2 (And.intro hpc (And.intro hcp hfr))))
        clear hky hky2 hpc hcp hfr hI hus
        subst hiN
        go_wp2_with fail
        refine ((unhide HC).len _ _ (unhide HI).1).mono ?_
        rintro e wG ⟨rfl, rfl⟩
        go_wp2_with fail
        refine ((unhide HT).of _ _ us (unhide HI).2.2.2.2 (unhide HI).2.2.1 (fun _ _ _ e => by cases e; exact (unhide HI).2.2.2.1)).mono ?_
        rintro e wK ⟨fo, fc, rfl, hSK, hFK⟩
        have HK := hide (And.intro hSK (And.intro ((unhide HC).fr _ _ _ (unhide HI).1 hFK) (And.intro ((unhide HC).fr _ _ _ (unhide HI).2.1 hFK) ((unhide HI).2.2.2.2.trans hFK (fun _ _ h => h)))))
        clear hSK hFK
        go_wp2_with fail
        refine ((unhide HC).pub _ _ (unhide HK).2.1).mono ?_
        rintro e wM ⟨qo1, qc1, rfl, hOM⟩
        have HM1 := hide (And.intro ((unhide HK).1.fr0 hOM.fr) (And.intro (hOM.sl2 (unhide HC).pbyt (unhide HC).plen) (And.intro ((unhide HC).fr _ _ _ (unhide HK).2.1 hOM.fr) (And.intro ((unhide HC).fr _ _ _ (unhide HK).2.2.1 hOM.fr) ((unhide HK).2.2.2.trans hOM.fr (fun _ _ h => h))))))
        clear hOM HK
        go_wp2_with fail
        refine (same_T (unhide HM1).1.s (unhide HM1).2.1.s (by rw [(unhide HC).plen]; omega) (sameB_refl _)).mono ?_
        rintro e wN ⟨rfl, hFN⟩
        have HN1 := hide (And.intro ((unhide HC).fr _ _ _ (unhide HM1).2.2.1 hFN) (And.intro ((unhide HC).fr _ _ _ (unhide HM1).2.2.2.1 hFN) ((unhide HM1).2.2.2.2.trans hFN (fun _ _ h => h))))
        clear hFN HM1
        go_wp2_with fail
        refine ((unhide HC).pub _ _ (unhide HN1).1).mono ?_
        rintro e wO ⟨qo2, qc2, rfl, hOO⟩
        have HO1 := hide (And.intro (hOO.sl2 (unhide HC).pbyt (unhide HC).plen) (And.intro ((unhide HC).fr _ _ _ (unhide HN1).2.1 hOO.fr) ((unhide HN1).2.2.trans hOO.fr (fun _ _ h => h))))
        clear hOO HN1
        go_wp2_with fail
        refine ((unhide HC).pub _ _ (unhide HO1).2.1).mono ?_
        rintro e wP ⟨qo3, qc3, rfl, hOP⟩
        have HP1 := hide (And.intro ((unhide HO1).1.fr0 hOP.fr) (And.intro (hOP.sl2 (unhide HC).pbyt (unhide HC).plen) ((unhide HO1).2.2.trans hOP.fr (fun _ _ h => h))))
        clear hOP HO1
        go_wp2_with fail
        refine (same_T (unhide HP1).1.s (unhide HP1).2.1.s (by rw [(unhide HC).plen]; omega) (sameB_refl _)).mono ?_
        rintro e wQ ⟨rfl, hFQ⟩
        have HQ1 := hide ((unhide HP1).2.2.trans hFQ (fun _ _ h => h))
        clear hFQ HP1
        go_wp2_with fail
        go_ret
        exact ⟨rfl, unhide HQ1⟩
end Go.Proofs.YtjokmlnghpnlbaaDoor

namespace Go.Proofs.YtjokmlnghpnlbaaDoor
open Go.RowKit

set_option maxRecDepth 100000 in
set_option maxHeartbeats 1000000 in
theorem ltaken_Bin (wi H : Nat) (hw1 : 1 ≤ wi) (hw32 : wi ≤ 32) (hH : H ≤ 6) (hp : 8 < wi) (hp2 : ¬ 2 < H) (kk : Nat) (hkk : kk < 2 ^ H) (x mv ov : Value) (seed m ot : List Nat) (w : World) (hg : GS w) (hr : GR w) (ht : GT w) (hx : Sl w x seed) (hm : Sl w mv m) (ho : Sl w ov ot) (hs : seed.length ≤ 2000000) (hml : m.length ≤ 2000000) (hol : ot.length ≤ 2000000) :
    Calls Tryd.prog 7 #[.int .i64 wi, .int .i64 H, x, .int .i64 kk, mv, ov] w fun e w' => e = .returned (.bool true) ∧ Fr (fun _ => False) w w' := by
  have hN64 : 2 ^ H ≤ 64 := Nat.pow_le_pow_right (n := 2) (by decide) hH
  have hN1 : 1 ≤ 2 ^ H := Nat.one_le_two_pow
  have HC := hide (c5_of wi H hw1 hw32 hH x mv seed m w hg ht hx (by omega) hm (by omega))
  have HT := hide (t5_of wi H hw1 hw32 hH mv ov seed m ot w hg hr hm (by omega) ho (by omega))
  have hmay := fun w' => g5may_any wi H w'
  rw [decide_eq_true (by omega)] at hmay
  obtain ⟨xo, xc, rfl⟩ := hx.form
  obtain ⟨mo, mc, rfl⟩ := hm.form
  obtain ⟨oo, oc, rfl⟩ := ho.form
  have hSZ9 : 16 * wi * wi ≤ 16384 := Nat.mul_le_mul (show 16 * wi ≤ 512 by omega) hw32
  have hhw9 : H * wi ≤ 192 := Nat.mul_le_mul hH hw32
  have hS9 : 16 * wi * wi + H * wi ≤ 140737488355328 := by omega
  have hls : ∀ n, lvs wi seed (n + 1) = lvs wi seed n ++ [(fun K => lf (wi : Int) (eN wi seed K)) n] := lvs_succ wi seed
  have hl0 : lvs wi seed 0 = [] := rfl
  generalize Ky5 wi H seed = KY at *
  generalize 16 * wi * wi + H * wi = SZ at *
  generalize mth (wi : Int) (lvs wi seed (2 ^ H)) = PB at *
  generalize 2 ^ H = N at *
  generalize (fun K => sig wi H K seed (sm wi m)) = SG at *
  generalize (fun K => lf (wi : Int) (eN wi seed K)) = LF at *
  generalize lvs wi seed = LS at *
  generalize sm (wi : Int) m = HM at *
  generalize sm (wi : Int) ot = HO at *
  have HY := hide hmay
  have HZ := hide hS9
  have HLS := hide (And.intro hls hl0)
  clear hmay hx hm ho hg hr ht hSZ9 hhw9 hS9 hls hl0
  generalize seed.length = SN at *
  generalize m.length = ML at *
  generalize ot.length = OL at *
  have hp' : (8 : Int) < (wi : Int) := by omega
  have hp2' : ¬ (2 : Int) < (H : Int) := by omega
  have hk1 : ¬ (kk : Int) < 0 := by omega
  have hk2 : ¬ (N : Int) ≤ (kk : Int) := by omega
  go_enter Tryd.func7, Tryd.ntmps7
  go_wp2_with fail
  refine ((unhide HY) _).mono ?_
  rintro e w0 ⟨rfl, rfl⟩
  go_wp2_with fail
  refine ((unhide HC).new _ (Fr.refl _ _)).mono ?_
  rintro e w1 ⟨kb, rfl, hk1, hF1⟩
  have H1 := hide (And.intro hk1 hF1)
  clear hk1 hF1
  go_wp2_with fail
  refine ((unhide HC).new _ (unhide H1).2).mono ?_
  rintro e w2 ⟨tb, rfl, hk2, hF2⟩
  have H2 := hide (And.intro ((unhide HC).fr _ _ _ (unhide H1).1 hF2) (And.intro hk2 ((unhide H1).2.trans hF2 (fun _ _ h => h))))
  clear hk2 hF2 H1
  go_wp2_with fail
  refine ((unhide HC).liv _ (unhide H2).2.2).mono ?_
  rintro e w3 ⟨rfl, hF3⟩
  have H3 := hide (And.intro ((unhide HC).fr _ _ _ (unhide H2).1 hF3) (And.intro ((unhide HC).fr _ _ _ (unhide H2).2.1 hF3) ((unhide H2).2.2.trans hF3 (fun _ _ h => h))))
  clear hF3 H2
  go_wp2_with fail
  refine ((unhide HC).len _ _ (unhide H3).1).mono ?_
  rintro e w4 ⟨rfl, rfl⟩
  go_wp2_with fail
  refine ((unhide HC).sign _ _ kk (unhide H3).1 (unhide H3).2.2 hkk).mono ?_
  rintro e w5 ⟨so, sc, rfl, hO5⟩
  have H5 := hide (And.intro ((unhide HC).fr _ _ _ (unhide H3).1 hO5.fr) (And.intro ((unhide HC).fr _ _ _ (unhide H3).2.1 hO5.fr) (And.intro ((unhide H3).2.2.trans hO5.fr (fun _ _ h => h)) (hO5.sl2 ((unhide HC).sbyt _) ((unhide HC).slen _ hkk)))))
  clear hO5 H3
  go_wp2_with fail
  refine ((unhide HC).sign _ _ kk (unhide H5).2.1 (unhide H5).2.2.1 hkk).mono ?_
  rintro e w6 ⟨uo, uc, rfl, hO6⟩
  have H6 := hide (And.intro ((unhide HC).fr _ _ _ (unhide H5).1 hO6.fr) (And.intro ((unhide HC).fr _ _ _ (unhide H5).2.1 hO6.fr) (And.intro ((unhide H5).2.2.1.trans hO6.fr (fun _ _ h => h)) (And.intro ((unhide H5).2.2.2.fr0 hO6.fr) (hO6.sl2 ((unhide HC).sbyt _) ((unhide HC).slen _ hkk))))))
  clear hO6 H5
  go_wp2_with fail
  refine (same_T (unhide H6).2.2.2.1.s (unhide H6).2.2.2.2.s (by rw [(unhide HC).slen _ hkk]; exact unhide HZ) (sameB_refl _)).mono ?_
  rintro e w7 ⟨rfl, hF7⟩
  have H7 := hide (And.intro ((unhide HC).fr _ _ _ (unhide H6).1 hF7) (And.intro ((unhide HC).fr _ _ _ (unhide H6).2.1 hF7) (And.intro ((unhide H6).2.2.1.trans hF7 (fun _ _ h => h)) ((unhide H6).2.2.2.1.fr0 hF7))))
  clear hF7 H6
  go_wp2_with fail
  refine ((unhide HC).size _).mono ?_
  rintro e w8 ⟨rfl, rfl⟩
  go_wp2_with fail
  refine ((unhide HC).pub _ _ (unhide H7).1).mono ?_
  rintro e w9 ⟨po, pc, rfl, hO9⟩
  have H9 := hide (And.intro ((unhide HC).fr _ _ _ (unhide H7).1 hO9.fr) (And.intro ((unhide HC).fr _ _ _ (unhide H7).2.1 hO9.fr) (And.intro ((unhide H7).2.2.1.trans hO9.fr (fun _ _ h => h)) (And.intro ((unhide H7).2.2.2.fr0 hO9.fr) (hO9.sl2 (unhide HC).pbyt (unhide HC).plen)))))
  clear hO9 H7
  go_wp2_with fail
  refine ((unhide HT).chk _ _ _ kk (unhide H9).2.2.1 (unhide H9).2.2.2.2 (unhide H9).2.2.2.1 hkk).mono ?_
  rintro e wA ⟨rfl, hFA⟩
  have HA := hide (And.intro ((unhide HC).fr _ _ _ (unhide H9).1 hFA) (And.intro ((unhide HC).fr _ _ _ (unhide H9).2.1 hFA) (And.intro ((unhide H9).2.2.1.trans hFA (fun _ _ h => h)) ((unhide H9).2.2.2.1.fr0 hFA))))
  clear hFA H9
  go_wp2_with fail
  refine ((unhide HT).sum _ (unhide HA).2.2.1).mono ?_
  rintro e wB ⟨mo9, mc9, rfl, hOB⟩
  have HB := hide (And.intro (hOB.sl2 (unhide HT).hmb (unhide HT).hml) hOB.fr)
  clear hOB
  go_wp2_with fail
  refine ((unhide HT).suo _ ((unhide HA).2.2.1.trans (unhide HB).2 (fun _ _ h => h))).mono ?_
  rintro e wC ⟨oo9, oc9, rfl, hOC⟩
  have HCc := hide (And.intro ((unhide HB).1.fr0 hOC.fr) (And.intro (hOC.sl2 (unhide HT).hob (unhide HT).hol) ((unhide HB).2.trans hOC.fr (fun _ _ h => h))))
  clear hOC HB
  go_wp2_with fail
  refine (gsame_D (unhide HCc).1 (unhide HCc).2.1 (by rw [(unhide HT).hml]; omega)).mono ?_
  rintro e wD ⟨rfl, hFD⟩
  have hAD : Fr (fun _ => False) wA wD := (unhide HCc).2.2.trans hFD (fun _ _ h => h)
  have HD := hide (And.intro ((unhide HC).fr _ _ _ (unhide HA).1 hAD) (And.intro ((unhide HC).fr _ _ _ (unhide HA).2.1 hAD) (And.intro ((unhide HA).2.2.1.trans hAD (fun _ _ h => h)) ((unhide HA).2.2.2.fr0 hAD))))
  clear hFD hAD HCc HA
  by_cases heq : HM = HO
  · rw [decide_eq_true heq]
    have HE := hide heq
    clear heq
    go_wp2_with fail
    refine ((unhide HC).pub _ _ (unhide HD).1).mono ?_
    rintro e wE ⟨qo, qc, rfl, hOE⟩
    have H9 := hide (And.intro ((unhide HC).fr _ _ _ (unhide HD).1 hOE.fr) (And.intro ((unhide HC).fr _ _ _ (unhide HD).2.1 hOE.fr) (And.intro ((unhide HD).2.2.1.trans hOE.fr (fun _ _ h => h)) (And.intro ((unhide HD).2.2.2.fr0 hOE.fr) (hOE.sl2 (unhide HC).pbyt (unhide HC).plen)))))
    clear hOE HD
    go_wp2_with fail
    refine ((unhide HT).cho (unhide HE) _ _ _ kk (unhide H9).2.2.1 (unhide H9).2.2.2.2 (unhide H9).2.2.2.1 hkk).mono ?_
    rintro e wF ⟨rfl, hFF⟩
    have HL := hide (And.intro ((unhide HC).fr _ _ _ (unhide H9).1 hFF) (And.intro ((unhide HC).fr _ _ _ (unhide H9).2.1 hFF) ((unhide H9).2.2.1.trans hFF (fun _ _ h => h))))
    clear hFF H9
    go_wp2_with fail
    have hL0 : LV wF wF none 0 [] (LS 0) := (unhide HLS).2 ▸ LV.nil _
    have HL0 := hide hL0
    clear hL0
    go_loopw [21, 22] (fun v iv wr => ∃ (i : Nat) (ao : Option Addr) (cp : Nat) (us : List Value), i ≤ N ∧ iv = .int .i64 (i : Nat) ∧ v = .slice ao i cp ∧ us.length = i ∧ LV wF wr ao cp us (LS i)) (fun _ iv _ => N - (intOf iv).toNat)
    case atStart => exact ⟨0, none, 0, [], Nat.zero_le _, rfl, rfl, rfl, unhide HL0⟩
    case round =>
      obtain ⟨i, ao, cp, us, hi, rfl, rfl, hus, hI⟩ := hrel
      have hky := (unhide HC).fr _ _ _ (unhide HL).1 hI.own.fr
      by_cases hlt : i < N
      · have hlt' : (i : Int) < (N : Int) := by omega
        have HI := hide (And.intro hky (And.intro hus hI))
        clear hky hus hI
        go_wp2_with fail
        refine ((unhide HC).len _ _ (unhide HI).1).mono ?_
        rintro e wG ⟨rfl, rfl⟩
        go_wp2_with fail
        refine ((unhide HC).leaf _ _ i (unhide HI).1 hlt).mono ?_
        rintro e wJ ⟨zo, rfl, hOJ⟩
        obtain ⟨ao', cp', w3, hr3, hL3⟩ := (unhide HI).2.2.step (LF i) zo wi hOJ ((unhide HC).lbyt i) (by rw [(unhide HI).2.1]; omega)
        rw [← (unhide HLS).1] at hL3
        rw [(unhide HI).2.1, (unhide HC).llen] at hr3
        have HR := hide (And.intro hr3 hL3)
        clear hr3 hL3 hOJ
        go_wp2_with (at_builtin; refine wpList_app rfl _ _ 40 40 rfl _ _ _ rfl rfl (unhide HR).1 ?_)
        exact ⟨⟨i + 1, ao', cp', _, by omega, by go_num, rfl, by rw [List.length_append, (unhide HI).2.1]; rfl, (unhide HR).2⟩, by simp [intOf]; omega⟩
      · have hlt' : ¬ (i : Int) < (N : Int) := by omega
        have hiN : i = N := by omega
        have hpc := hI.pcs
        have hcp : i ≤ cp := by
          rcases hI.own.own.2 with ⟨e, e2⟩ | ⟨g, cap, cur, e, _, _, h3, _⟩
          · omega
          · simp only [Value.slice.injEq, true_and] at e
            rw [e.2, ← hus]; exact h3
        rw [hus, hiN] at hpc
        rw [hiN] at hcp
        have hfr := (unhide HL).2.2.trans hI.own.fr (fun _ _ h => h)
        have hky2 := (unhide HC).fr _ _ _ (unhide HL).2.1 hI.own.fr
        have HI := hide (And.intro hky (And.intro hky2 (And.intro hpc (And.intro hcp hfr))))
        clear hky hky2 hpc hcp hfr hI hus
        subst hiN
        go_wp2_with fail
        refine ((unhide HC).len _ _ (unhide HI).1).mono ?_
        rintro e wG ⟨rfl, rfl⟩
        go_wp2_with fail
        refine ((unhide HT).of _ _ us (unhide HI).2.2.2.2 (unhide HI).2.2.1 (fun _ _ _ e => by cases e; exact (unhide HI).2.2.2.1)).mono ?_
        rintro e wK ⟨fo, fc, rfl, hSK, hFK⟩
        have HK := hide (And.intro hSK (And.intro ((unhide HC).fr _ _ _ (unhide HI).1 hFK) (And.intro ((unhide HC).fr _ _ _ (unhide HI).2.1 hFK) ((unhide HI).2.2.2.2.trans hFK (fun _ _ h => h)))))
        clear hSK hFK
        go_wp2_with fail
        refine ((unhide HC).pub _ _ (unhide HK).2.1).mono ?_
        rintro e wM ⟨qo1, qc1, rfl, hOM⟩
        have HM1 := hide (And.intro ((unhide HK).1.fr0 hOM.fr) (And.intro (hOM.sl2 (unhide HC).pbyt (unhide HC).plen) (And.intro ((unhide HC).fr _ _ _ (unhide HK).2.1 hOM.fr) (And.intro ((unhide HC).fr _ _ _ (unhide HK).2.2.1 hOM.fr) ((unhide HK).2.2.2.trans hOM.fr (fun _ _ h => h))))))
        clear hOM HK
        go_wp2_with fail
        refine (same_T (unhide HM1).1.s (unhide HM1).2.1.s (by rw [(unhide HC).plen]; omega) (sameB_refl _)).mono ?_
        rintro e wN ⟨rfl, hFN⟩
        have HN1 := hide (And.intro ((unhide HC).fr _ _ _ (unhide HM1).2.2.1 hFN) (And.intro ((unhide HC).fr _ _ _ (unhide HM1).2.2.2.1 hFN) ((unhide HM1).2.2.2.2.trans hFN (fun _ _ h => h))))
        clear hFN HM1
        go_wp2_with fail
        refine ((unhide HC).pub _ _ (unhide HN1).1).mono ?_
        rintro e wO ⟨qo2, qc2, rfl, hOO⟩
        have HO1 := hide (And.intro (hOO.sl2 (unhide HC).pbyt (unhide HC).plen) (And.intro ((unhide HC).fr _ _ _ (unhide HN1).2.1 hOO.fr) ((unhide HN1).2.2.trans hOO.fr (fun _ _ h => h))))
        clear hOO HN1
        go_wp2_with fail
        refine ((unhide HC).pub _ _ (unhide HO1).2.1).mono ?_
        rintro e wP ⟨qo3, qc3, rfl, hOP⟩
        have HP1 := hide (And.intro ((unhide HO1).1.fr0 hOP.fr) (And.intro (hOP.sl2 (unhide HC).pbyt (unhide HC).plen) ((unhide HO1).2.2.trans hOP.fr (fun _ _ h => h))))
        clear hOP HO1
        go_wp2_with fail
        refine (same_T (unhide HP1).1.s (unhide HP1).2.1.s (by rw [(unhide HC).plen]; omega) (sameB_refl _)).mono ?_
        rintro e wQ ⟨rfl, hFQ⟩
        have HQ1 := hide ((unhide HP1).2.2.trans hFQ (fun _ _ h => h))
        clear hFQ HP1
        go_wp2_with fail
        go_ret
        exact ⟨rfl, unhide HQ1⟩
  · rw [decide_eq_false heq]
    have HL := hide (And.intro (unhide HD).1 (And.intro (unhide HD).2.1 (unhide HD).2.2.1))
    clear heq HD
    go_wp2_with fail
    have hL0 : LV wD wD none 0 [] (LS 0) := (unhide HLS).2 ▸ LV.nil _
    have HL0 := hide hL0
    clear hL0
    go_loopw [21, 22] (fun v iv wr => ∃ (i : Nat) (ao : Option Addr) (cp : Nat) (us : List Value), i ≤ N ∧ iv = .int .i64 (i : Nat) ∧ v = .slice ao i cp ∧ us.length = i ∧ LV wD wr ao cp us (LS i)) (fun _ iv _ => N - (intOf iv).toNat)
    case atStart => exact ⟨0, none, 0, [], Nat.zero_le _, rfl, rfl, rfl, unhide HL0⟩
    case round =>
      obtain ⟨i, ao, cp, us, hi, rfl, rfl, hus, hI⟩ := hrel
      have hky := (unhide HC).fr _ _ _ (unhide HL).1 hI.own.fr
      by_cases hlt : i < N
      · have hlt' : (i : Int) < (N : Int) := by omega
        have HI := hide (And.intro hky (And.intro hus hI))
        clear hky hus hI
        go_wp2_with fail
        refine ((unhide HC).len _ _ (unhide HI).1).mono ?_
        rintro e wG ⟨rfl, rfl⟩
        go_wp2_with fail
        refine ((unhide HC).leaf _ _ i (unhide HI).1 hlt).mono ?_
        rintro e wJ ⟨zo, rfl, hOJ⟩
        obtain ⟨ao', cp', w3, hr3, hL3⟩ := (unhide HI).2.2.step (LF i) zo wi hOJ ((unhide HC).lbyt i) (by rw [(unhide HI).2.1]; omega)
        rw [← (unhide HLS).1] at hL3
        rw [(unhide HI).2.1, (unhide HC).llen] at hr3
        have HR := hide (And.intro hr3 hL3)
        clear hr3 hL3 hOJ
        go_wp2_with (at_builtin; refine wpList_app rfl _ _ 40 40 rfl _ _ _ rfl rfl (unhide HR).1 ?_)
        exact ⟨⟨i + 1, ao', cp', _, by omega, by go_num, rfl, by rw [List.length_append, (unhide HI).2.1]; rfl, (unhide HR).2⟩, by simp [intOf]; omega⟩
      · have hlt' : ¬ (i : Int) < (N : Int) := by omega
        have hiN : i = N := by omega
        have hpc := hI.pcs
        have hcp : i ≤ cp := by
          rcases hI.own.own.2 with ⟨e, e2⟩ | ⟨g, cap, cur, e, _, _, h3, _⟩
          · omega
          · simp only [Value.slice.injEq, true_and] at e
            rw [e.2, ← hus]; exact h3
        rw [hus, hiN] at hpc
        rw [hiN] at hcp
        have hfr := (unhide HL).2.2.trans hI.own.fr (fun _ _ h => h)
        have hky2 := (unhide HC).fr _ _ _ (unhide HL).2.1 hI.own.fr
        have HI := hide (And.intro hky (And.intro hky2 (And.intro hpc (And.intro hcp hfr))))
        clear hky hky2 hpc hcp hfr hI hus
        subst hiN
        go_wp2_with fail
        refine ((unhide HC).len _ _ (unhide HI).1).mono ?_
        rintro e wG ⟨rfl, rfl⟩
        go_wp2_with fail
        refine ((unhide HT).of _ _ us (unhide HI).2.2.2.2 (unhide HI).2.2.1 (fun _ _ _ e => by cases e; exact (unhide HI).2.2.2.1)).mono ?_
        rintro e wK ⟨fo, fc, rfl, hSK, hFK⟩
        have HK := hide (And.intro hSK (And.intro ((unhide HC).fr _ _ _ (unhide HI).1 hFK) (And.intro ((unhide HC).fr _ _ _ (unhide HI).2.1 hFK) ((unhide HI).2.2.2.2.trans hFK (fun _ _ h => h)))))
        clear hSK hFK
        go_wp2_with fail
        refine ((unhide HC).pub _ _ (unhide HK).2.1).mono ?_
        rintro e wM ⟨qo1, qc1, rfl, hOM⟩
        have HM1 := hide (And.intro ((unhide HK).1.fr0 hOM.fr) (And.intro (hOM.sl2 (unhide HC).pbyt (unhide HC).plen) (And.intro ((unhide HC).fr _ _ _ (unhide HK).2.1 hOM.fr) (And.intro ((unhide HC).fr _ _ _ (unhide HK).2.2.1 hOM.fr) ((unhide HK).2.2.2.trans hOM.fr (fun _ _ h => h))))))
        clear hOM HK
        go_wp2_with fail
        refine (same_T (unhide HM1).1.s (unhide HM1).2.1.s (by rw [(unhide HC).plen]; omega) (sameB_refl _)).mono ?_
        rintro e wN ⟨rfl, hFN⟩
        have HN1 := hide (And.intro ((unhide HC).fr _ _ _ (unhide HM1).2.2.1 hFN) (And.intro ((unhide HC).fr _ _ _ (unhide HM1).2.2.2.1 hFN) ((unhide HM1).2.2.2.2.trans hFN (fun _ _ h => h))))
        clear hFN HM1
        go_wp2_with fail
        refine ((unhide HC).pub _ _ (unhide HN1).1).mono ?_
        rintro e wO ⟨qo2, qc2, rfl, hOO⟩
        have HO1 := hide (And.intro (hOO.sl2 (unhide HC).pbyt (unhide HC).plen) (And.intro ((unhide HC).fr _ _ _ (unhide HN1).2.1 hOO.fr) ((unhide HN1).2.2.trans hOO.fr (fun _ _ h => h))))
        clear hOO HN1
        go_wp2_with fail
        refine ((unhide HC).pub _ _ (unhide HO1).2.1).mono ?_
        rintro e wP ⟨qo3, qc3, rfl, hOP⟩
        have HP1 := hide (And.intro ((unhide HO1).1.fr0 hOP.fr) (And.intro (hOP.sl2 (unhide HC).pbyt (unhide HC).plen) ((unhide HO1).2.2.trans hOP.fr (fun _ _ h => h))))
        clear hOP HO1
        go_wp2_with fail
        refine (same_T (unhide HP1).1.s (unhide HP1).2.1.s (by rw [(unhide HC).plen]; omega) (sameB_refl _)).mono ?_
        rintro e wQ ⟨rfl, hFQ⟩
        have HQ1 := hide ((unhide HP1).2.2.trans hFQ (fun _ _ h => h))
        clear hFQ HP1
        go_wp2_with fail
        go_ret
        exact ⟨rfl, unhide HQ1⟩
end Go.Proofs.YtjokmlnghpnlbaaDoor

namespace Go.Proofs.YtjokmlnghpnlbaaDoor
open Go.RowKit

set_option maxRecDepth 100000 in
set_option maxHeartbeats 1000000 in
theorem ltaken_Bneg (wi H : Nat) (hw1 : 1 ≤ wi) (hw32 : wi ≤ 32) (hH : H ≤ 6) (hp : 8 < wi) (hp2 : ¬ 2 < H) (K : Int) (hK : K < 0) (x mv ov : Value) (seed m ot : List Nat) (w : World) (hg : GS w) (hr : GR w) (ht : GT w) (hx : Sl w x seed) (hm : Sl w mv m) (ho : Sl w ov ot) (hs : seed.length ≤ 2000000) (hml : m.length ≤ 2000000) (hol : ot.length ≤ 2000000) :
    Calls Tryd.prog 7 #[.int .i64 wi, .int .i64 H, x, .int .i64 K, mv, ov] w fun e w' => e = .returned (.bool true) ∧ Fr (fun _ => False) w w' := by
  have hN64 : 2 ^ H ≤ 64 := Nat.pow_le_pow_right (n := 2) (by decide) hH
  have hN1 : 1 ≤ 2 ^ H := Nat.one_le_two_pow
  have HC := hide (c5_of wi H hw1 hw32 hH x mv seed m w hg ht hx (by omega) hm (by omega))
  have HT := hide (t5_of wi H hw1 hw32 hH mv ov seed m ot w hg hr hm (by omega) ho (by omega))
  have hmay := fun w' => g5may_any wi H w'
  rw [decide_eq_true (by omega)] at hmay
  obtain ⟨xo, xc, rfl⟩ := hx.form
  obtain ⟨mo, mc, rfl⟩ := hm.form
  obtain ⟨oo, oc, rfl⟩ := ho.form
  have hSZ9 : 16 * wi * wi ≤ 16384 := Nat.mul_le_mul (show 16 * wi ≤ 512 by omega) hw32
  have hhw9 : H * wi ≤ 192 := Nat.mul_le_mul hH hw32
  have hS9 : 16 * wi * wi + H * wi ≤ 140737488355328 := by omega
  have hls : ∀ n, lvs wi seed (n + 1) = lvs wi seed n ++ [(fun K => lf (wi : Int) (eN wi seed K)) n] := lvs_succ wi seed
  have hl0 : lvs wi seed 0 = [] := rfl
  generalize Ky5 wi H seed = KY at *
  generalize 16 * wi * wi + H * wi = SZ at *
  generalize mth (wi : Int) (lvs wi seed (2 ^ H)) = PB at *
  generalize 2 ^ H = N at *
  generalize (fun K => sig wi H K seed (sm wi m)) = SG at *
  generalize (fun K => lf (wi : Int) (eN wi seed K)) = LF at *
  generalize lvs wi seed = LS at *
  generalize sm (wi : Int) m = HM at *
  generalize sm (wi : Int) ot = HO at *
  have HY := hide hmay
  have HZ := hide hS9
  have HLS := hide (And.intro hls hl0)
  clear hmay hx hm ho hg hr ht hSZ9 hhw9 hS9 hls hl0
  generalize seed.length = SN at *
  generalize m.length = ML at *
  generalize ot.length = OL at *
  have hkk : 0 < N := by omega
  have hp' : (8 : Int) < (wi : Int) := by omega
  have hp2' : ¬ (2 : Int) < (H : Int) := by omega
  go_enter Tryd.func7, Tryd.ntmps7
  go_wp2_with fail
  refine ((unhide HY) _).mono ?_
  rintro e w0 ⟨rfl, rfl⟩
  go_wp2_with fail
  refine ((unhide HC).new _ (Fr.refl _ _)).mono ?_
  rintro e w1 ⟨kb, rfl, hk1, hF1⟩
  have H1 := hide (And.intro hk1 hF1)
  clear hk1 hF1
  go_wp2_with fail
  refine ((unhide HC).new _ (unhide H1).2).mono ?_
  rintro e w2 ⟨tb, rfl, hk2, hF2⟩
  have H2 := hide (And.intro ((unhide HC).fr _ _ _ (unhide H1).1 hF2) (And.intro hk2 ((unhide H1).2.trans hF2 (fun _ _ h => h))))
  clear hk2 hF2 H1
  go_wp2_with fail
  refine ((unhide HC).liv _ (unhide H2).2.2).mono ?_
  rintro e w3 ⟨rfl, hF3⟩
  have H3 := hide (And.intro ((unhide HC).fr _ _ _ (unhide H2).1 hF3) (And.intro ((unhide HC).fr _ _ _ (unhide H2).2.1 hF3) ((unhide H2).2.2.trans hF3 (fun _ _ h => h))))
  clear hF3 H2
  go_wp2_with fail
  refine ((unhide HC).sign _ _ 0 (unhide H3).1 (unhide H3).2.2 hkk).mono ?_
  rintro e w5 ⟨so, sc, rfl, hO5⟩
  have H5 := hide (And.intro ((unhide HC).fr _ _ _ (unhide H3).1 hO5.fr) (And.intro ((unhide HC).fr _ _ _ (unhide H3).2.1 hO5.fr) (And.intro ((unhide H3).2.2.trans hO5.fr (fun _ _ h => h)) (hO5.sl2 ((unhide HC).sbyt _) ((unhide HC).slen _ hkk)))))
  clear hO5 H3
  go_wp2_with fail
  refine ((unhide HC).sign _ _ 0 (unhide H5).2.1 (unhide H5).2.2.1 hkk).mono ?_
  rintro e w6 ⟨uo, uc, rfl, hO6⟩
  have H6 := hide (And.intro ((unhide HC).fr _ _ _ (unhide H5).1 hO6.fr) (And.intro ((unhide HC).fr _ _ _ (unhide H5).2.1 hO6.fr) (And.intro ((unhide H5).2.2.1.trans hO6.fr (fun _ _ h => h)) (And.intro ((unhide H5).2.2.2.fr0 hO6.fr) (hO6.sl2 ((unhide HC).sbyt _) ((unhide HC).slen _ hkk))))))
  clear hO6 H5
  go_wp2_with fail
  refine (same_T (unhide H6).2.2.2.1.s (unhide H6).2.2.2.2.s (by rw [(unhide HC).slen _ hkk]; exact unhide HZ) (sameB_refl _)).mono ?_
  rintro e w7 ⟨rfl, hF7⟩
  have H7 := hide (And.intro ((unhide HC).fr _ _ _ (unhide H6).1 hF7) (And.intro ((unhide HC).fr _ _ _ (unhide H6).2.1 hF7) (And.intro ((unhide H6).2.2.1.trans hF7 (fun _ _ h => h)) ((unhide H6).2.2.2.1.fr0 hF7))))
  clear hF7 H6
  go_wp2_with fail
  refine ((unhide HC).size _).mono ?_
  rintro e w8 ⟨rfl, rfl⟩
  go_wp2_with fail
  refine ((unhide HC).pub _ _ (unhide H7).1).mono ?_
  rintro e w9 ⟨po, pc, rfl, hO9⟩
  have H9 := hide (And.intro ((unhide HC).fr _ _ _ (unhide H7).1 hO9.fr) (And.intro ((unhide HC).fr _ _ _ (unhide H7).2.1 hO9.fr) (And.intro ((unhide H7).2.2.1.trans hO9.fr (fun _ _ h => h)) (And.intro ((unhide H7).2.2.2.fr0 hO9.fr) (hO9.sl2 (unhide HC).pbyt (unhide HC).plen)))))
  clear hO9 H7
  go_wp2_with fail
  refine ((unhide HT).chk _ _ _ 0 (unhide H9).2.2.1 (unhide H9).2.2.2.2 (unhide H9).2.2.2.1 hkk).mono ?_
  rintro e wA ⟨rfl, hFA⟩
  have HA := hide (And.intro ((unhide HC).fr _ _ _ (unhide H9).1 hFA) (And.intro ((unhide HC).fr _ _ _ (unhide H9).2.1 hFA) (And.intro ((unhide H9).2.2.1.trans hFA (fun _ _ h => h)) ((unhide H9).2.2.2.1.fr0 hFA))))
  clear hFA H9
  go_wp2_with fail
  refine ((unhide HT).sum _ (unhide HA).2.2.1).mono ?_
  rintro e wB ⟨mo9, mc9, rfl, hOB⟩
  have HB := hide (And.intro (hOB.sl2 (unhide HT).hmb (unhide HT).hml) hOB.fr)
  clear hOB
  go_wp2_with fail
  refine ((unhide HT).suo _ ((unhide HA).2.2.1.trans (unhide HB).2 (fun _ _ h => h))).mono ?_
  rintro e wC ⟨oo9, oc9, rfl, hOC⟩
  have HCc := hide (And.intro ((unhide HB).1.fr0 hOC.fr) (And.intro (hOC.sl2 (unhide HT).hob (unhide HT).hol) ((unhide HB).2.trans hOC.fr (fun _ _ h => h))))
  clear hOC HB
  go_wp2_with fail
  refine (gsame_D (unhide HCc).1 (unhide HCc).2.1 (by rw [(unhide HT).hml]; omega)).mono ?_
  rintro e wD ⟨rfl, hFD⟩
  have hAD : Fr (fun _ => False) wA wD := (unhide HCc).2.2.trans hFD (fun _ _ h => h)
  have HD := hide (And.intro ((unhide HC).fr _ _ _ (unhide HA).1 hAD) (And.intro ((unhide HC).fr _ _ _ (unhide HA).2.1 hAD) (And.intro ((unhide HA).2.2.1.trans hAD (fun _ _ h => h)) ((unhide HA).2.2.2.fr0 hAD))))
  clear hFD hAD HCc HA
  by_cases heq : HM = HO
  · rw [decide_eq_true heq]
    have HE := hide heq
    clear heq
    go_wp2_with fail
    refine ((unhide HC).pub _ _ (unhide HD).1).mono ?_
    rintro e wE ⟨qo, qc, rfl, hOE⟩
    have H9 := hide (And.intro ((unhide HC).fr _ _ _ (unhide HD).1 hOE.fr) (And.intro ((unhide HC).fr _ _ _ (unhide HD).2.1 hOE.fr) (And.intro ((unhide HD).2.2.1.trans hOE.fr (fun _ _ h => h)) (And.intro ((unhide HD).2.2.2.fr0 hOE.fr) (hOE.sl2 (unhide HC).pbyt (unhide HC).plen)))))
    clear hOE HD
    go_wp2_with fail
    refine ((unhide HT).cho (unhide HE) _ _ _ 0 (unhide H9).2.2.1 (unhide H9).2.2.2.2 (unhide H9).2.2.2.1 hkk).mono ?_
    rintro e wF ⟨rfl, hFF⟩
    have HL := hide (And.intro ((unhide HC).fr _ _ _ (unhide H9).1 hFF) (And.intro ((unhide HC).fr _ _ _ (unhide H9).2.1 hFF) ((unhide H9).2.2.1.trans hFF (fun _ _ h => h))))
    clear hFF H9
    go_wp2_with fail
    have hL0 : LV wF wF none 0 [] (LS 0) := (unhide HLS).2 ▸ LV.nil _
    have HL0 := hide hL0
    clear hL0
    go_loopw [21, 22] (fun v iv wr => ∃ (i : Nat) (ao : Option Addr) (cp : Nat) (us : List Value), i ≤ N ∧ iv = .int .i64 (i : Nat) ∧ v = .slice ao i cp ∧ us.length = i ∧ LV wF wr ao cp us (LS i)) (fun _ iv _ => N - (intOf iv).toNat)
    case atStart => exact ⟨0, none, 0, [], Nat.zero_le _, rfl, rfl, rfl, unhide HL0⟩
    case round =>
      obtain ⟨i, ao, cp, us, hi, rfl, rfl, hus, hI⟩ := hrel
      have hky := (unhide HC).fr _ _ _ (unhide HL).1 hI.own.fr
      by_cases hlt : i < N
      · have hlt' : (i : Int) < (N : Int) := by omega
        have HI := hide (And.intro hky (And.intro hus hI))
        clear hky hus hI
        go_wp2_with fail
        refine ((unhide HC).len _ _ (unhide HI).1).mono ?_
        rintro e wG ⟨rfl, rfl⟩
        go_wp2_with fail
        refine ((unhide HC).leaf _ _ i (unhide HI).1 hlt).mono ?_
        rintro e wJ ⟨zo, rfl, hOJ⟩
        obtain ⟨ao', cp', w3, hr3, hL3⟩ := (unhide HI).2.2.step (LF i) zo wi hOJ ((unhide HC).lbyt i) (by rw [(unhide HI).2.1]; omega)
        rw [← (unhide HLS).1] at hL3
        rw [(unhide HI).2.1, (unhide HC).llen] at hr3
        have HR := hide (And.intro hr3 hL3)
        clear hr3 hL3 hOJ
        go_wp2_with (at_builtin; refine wpList_app rfl _ _ 40 40 rfl _ _ _ rfl rfl (unhide HR).1 ?_)
        exact ⟨⟨i + 1, ao', cp', _, by omega, by go_num, rfl, by rw [List.length_append, (unhide HI).2.1]; rfl, (unhide HR).2⟩, by simp [intOf]; omega⟩
      · have hlt' : ¬ (i : Int) < (N : Int) := by omega
        have hiN : i = N := by omega
        have hpc := hI.pcs
        have hcp : i ≤ cp := by
          rcases hI.own.own.2 with ⟨e, e2⟩ | ⟨g, cap, cur, e, _, _, h3, _⟩
          · omega
          · simp only [Value.slice.injEq, true_and] at e
            rw [e.2, ← hus]; exact h3
        rw [hus, hiN] at hpc
        rw [hiN] at hcp
        have hfr := (unhide HL).2.2.trans hI.own.fr (fun _ _ h => h)
        have hky2 := (unhide HC).fr _ _ _ (unhide HL).2.1 hI.own.fr
        have HI := hide (And.intro hky (And.intro hky2 (And.intro hpc (And.intro hcp hfr))))
        clear hky hky2 hpc hcp hfr hI hus
        subst hiN
        go_wp2_with fail
        refine ((unhide HC).len _ _ (unhide HI).1).mono ?_
        rintro e wG ⟨rfl, rfl⟩
        go_wp2_with fail
        refine ((unhide HT).of _ _ us (unhide HI).2.2.2.2 (unhide HI).2.2.1 (fun _ _ _ e => by cases e; exact (unhide HI).2.2.2.1)).mono ?_
        rintro e wK ⟨fo, fc, rfl, hSK, hFK⟩
        have HK := hide (And.intro hSK (And.intro ((unhide HC).fr _ _ _ (unhide HI).1 hFK) (And.intro ((unhide HC).fr _ _ _ (unhide HI).2.1 hFK) ((unhide HI).2.2.2.2.trans hFK (fun _ _ h => h)))))
        clear hSK hFK
        go_wp2_with fail
        refine ((unhide HC).pub _ _ (unhide HK).2.1).mono ?_
        rintro e wM ⟨qo1, qc1, rfl, hOM⟩
        have HM1 := hide (And.intro ((unhide HK).1.fr0 hOM.fr) (And.intro (hOM.sl2 (unhide HC).pbyt (unhide HC).plen) (And.intro ((unhide HC).fr _ _ _ (unhide HK).2.1 hOM.fr) (And.intro ((unhide HC).fr _ _ _ (unhide HK).2.2.1 hOM.fr) ((unhide HK).2.2.2.trans hOM.fr (fun _ _ h => h))))))
        clear hOM HK
        go_wp2_with fail
        refine (same_T (unhide HM1).1.s (unhide HM1).2.1.s (by rw [(unhide HC).plen]; omega) (sameB_refl _)).mono ?_
        rintro e wN ⟨rfl, hFN⟩
        have HN1 := hide (And.intro ((unhide HC).fr _ _ _ (unhide HM1).2.2.1 hFN) (And.intro ((unhide HC).fr _ _ _ (unhide HM1).2.2.2.1 hFN) ((unhide HM1).2.2.2.2.trans hFN (fun _ _ h => h))))
        clear hFN HM1
        go_wp2_with fail
        refine ((unhide HC).pub _ _ (unhide HN1).1).mono ?_
        rintro e wO ⟨qo2, qc2, rfl, hOO⟩
        have HO1 := hide (And.intro (hOO.sl2 (unhide HC).pbyt (unhide HC).plen) (And.intro ((unhide HC).fr _ _ _ (unhide HN1).2.1 hOO.fr) ((unhide HN1).2.2.trans hOO.fr (fun _ _ h => h))))
        clear hOO HN1
        go_wp2_with fail
        refine ((unhide HC).pub _ _ (unhide HO1).2.1).mono ?_
        rintro e wP ⟨qo3, qc3, rfl, hOP⟩
        have HP1 := hide (And.intro ((unhide HO1).1.fr0 hOP.fr) (And.intro (hOP.sl2 (unhide HC).pbyt (unhide HC).plen) ((unhide HO1).2.2.trans hOP.fr (fun _ _ h => h))))
        clear hOP HO1
        go_wp2_with fail
        refine (same_T (unhide HP1).1.s (unhide HP1).2.1.s (by rw [(unhide HC).plen]; omega) (sameB_refl _)).mono ?_
        rintro e wQ ⟨rfl, hFQ⟩
        have HQ1 := hide ((unhide HP1).2.2.trans hFQ (fun _ _ h => h))
        clear hFQ HP1
        go_wp2_with fail
        go_ret
        exact ⟨rfl, unhide HQ1⟩
  · rw [decide_eq_false heq]
    have HL := hide (And.intro (unhide HD).1 (And.intro (unhide HD).2.1 (unhide HD).2.2.1))
    clear heq HD
    go_wp2_with fail
    have hL0 : LV wD wD none 0 [] (LS 0) := (unhide HLS).2 ▸ LV.nil _
    have HL0 := hide hL0
    clear hL0
    go_loopw [21, 22] (fun v iv wr => ∃ (i : Nat) (ao : Option Addr) (cp : Nat) (us : List Value), i ≤ N ∧ iv = .int .i64 (i : Nat) ∧ v = .slice ao i cp ∧ us.length = i ∧ LV wD wr ao cp us (LS i)) (fun _ iv _ => N - (intOf iv).toNat)
    case atStart => exact ⟨0, none, 0, [], Nat.zero_le _, rfl, rfl, rfl, unhide HL0⟩
    case round =>
      obtain ⟨i, ao, cp, us, hi, rfl, rfl, hus, hI⟩ := hrel
      have hky := (unhide HC).fr _ _ _ (unhide HL).1 hI.own.fr
      by_cases hlt : i < N
      · have hlt' : (i : Int) < (N : Int) := by omega
        have HI := hide (And.intro hky (And.intro hus hI))
        clear hky hus hI
        go_wp2_with fail
        refine ((unhide HC).len _ _ (unhide HI).1).mono ?_
        rintro e wG ⟨rfl, rfl⟩
        go_wp2_with fail
        refine ((unhide HC).leaf _ _ i (unhide HI).1 hlt).mono ?_
        rintro e wJ ⟨zo, rfl, hOJ⟩
        obtain ⟨ao', cp', w3, hr3, hL3⟩ := (unhide HI).2.2.step (LF i) zo wi hOJ ((unhide HC).lbyt i) (by rw [(unhide HI).2.1]; omega)
        rw [← (unhide HLS).1] at hL3
        rw [(unhide HI).2.1, (unhide HC).llen] at hr3
        have HR := hide (And.intro hr3 hL3)
        clear hr3 hL3 hOJ
        go_wp2_with (at_builtin; refine wpList_app rfl _ _ 40 40 rfl _ _ _ rfl rfl (unhide HR).1 ?_)
        exact ⟨⟨i + 1, ao', cp', _, by omega, by go_num, rfl, by rw [List.length_append, (unhide HI).2.1]; rfl, (unhide HR).2⟩, by simp [intOf]; omega⟩
      · have hlt' : ¬ (i : Int) < (N : Int) := by omega
        have hiN : i = N := by omega
        have hpc := hI.pcs
        have hcp : i ≤ cp := by
          rcases hI.own.own.2 with ⟨e, e2⟩ | ⟨g, cap, cur, e, _, _, h3, _⟩
          · omega
          · simp only [Value.slice.injEq, true_and] at e
            rw [e.2, ← hus]; exact h3
        rw [hus, hiN] at hpc
        rw [hiN] at hcp
        have hfr := (unhide HL).2.2.trans hI.own.fr (fun _ _ h => h)
        have hky2 := (unhide HC).fr _ _ _ (unhide HL).2.1 hI.own.fr
        have HI := hide (And.intro hky (And.intro hky2 (And.intro hpc (And.intro hcp hfr))))
        clear hky hky2 hpc hcp hfr hI hus
        subst hiN
        go_wp2_with fail
        refine ((unhide HC).len _ _ (unhide HI).1).mono ?_
        rintro e wG ⟨rfl, rfl⟩
        go_wp2_with fail
        refine ((unhide HT).of _ _ us (unhide HI).2.2.2.2 (unhide HI).2.2.1 (fun _ _ _ e => by cases e; exact (unhide HI).2.2.2.1)).mono ?_
        rintro e wK ⟨fo, fc, rfl, hSK, hFK⟩
        have HK := hide (And.intro hSK (And.intro ((unhide HC).fr _ _ _ (unhide HI).1 hFK) (And.intro ((unhide HC).fr _ _ _ (unhide HI).2.1 hFK) ((unhide HI).2.2.2.2.trans hFK (fun _ _ h => h)))))
        clear hSK hFK
        go_wp2_with fail
        refine ((unhide HC).pub _ _ (unhide HK).2.1).mono ?_
        rintro e wM ⟨qo1, qc1, rfl, hOM⟩
        have HM1 := hide (And.intro ((unhide HK).1.fr0 hOM.fr) (And.intro (hOM.sl2 (unhide HC).pbyt (unhide HC).plen) (And.intro ((unhide HC).fr _ _ _ (unhide HK).2.1 hOM.fr) (And.intro ((unhide HC).fr _ _ _ (unhide HK).2.2.1 hOM.fr) ((unhide HK).2.2.2.trans hOM.fr (fun _ _ h => h))))))
        clear hOM HK
        go_wp2_with fail
        refine (same_T (unhide HM1).1.s (unhide HM1).2.1.s (by rw [(unhide HC).plen]; omega) (sameB_refl _)).mono ?_
        rintro e wN ⟨rfl, hFN⟩
        have HN1 := hide (And.intro ((unhide HC).fr _ _ _ (unhide HM1).2.2.1 hFN) (And.intro ((unhide HC).fr _ _ _ (unhide HM1).2.2.2.1 hFN) ((unhide HM1).2.2.2.2.trans hFN (fun _ _ h => h))))
        clear hFN HM1
        go_wp2_with fail
        refine ((unhide HC).pub _ _ (unhide HN1).1).mono ?_
        rintro e wO ⟨qo2, qc2, rfl, hOO⟩
        have HO1 := hide (And.intro (hOO.sl2 (unhide HC).pbyt (unhide HC).plen) (And.intro ((unhide HC).fr _ _ _ (unhide HN1).2.1 hOO.fr) ((unhide HN1).2.2.trans hOO.fr (fun _ _ h => h))))
        clear hOO HN1
        go_wp2_with fail
        refine ((unhide HC).pub _ _ (unhide HO1).2.1).mono ?_
        rintro e wP ⟨qo3, qc3, rfl, hOP⟩
        have HP1 := hide (And.intro ((unhide HO1).1.fr0 hOP.fr) (And.intro (hOP.sl2 (unhide HC).pbyt (unhide HC).plen) ((unhide HO1).2.2.trans hOP.fr (fun _ _ h => h))))
        clear hOP HO1
        go_wp2_with fail
        refine (same_T (unhide HP1).1.s (unhide HP1).2.1.s (by rw [(unhide HC).plen]; omega) (sameB_refl _)).mono ?_
        rintro e wQ ⟨rfl, hFQ⟩
        have HQ1 := hide ((unhide HP1).2.2.trans hFQ (fun _ _ h => h))
        clear hFQ HP1
        go_wp2_with fail
        go_ret
        exact ⟨rfl, unhide HQ1⟩
end Go.Proofs.YtjokmlnghpnlbaaDoor

namespace Go.Proofs.YtjokmlnghpnlbaaDoor
open Go.RowKit

set_option maxRecDepth 100000 in
set_option maxHeartbeats 1000000 in
theorem ltaken_Bbig (wi H : Nat) (hw1 : 1 ≤ wi) (hw32 : wi ≤ 32) (hH : H ≤ 6) (hp : 8 < wi) (hp2 : ¬ 2 < H) (K : Int) (hK : ((2 ^ H : Nat) : Int) ≤ K) (x mv ov : Value) (seed m ot : List Nat) (w : World) (hg : GS w) (hr : GR w) (ht : GT w) (hx : Sl w x seed) (hm : Sl w mv m) (ho : Sl w ov ot) (hs : seed.length ≤ 2000000) (hml : m.length ≤ 2000000) (hol : ot.length ≤ 2000000) :
    Calls Tryd.prog 7 #[.int .i64 wi, .int .i64 H, x, .int .i64 K, mv, ov] w fun e w' => e = .returned (.bool true) ∧ Fr (fun _ => False) w w' := by
  have hN64 : 2 ^ H ≤ 64 := Nat.pow_le_pow_right (n := 2) (by decide) hH
  have hN1 : 1 ≤ 2 ^ H := Nat.one_le_two_pow
  have HC := hide (c5_of wi H hw1 hw32 hH x mv seed m w hg ht hx (by omega) hm (by omega))
  have HT := hide (t5_of wi H hw1 hw32 hH mv ov seed m ot w hg hr hm (by omega) ho (by omega))
  have hmay := fun w' => g5may_any wi H w'
  rw [decide_eq_true (by omega)] at hmay
  obtain ⟨xo, xc, rfl⟩ := hx.form
  obtain ⟨mo, mc, rfl⟩ := hm.form
  obtain ⟨oo, oc, rfl⟩ := ho.form
  have hSZ9 : 16 * wi * wi ≤ 16384 := Nat.mul_le_mul (show 16 * wi ≤ 512 by omega) hw32
  have hhw9 : H * wi ≤ 192 := Nat.mul_le_mul hH hw32
  have hS9 : 16 * wi * wi + H * wi ≤ 140737488355328 := by omega
  have hls : ∀ n, lvs wi seed (n + 1) = lvs wi seed n ++ [(fun K => lf (wi : Int) (eN wi seed K)) n] := lvs_succ wi seed
  have hl0 : lvs wi seed 0 = [] := rfl
  generalize Ky5 wi H seed = KY at *
  generalize 16 * wi * wi + H * wi = SZ at *
  generalize mth (wi : Int) (lvs wi seed (2 ^ H)) = PB at *
  generalize 2 ^ H = N at *
  generalize (fun K => sig wi H K seed (sm wi m)) = SG at *
  generalize (fun K => lf (wi : Int) (eN wi seed K)) = LF at *
  generalize lvs wi seed = LS at *
  generalize sm (wi : Int) m = HM at *
  generalize sm (wi : Int) ot = HO at *
  have HY := hide hmay
  have HZ := hide hS9
  have HLS := hide (And.intro hls hl0)
  clear hmay hx hm ho hg hr ht hSZ9 hhw9 hS9 hls hl0
  generalize seed.length = SN at *
  generalize m.length = ML at *
  generalize ot.length = OL at *
  have hkk : 0 < N := by omega
  have hp' : (8 : Int) < (wi : Int) := by omega
  have hp2' : ¬ (2 : Int) < (H : Int) := by omega
  have hk1 : ¬ K < 0 := by omega
  go_enter Tryd.func7, Tryd.ntmps7
  go_wp2_with fail
  refine ((unhide HY) _).mono ?_
  rintro e w0 ⟨rfl, rfl⟩
  go_wp2_with fail
  refine ((unhide HC).new _ (Fr.refl _ _)).mono ?_
  rintro e w1 ⟨kb, rfl, hk1, hF1⟩
  have H1 := hide (And.intro hk1 hF1)
  clear hk1 hF1
  go_wp2_with fail
  refine ((unhide HC).new _ (unhide H1).2).mono ?_
  rintro e w2 ⟨tb, rfl, hk2, hF2⟩
  have H2 := hide (And.intro ((unhide HC).fr _ _ _ (unhide H1).1 hF2) (And.intro hk2 ((unhide H1).2.trans hF2 (fun _ _ h => h))))
  clear hk2 hF2 H1
  go_wp2_with fail
  refine ((unhide HC).liv _ (unhide H2).2.2).mono ?_
  rintro e w3 ⟨rfl, hF3⟩
  have H3 := hide (And.intro ((unhide HC).fr _ _ _ (unhide H2).1 hF3) (And.intro ((unhide HC).fr _ _ _ (unhide H2).2.1 hF3) ((unhide H2).2.2.trans hF3 (fun _ _ h => h))))
  clear hF3 H2
  go_wp2_with fail
  refine ((unhide HC).len _ _ (unhide H3).1).mono ?_
  rintro e w4 ⟨rfl, rfl⟩
  go_wp2_with fail
  refine ((unhide HC).sign _ _ 0 (unhide H3).1 (unhide H3).2.2 hkk).mono ?_
  rintro e w5 ⟨so, sc, rfl, hO5⟩
  have H5 := hide (And.intro ((unhide HC).fr _ _ _ (unhide H3).1 hO5.fr) (And.intro ((unhide HC).fr _ _ _ (unhide H3).2.1 hO5.fr) (And.intro ((unhide H3).2.2.trans hO5.fr (fun _ _ h => h)) (hO5.sl2 ((unhide HC).sbyt _) ((unhide HC).slen _ hkk)))))
  clear hO5 H3
  go_wp2_with fail
  refine ((unhide HC).sign _ _ 0 (unhide H5).2.1 (unhide H5).2.2.1 hkk).mono ?_
  rintro e w6 ⟨uo, uc, rfl, hO6⟩
  have H6 := hide (And.intro ((unhide HC).fr _ _ _ (unhide H5).1 hO6.fr) (And.intro ((unhide HC).fr _ _ _ (unhide H5).2.1 hO6.fr) (And.intro ((unhide H5).2.2.1.trans hO6.fr (fun _ _ h => h)) (And.intro ((unhide H5).2.2.2.fr0 hO6.fr) (hO6.sl2 ((unhide HC).sbyt _) ((unhide HC).slen _ hkk))))))
  clear hO6 H5
  go_wp2_with fail
  refine (same_T (unhide H6).2.2.2.1.s (unhide H6).2.2.2.2.s (by rw [(unhide HC).slen _ hkk]; exact unhide HZ) (sameB_refl _)).mono ?_
  rintro e w7 ⟨rfl, hF7⟩
  have H7 := hide (And.intro ((unhide HC).fr _ _ _ (unhide H6).1 hF7) (And.intro ((unhide HC).fr _ _ _ (unhide H6).2.1 hF7) (And.intro ((unhide H6).2.2.1.trans hF7 (fun _ _ h => h)) ((unhide H6).2.2.2.1.fr0 hF7))))
  clear hF7 H6
  go_wp2_with fail
  refine ((unhide HC).size _).mono ?_
  rintro e w8 ⟨rfl, rfl⟩
  go_wp2_with fail
  refine ((unhide HC).pub _ _ (unhide H7).1).mono ?_
  rintro e w9 ⟨po, pc, rfl, hO9⟩
  have H9 := hide (And.intro ((unhide HC).fr _ _ _ (unhide H7).1 hO9.fr) (And.intro ((unhide HC).fr _ _ _ (unhide H7).2.1 hO9.fr) (And.intro ((unhide H7).2.2.1.trans hO9.fr (fun _ _ h => h)) (And.intro ((unhide H7).2.2.2.fr0 hO9.fr) (hO9.sl2 (unhide HC).pbyt (unhide HC).plen)))))
  clear hO9 H7
  go_wp2_with fail
  refine ((unhide HT).chk _ _ _ 0 (unhide H9).2.2.1 (unhide H9).2.2.2.2 (unhide H9).2.2.2.1 hkk).mono ?_
  rintro e wA ⟨rfl, hFA⟩
  have HA := hide (And.intro ((unhide HC).fr _ _ _ (unhide H9).1 hFA) (And.intro ((unhide HC).fr _ _ _ (unhide H9).2.1 hFA) (And.intro ((unhide H9).2.2.1.trans hFA (fun _ _ h => h)) ((unhide H9).2.2.2.1.fr0 hFA))))
  clear hFA H9
  go_wp2_with fail
  refine ((unhide HT).sum _ (unhide HA).2.2.1).mono ?_
  rintro e wB ⟨mo9, mc9, rfl, hOB⟩
  have HB := hide (And.intro (hOB.sl2 (unhide HT).hmb (unhide HT).hml) hOB.fr)
  clear hOB
  go_wp2_with fail
  refine ((unhide HT).suo _ ((unhide HA).2.2.1.trans (unhide HB).2 (fun _ _ h => h))).mono ?_
  rintro e wC ⟨oo9, oc9, rfl, hOC⟩
  have HCc := hide (And.intro ((unhide HB).1.fr0 hOC.fr) (And.intro (hOC.sl2 (unhide HT).hob (unhide HT).hol) ((unhide HB).2.trans hOC.fr (fun _ _ h => h))))
  clear hOC HB
  go_wp2_with fail
  refine (gsame_D (unhide HCc).1 (unhide HCc).2.1 (by rw [(unhide HT).hml]; omega)).mono ?_
  rintro e wD ⟨rfl, hFD⟩
  have hAD : Fr (fun _ => False) wA wD := (unhide HCc).2.2.trans hFD (fun _ _ h => h)
  have HD := hide (And.intro ((unhide HC).fr _ _ _ (unhide HA).1 hAD) (And.intro ((unhide HC).fr _ _ _ (unhide HA).2.1 hAD) (And.intro ((unhide HA).2.2.1.trans hAD (fun _ _ h => h)) ((unhide HA).2.2.2.fr0 hAD))))
  clear hFD hAD HCc HA
  by_cases heq : HM = HO
  · rw [decide_eq_true heq]
    have HE := hide heq
    clear heq
    go_wp2_with fail
    refine ((unhide HC).pub _ _ (unhide HD).1).mono ?_
    rintro e wE ⟨qo, qc, rfl, hOE⟩
    have H9 := hide (And.intro ((unhide HC).fr _ _ _ (unhide HD).1 hOE.fr) (And.intro ((unhide HC).fr _ _ _ (unhide HD).2.1 hOE.fr) (And.intro ((unhide HD).2.2.1.trans hOE.fr (fun _ _ h => h)) (And.intro ((unhide HD).2.2.2.fr0 hOE.fr) (hOE.sl2 (unhide HC).pbyt (unhide HC).plen)))))
    clear hOE HD
    go_wp2_with fail
    refine ((unhide HT).cho (unhide HE) _ _ _ 0 (unhide H9).2.2.1 (unhide H9).2.2.2.2 (unhide H9).2.2.2.1 hkk).mono ?_
    rintro e wF ⟨rfl, hFF⟩
    have HL := hide (And.intro ((unhide HC).fr _ _ _ (unhide H9).1 hFF) (And.intro ((unhide HC).fr _ _ _ (unhide H9).2.1 hFF) ((unhide H9).2.2.1.trans hFF (fun _ _ h => h))))
    clear hFF H9
    go_wp2_with fail
    have hL0 : LV wF wF none 0 [] (LS 0) := (unhide HLS).2 ▸ LV.nil _
    have HL0 := hide hL0
    clear hL0
    go_loopw [21, 22] (fun v iv wr => ∃ (i : Nat) (ao : Option Addr) (cp : Nat) (us : List Value), i ≤ N ∧ iv = .int .i64 (i : Nat) ∧ v = .slice ao i cp ∧ us.length = i ∧ LV wF wr ao cp us (LS i)) (fun _ iv _ => N - (intOf iv).toNat)
    case atStart => exact ⟨0, none, 0, [], Nat.zero_le _, rfl, rfl, rfl, unhide HL0⟩
    case round =>
      obtain ⟨i, ao, cp, us, hi, rfl, rfl, hus, hI⟩ := hrel
      have hky := (unhide HC).fr _ _ _ (unhide HL).1 hI.own.fr
      by_cases hlt : i < N
      · have hlt' : (i : Int) < (N : Int) := by omega
        have HI := hide (And.intro hky (And.intro hus hI))
        clear hky hus hI
        go_wp2_with fail
        refine ((unhide HC).len _ _ (unhide HI).1).mono ?_
        rintro e wG ⟨rfl, rfl⟩
        go_wp2_with fail
        refine ((unhide HC).leaf _ _ i (unhide HI).1 hlt).mono ?_
        rintro e wJ ⟨zo, rfl, hOJ⟩
        obtain ⟨ao', cp', w3, hr3, hL3⟩ := (unhide HI).2.2.step (LF i) zo wi hOJ ((unhide HC).lbyt i) (by rw [(unhide HI).2.1]; omega)
        rw [← (unhide HLS).1] at hL3
        rw [(unhide HI).2.1, (unhide HC).llen] at hr3
        have HR := hide (And.intro hr3 hL3)
        clear hr3 hL3 hOJ
        go_wp2_with (at_builtin; refine wpList_app rfl _ _ 40 40 rfl _ _ _ rfl rfl (unhide HR).1 ?_)
        exact ⟨⟨i + 1, ao', cp', _, by omega, by go_num, rfl, by rw [List.length_append, (unhide HI).2.1]; rfl, (unhide HR).2⟩, by simp [intOf]; omega⟩
      · have hlt' : ¬ (i : Int) < (N : Int) := by omega
        have hiN : i = N := by omega
        have hpc := hI.pcs
        have hcp : i ≤ cp := by
          rcases hI.own.own.2 with ⟨e, e2⟩ | ⟨g, cap, cur, e, _, _, h3, _⟩
          · omega
          · simp only [Value.slice.injEq, true_and] at e
            rw [e.2, ← hus]; exact h3
        rw [hus, hiN] at hpc
        rw [hiN] at hcp
        have hfr := (unhide HL).2.2.trans hI.own.fr (fun _ _ h => h)
        have hky2 := (unhide HC).fr _ _ _ (unhide HL).2.1 hI.own.fr
        have HI := hide (And.intro hky (And.intro hky2 (And.intro hpc (And.intro hcp hfr))))
        clear hky hky2 hpc hcp hfr hI hus
        subst hiN
        go_wp2_with fail
        refine ((unhide HC).len _ _ (unhide HI).1).mono ?_
        rintro e wG ⟨rfl, rfl⟩
        go_wp2_with fail
        refine ((unhide HT).of _ _ us (unhide HI).2.2.2.2 (unhide HI).2.2.1 (fun _ _ _ e => by cases e; exact (unhide HI).2.2.2.1)).mono ?_
        rintro e wK ⟨fo, fc, rfl, hSK, hFK⟩
        have HK := hide (And.intro hSK (And.intro ((unhide HC).fr _ _ _ (unhide HI).1 hFK) (And.intro ((unhide HC).fr _ _ _ (unhide HI).2.1 hFK) ((unhide HI).2.2.2.2.trans hFK (fun _ _ h => h)))))
        clear hSK hFK
        go_wp2_with fail
        refine ((unhide HC).pub _ _ (unhide HK).2.1).mono ?_
        rintro e wM ⟨qo1, qc1, rfl, hOM⟩
        have HM1 := hide (And.intro ((unhide HK).1.fr0 hOM.fr) (And.intro (hOM.sl2 (unhide HC).pbyt (unhide HC).plen) (And.intro ((unhide HC).fr _ _ _ (unhide HK).2.1 hOM.fr) (And.intro ((unhide HC).fr _ _ _ (unhide HK).2.2.1 hOM.fr) ((unhide HK).2.2.2.trans hOM.fr (fun _ _ h => h))))))
        clear hOM HK
        go_wp2_with fail
        refine (same_T (unhide HM1).1.s (unhide HM1).2.1.s (by rw [(unhide HC).plen]; omega) (sameB_refl _)).mono ?_
        rintro e wN ⟨rfl, hFN⟩
        have HN1 := hide (And.intro ((unhide HC).fr _ _ _ (unhide HM1).2.2.1 hFN) (And.intro ((unhide HC).fr _ _ _ (unhide HM1).2.2.2.1 hFN) ((unhide HM1).2.2.2.2.trans hFN (fun _ _ h => h))))
        clear hFN HM1
        go_wp2_with fail
        refine ((unhide HC).pub _ _ (unhide HN1).1).mono ?_
        rintro e wO ⟨qo2, qc2, rfl, hOO⟩
        have HO1 := hide (And.intro (hOO.sl2 (unhide HC).pbyt (unhide HC).plen) (And.intro ((unhide HC).fr _ _ _ (unhide HN1).2.1 hOO.fr) ((unhide HN1).2.2.trans hOO.fr (fun _ _ h => h))))
        clear hOO HN1
        go_wp2_with fail
        refine ((unhide HC).pub _ _ (unhide HO1).2.1).mono ?_
        rintro e wP ⟨qo3, qc3, rfl, hOP⟩
        have HP1 := hide (And.intro ((unhide HO1).1.fr0 hOP.fr) (And.intro (hOP.sl2 (unhide HC).pbyt (unhide HC).plen) ((unhide HO1).2.2.trans hOP.fr (fun _ _ h => h))))
        clear hOP HO1
        go_wp2_with fail
        refine (same_T (unhide HP1).1.s (unhide HP1).2.1.s (by rw [(unhide HC).plen]; omega) (sameB_refl _)).mono ?_
        rintro e wQ ⟨rfl, hFQ⟩
        have HQ1 := hide ((unhide HP1).2.2.trans hFQ (fun _ _ h => h))
        clear hFQ HP1
        go_wp2_with fail
        go_ret
        exact ⟨rfl, unhide HQ1⟩
  · rw [decide_eq_false heq]
    have HL := hide (And.intro (unhide HD).1 (And.intro (unhide HD).2.1 (unhide HD).2.2.1))
    clear heq HD
    go_wp2_with fail
    have hL0 : LV wD wD none 0 [] (LS 0) := (unhide HLS).2 ▸ LV.nil _
    have HL0 := hide hL0
    clear hL0
    go_loopw [21, 22] (fun v iv wr => ∃ (i : Nat) (ao : Option Addr) (cp : Nat) (us : List Value), i ≤ N ∧ iv = .int .i64 (i : Nat) ∧ v = .slice ao i cp ∧ us.length = i ∧ LV wD wr ao cp us (LS i)) (fun _ iv _ => N - (intOf iv).toNat)
    case atStart => exact ⟨0, none, 0, [], Nat.zero_le _, rfl, rfl, rfl, unhide HL0⟩
    case round =>
      obtain ⟨i, ao, cp, us, hi, rfl, rfl, hus, hI⟩ := hrel
      have hky := (unhide HC).fr _ _ _ (unhide HL).1 hI.own.fr
      by_cases hlt : i < N
      · have hlt' : (i : Int) < (N : Int) := by omega
        have HI := hide (And.intro hky (And.intro hus hI))
        clear hky hus hI
        go_wp2_with fail
        refine ((unhide HC).len _ _ (unhide HI).1).mono ?_
        rintro e wG ⟨rfl, rfl⟩
        go_wp2_with fail
        refine ((unhide HC).leaf _ _ i (unhide HI).1 hlt).mono ?_
        rintro e wJ ⟨zo, rfl, hOJ⟩
        obtain ⟨ao', cp', w3, hr3, hL3⟩ := (unhide HI).2.2.step (LF i) zo wi hOJ ((unhide HC).lbyt i) (by rw [(unhide HI).2.1]; omega)
        rw [← (unhide HLS).1] at hL3
        rw [(unhide HI).2.1, (unhide HC).llen] at hr3
        have HR := hide (And.intro hr3 hL3)
        clear hr3 hL3 hOJ
        go_wp2_with (at_builtin; refine wpList_app rfl _ _ 40 40 rfl _ _ _ rfl rfl (unhide HR).1 ?_)
        exact ⟨⟨i + 1, ao', cp', _, by omega, by go_num, rfl, by rw [List.length_append, (unhide HI).2.1]; rfl, (unhide HR).2⟩, by simp [intOf]; omega⟩
      · have hlt' : ¬ (i : Int) < (N : Int) := by omega
        have hiN : i = N := by omega
        have hpc := hI.pcs
        have hcp : i ≤ cp := by
          rcases hI.own.own.2 with ⟨e, e2⟩ | ⟨g, cap, cur, e, _, _, h3, _⟩
          · omega
          · simp only [Value.slice.injEq, true_and] at e
            rw [e.2, ← hus]; exact h3
        rw [hus, hiN] at hpc
        rw [hiN] at hcp
        have hfr := (unhide HL).2.2.trans hI.own.fr (fun _ _ h => h)
        have hky2 := (unhide HC).fr _ _ _ (unhide HL).2.1 hI.own.fr
        have HI := hide (And.intro hky (And.intro hky2 (And.intro hpc (And.intro hcp hfr))))
        clear hky hky2 hpc hcp hfr hI hus
        subst hiN
        go_wp2_with fail
        refine ((unhide HC).len _ _ (unhide HI).1).mono ?_
        rintro e wG ⟨rfl, rfl⟩
        go_wp2_with fail
        refine ((unhide HT).of _ _ us (unhide HI).2.2.2.2 (unhide HI).2.2.1 (fun _ _ _ e => by cases e; exact (unhide HI).2.2.2.1)).mono ?_
        rintro e wK ⟨fo, fc, rfl, hSK, hFK⟩
        have HK := hide (And.intro hSK (And.intro ((unhide HC).fr _ _ _ (unhide HI).1 hFK) (And.intro ((unhide HC).fr _ _ _ (unhide HI).2.1 hFK) ((unhide HI).2.2.2.2.trans hFK (fun _ _ h => h)))))
        clear hSK hFK
        go_wp2_with fail
        refine ((unhide HC).pub _ _ (unhide HK).2.1).mono ?_
        rintro e wM ⟨qo1, qc1, rfl, hOM⟩
        have HM1 := hide (And.intro ((unhide HK).1.fr0 hOM.fr) (And.intro (hOM.sl2 (unhide HC).pbyt (unhide HC).plen) (And.intro ((unhide HC).fr _ _ _ (unhide HK).2.1 hOM.fr) (And.intro ((unhide HC).fr _ _ _ (unhide HK).2.2.1 hOM.fr) ((unhide HK).2.2.2.trans hOM.fr (fun _ _ h => h))))))
        clear hOM HK
        go_wp2_with fail
        refine (same_T (unhide HM1).1.s (unhide HM1).2.1.s (by rw [(unhide HC).plen]; omega) (sameB_refl _)).mono ?_
        rintro e wN ⟨rfl, hFN⟩
        have HN1 := hide (And.intro ((unhide HC).fr _ _ _ (unhide HM1).2.2.1 hFN) (And.intro ((unhide HC).fr _ _ _ (unhide HM1).2.2.2.1 hFN) ((unhide HM1).2.2.2.2.trans hFN (fun _ _ h => h))))
        clear hFN HM1
        go_wp2_with fail
        refine ((unhide HC).pub _ _ (unhide HN1).1).mono ?_
        rintro e wO ⟨qo2, qc2, rfl, hOO⟩
        have HO1 := hide (And.intro (hOO.sl2 (unhide HC).pbyt (unhide HC).plen) (And.intro ((unhide HC).fr _ _ _ (unhide HN1).2.1 hOO.fr) ((unhide HN1).2.2.trans hOO.fr (fun _ _ h => h))))
        clear hOO HN1
        go_wp2_with fail
        refine ((unhide HC).pub _ _ (unhide HO1).2.1).mono ?_
        rintro e wP ⟨qo3, qc3, rfl, hOP⟩
        have HP1 := hide (And.intro ((unhide HO1).1.fr0 hOP.fr) (And.intro (hOP.sl2 (unhide HC).pbyt (unhide HC).plen) ((unhide HO1).2.2.trans hOP.fr (fun _ _ h => h))))
        clear hOP HO1
        go_wp2_with fail
        refine (same_T (unhide HP1).1.s (unhide HP1).2.1.s (by rw [(unhide HC).plen]; omega) (sameB_refl _)).mono ?_
        rintro e wQ ⟨rfl, hFQ⟩
        have HQ1 := hide ((unhide HP1).2.2.trans hFQ (fun _ _ h => h))
        clear hFQ HP1
        go_wp2_with fail
        go_ret
        exact ⟨rfl, unhide HQ1⟩
end Go.Proofs.YtjokmlnghpnlbaaDoor

namespace Go.Proofs.YtjokmlnghpnlbaaDoor
open Go.RowKit

set_option maxRecDepth 100000 in
set_option maxHeartbeats 1000000 in
theorem ltaken_Cin (v t : Nat) (hw32 : v ≤ 32) (hH : t ≤ 6) (hp : 8 < v) (hp2 : 2 < t) (kk : Nat) (hkk : kk < 2 ^ 2) (x mv ov : Value) (seed m ot : List Nat) (w : World) (hg : GS w) (hr : GR w) (ht : GT w) (hx : Sl w x seed) (hm : Sl w mv m) (ho : Sl w ov ot) (hs : seed.length ≤ 2000000) (hml : m.length ≤ 2000000) (hol : ot.length ≤ 2000000) :
    Calls Tryd.prog 7 #[.int .i64 v, .int .i64 t, x, .int .i64 kk, mv, ov] w fun e w' => e = .returned (.bool true) ∧ Fr (fun _ => False) w w' := by
  have hN64 : 2 ^ 2 ≤ 64 := by decide
  have hN1 : 1 ≤ 2 ^ 2 := by decide
  have HC := hide (c5_of 2 2 (by decide) (by decide) (by decide) x mv seed m w hg ht hx (by omega) hm (by omega))
  have HT := hide (t5_of 2 2 (by decide) (by decide) (by decide) mv ov seed m ot w hg hr hm (by omega) ho (by omega))
  have hmay := fun w' => g5may_any v t w'
  rw [decide_eq_true (by omega)] at hmay
  obtain ⟨xo, xc, rfl⟩ := hx.form
  obtain ⟨mo, mc, rfl⟩ := hm.form
  obtain ⟨oo, oc, rfl⟩ := ho.form
  have hS9 : 16 * 2 * 2 + 2 * 2 ≤ 140737488355328 := by decide
  have hls : ∀ n, lvs 2 seed (n + 1) = lvs 2 seed n ++ [(fun K => lf ((2 : Nat) : Int) (eN 2 seed K)) n] := lvs_succ 2 seed
  have hl0 : lvs 2 seed 0 = [] := rfl
  generalize Ky5 2 2 seed = KY at *
  generalize 16 * 2 * 2 + 2 * 2 = SZ at *
  generalize mth ((2 : Nat) : Int) (lvs 2 seed (2 ^ 2)) = PB at *
  generalize 2 ^ 2 = N at *
  generalize (fun K => sig 2 2 K seed (sm (2 : Nat) m)) = SG at *
  generalize (fun K => lf ((2 : Nat) : Int) (eN 2 seed K)) = LF at *
  generalize lvs 2 seed = LS at *
  generalize sm ((2 : Nat) : Int) m = HM at *
  generalize sm ((2 : Nat) : Int) ot = HO at *
  have HY := hide hmay
  have HZ := hide hS9
  have HLS := hide (And.intro hls hl0)
  clear hmay hx hm ho hg hr ht hS9 hls hl0
  generalize seed.length = SN at *
  generalize m.length = ML at *
  generalize ot.length = OL at *
  have hp' : (8 : Int) < (v : Int) := by omega
  have hp2' : (2 : Int) < (t : Int) := by omega
  have hk1 : ¬ (kk : Int) < 0 := by omega
  have hk2 : ¬ (N : Int) ≤ (kk : Int) := by omega
  go_enter Tryd.func7, Tryd.ntmps7
  go_wp2_with fail
  refine ((unhide HY) _).mono ?_
  rintro e w0 ⟨rfl, rfl⟩
  go_wp2_with fail
  refine ((unhide HC).new _ (Fr.refl _ _)).mono ?_
  rintro e w1 ⟨kb, rfl, hk1, hF1⟩
  have H1 := hide (And.intro hk1 hF1)
  clear hk1 hF1
  go_wp2_with fail
  refine ((unhide HC).new _ (unhide H1).2).mono ?_
  rintro e w2 ⟨tb, rfl, hk2, hF2⟩
  have H2 := hide (And.intro ((unhide HC).fr _ _ _ (unhide H1).1 hF2) (And.intro hk2 ((unhide H1).2.trans hF2 (fun _ _ h => h))))
  clear hk2 hF2 H1
  go_wp2_with fail
  refine ((unhide HC).liv _ (unhide H2).2.2).mono ?_
  rintro e w3 ⟨rfl, hF3⟩
  have H3 := hide (And.intro ((unhide HC).fr _ _ _ (unhide H2).1 hF3) (And.intro ((unhide HC).fr _ _ _ (unhide H2).2.1 hF3) ((unhide H2).2.2.trans hF3 (fun _ _ h => h))))
  clear hF3 H2
  go_wp2_with fail
  refine ((unhide HC).len _ _ (unhide H3).1).mono ?_
  rintro e w4 ⟨rfl, rfl⟩
  go_wp2_with fail
  refine ((unhide HC).sign _ _ kk (unhide H3).1 (unhide H3).2.2 hkk).mono ?_
  rintro e w5 ⟨so, sc, rfl, hO5⟩
  have H5 := hide (And.intro ((unhide HC).fr _ _ _ (unhide H3).1 hO5.fr) (And.intro ((unhide HC).fr _ _ _ (unhide H3).2.1 hO5.fr) (And.intro ((unhide H3).2.2.trans hO5.fr (fun _ _ h => h)) (hO5.sl2 ((unhide HC).sbyt _) ((unhide HC).slen _ hkk)))))
  clear hO5 H3
  go_wp2_with fail
  refine ((unhide HC).sign _ _ kk (unhide H5).2.1 (unhide H5).2.2.1 hkk).mono ?_
  rintro e w6 ⟨uo, uc, rfl, hO6⟩
  have H6 := hide (And.intro ((unhide HC).fr _ _ _ (unhide H5).1 hO6.fr) (And.intro ((unhide HC).fr _ _ _ (unhide H5).2.1 hO6.fr) (And.intro ((unhide H5).2.2.1.trans hO6.fr (fun _ _ h => h)) (And.intro ((unhide H5).2.2.2.fr0 hO6.fr) (hO6.sl2 ((unhide HC).sbyt _) ((unhide HC).slen _ hkk))))))
  clear hO6 H5
  go_wp2_with fail
  refine (same_T (unhide H6).2.2.2.1.s (unhide H6).2.2.2.2.s (by rw [(unhide HC).slen _ hkk]; exact unhide HZ) (sameB_refl _)).mono ?_
  rintro e w7 ⟨rfl, hF7⟩
  have H7 := hide (And.intro ((unhide HC).fr _ _ _ (unhide H6).1 hF7) (And.intro ((unhide HC).fr _ _ _ (unhide H6).2.1 hF7) (And.intro ((unhide H6).2.2.1.trans hF7 (fun _ _ h => h)) ((unhide H6).2.2.2.1.fr0 hF7))))
  clear hF7 H6
  go_wp2_with fail
  refine ((unhide HC).size _).mono ?_
  rintro e w8 ⟨rfl, rfl⟩
  go_wp2_with fail
  refine ((unhide HC).pub _ _ (unhide H7).1).mono ?_
  rintro e w9 ⟨po, pc, rfl, hO9⟩
  have H9 := hide (And.intro ((unhide HC).fr _ _ _ (unhide H7).1 hO9.fr) (And.intro ((unhide HC).fr _ _ _ (unhide H7).2.1 hO9.fr) (And.intro ((unhide H7).2.2.1.trans hO9.fr (fun _ _ h => h)) (And.intro ((unhide H7).2.2.2.fr0 hO9.fr) (hO9.sl2 (unhide HC).pbyt (unhide HC).plen)))))
  clear hO9 H7
  go_wp2_with fail
  refine ((unhide HT).chk _ _ _ kk (unhide H9).2.2.1 (unhide H9).2.2.2.2 (unhide H9).2.2.2.1 hkk).mono ?_
  rintro e wA ⟨rfl, hFA⟩
  have HA := hide (And.intro ((unhide HC).fr _ _ _ (unhide H9).1 hFA) (And.intro ((unhide HC).fr _ _ _ (unhide H9).2.1 hFA) (And.intro ((unhide H9).2.2.1.trans hFA (fun _ _ h => h)) ((unhide H9).2.2.2.1.fr0 hFA))))
  clear hFA H9
  go_wp2_with fail
  refine ((unhide HT).sum _ (unhide HA).2.2.1).mono ?_
  rintro e wB ⟨mo9, mc9, rfl, hOB⟩
  have HB := hide (And.intro (hOB.sl2 (unhide HT).hmb (unhide HT).hml) hOB.fr)
  clear hOB
  go_wp2_with fail
  refine ((unhide HT).suo _ ((unhide HA).2.2.1.trans (unhide HB).2 (fun _ _ h => h))).mono ?_
  rintro e wC ⟨oo9, oc9, rfl, hOC⟩
  have HCc := hide (And.intro ((unhide HB).1.fr0 hOC.fr) (And.intro (hOC.sl2 (unhide HT).hob (unhide HT).hol) ((unhide HB).2.trans hOC.fr (fun _ _ h => h))))
  clear hOC HB
  go_wp2_with fail
  refine (gsame_D (unhide HCc).1 (unhide HCc).2.1 (by rw [(unhide HT).hml]; omega)).mono ?_
  rintro e wD ⟨rfl, hFD⟩
  have hAD : Fr (fun _ => False) wA wD := (unhide HCc).2.2.trans hFD (fun _ _ h => h)
  have HD := hide (And.intro ((unhide HC).fr _ _ _ (unhide HA).1 hAD) (And.intro ((unhide HC).fr _ _ _ (unhide HA).2.1 hAD) (And.intro ((unhide HA).2.2.1.trans hAD (fun _ _ h => h)) ((unhide HA).2.2.2.fr0 hAD))))
  clear hFD hAD HCc HA
  by_cases heq : HM = HO
  · rw [decide_eq_true heq]
    have HE := hide heq
    clear heq
    go_wp2_with fail
    refine ((unhide HC).pub _ _ (unhide HD).1).mono ?_
    rintro e wE ⟨qo, qc, rfl, hOE⟩
    have H9 := hide (And.intro ((unhide HC).fr _ _ _ (unhide HD).1 hOE.fr) (And.intro ((unhide HC).fr _ _ _ (unhide HD).2.1 hOE.fr) (And.intro ((unhide HD).2.2.1.trans hOE.fr (fun _ _ h => h)) (And.intro ((unhide HD).2.2.2.fr0 hOE.fr) (hOE.sl2 (unhide HC).pbyt (unhide HC).plen)))))
    clear hOE HD
    go_wp2_with fail
    refine ((unhide HT).cho (unhide HE) _ _ _ kk (unhide H9).2.2.1 (unhide H9).2.2.2.2 (unhide H9).2.2.2.1 hkk).mono ?_
    rintro e wF ⟨rfl, hFF⟩
    have HL := hide (And.intro ((unhide HC).fr _ _ _ (unhide H9).1 hFF) (And.intro ((unhide HC).fr _ _ _ (unhide H9).2.1 hFF) ((unhide H9).2.2.1.trans hFF (fun _ _ h => h))))
    clear hFF H9
    go_wp2_with fail
    have hL0 : LV wF wF none 0 [] (LS 0) := (unhide HLS).2 ▸ LV.nil _
    have HL0 := hide hL0
    clear hL0
    go_loopw [21, 22] (fun v iv wr => ∃ (i : Nat) (ao : Option Addr) (cp : Nat) (us : List Value), i ≤ N ∧ iv = .int .i64 (i : Nat) ∧ v = .slice ao i cp ∧ us.length = i ∧ LV wF wr ao cp us (LS i)) (fun _ iv _ => N - (intOf iv).toNat)
    case atStart => exact ⟨0, none, 0, [], Nat.zero_le _, rfl, rfl, rfl, unhide HL0⟩
    case round =>
      obtain ⟨i, ao, cp, us, hi, rfl, rfl, hus, hI⟩ := hrel
      have hky := (unhide HC).fr _ _ _ (unhide HL).1 hI.own.fr
      by_cases hlt : i < N
      · have hlt' : (i : Int) < (N : Int) := by omega
        have HI := hide (And.intro hky (And.intro hus hI))
        clear hky hus hI
        go_wp2_with fail
        refine ((unhide HC).len _ _ (unhide HI).1).mono ?_
        rintro e wG ⟨rfl, rfl⟩
        go_wp2_with fail
        refine ((unhide HC).leaf _ _ i (unhide HI).1 hlt).mono ?_
        rintro e wJ ⟨zo, rfl, hOJ⟩
        obtain ⟨ao', cp', w3, hr3, hL3⟩ := (unhide HI).2.2.step (LF i) zo 2 hOJ ((unhide HC).lbyt i) (by rw [(unhide HI).2.1]; omega)
        rw [← (unhide HLS).1] at hL3
        rw [(unhide HI).2.1, (unhide HC).llen] at hr3
        have HR := hide (And.intro hr3 hL3)
        clear hr3 hL3 hOJ
        go_wp2_with (at_builtin; refine wpList_app rfl _ _ 40 40 rfl _ _ _ rfl rfl (unhide HR).1 ?_)
        exact ⟨⟨i + 1, ao', cp', _, by omega, by go_num, rfl, by rw [List.length_append, (unhide HI).2.1]; rfl, (unhide HR).2⟩, by simp [intOf]; omega⟩
      · have hlt' : ¬ (i : Int) < (N : Int) := by omega
        have hiN : i = N := by omega
        have hpc := hI.pcs
        have hcp : i ≤ cp := by
          rcases hI.own.own.2 with ⟨e, e2⟩ | ⟨g, cap, cur, e, _, _, h3, _⟩
          · omega
          · simp only [Value.slice.injEq, true_and] at e
            rw [e.2, ← hus]; exact h3
        rw [hus, hiN] at hpc
        rw [hiN] at hcp
        have hfr := (unhide HL).2.2.trans hI.own.fr (fun _ _ h => h)
        have hky2 := (unhide HC).fr _ _ _ (unhide HL).2.1 hI.own.fr
        have HI := hide (And.intro hky (And.intro hky2 (And.intro hpc (And.intro hcp hfr))))
        clear hky hky2 hpc hcp hfr hI hus
        subst hiN
        go_wp2_with fail
        refine ((unhide HC).len _ _ (unhide HI).1).mono ?_
        rintro e wG ⟨rfl, rfl⟩
        go_wp2_with fail
        refine ((unhide HT).of _ _ us (unhide HI).2.2.2.2 (unhide HI).2.2.1 (fun _ _ _ e => by cases e; exact (unhide HI).2.2.2.1)).mono ?_
        rintro e wK ⟨fo, fc, rfl, hSK, hFK⟩
        have HK := hide (And.intro hSK (And.intro ((unhide HC).fr _ _ _ (unhide HI).1 hFK) (And.intro ((unhide HC).fr _ _ _ (unhide HI).2.1 hFK) ((unhide HI).2.2.2.2.trans hFK (fun _ _ h => h)))))
        clear hSK hFK
        go_wp2_with fail
        refine ((unhide HC).pub _ _ (unhide HK).2.1).mono ?_
        rintro e wM ⟨qo1, qc1, rfl, hOM⟩
        have HM1 := hide (And.intro ((unhide HK).1.fr0 hOM.fr) (And.intro (hOM.sl2 (unhide HC).pbyt (unhide HC).plen) (And.intro ((unhide HC).fr _ _ _ (unhide HK).2.1 hOM.fr) (And.intro ((unhide HC).fr _ _ _ (unhide HK).2.2.1 hOM.fr) ((unhide HK).2.2.2.trans hOM.fr (fun _ _ h => h))))))
        clear hOM HK
        go_wp2_with fail
        refine (same_T (unhide HM1).1.s (unhide HM1).2.1.s (by rw [(unhide HC).plen]; omega) (sameB_refl _)).mono ?_
        rintro e wN ⟨rfl, hFN⟩
        have HN1 := hide (And.intro ((unhide HC).fr _ _ _ (unhide HM1).2.2.1 hFN) (And.intro ((unhide HC).fr _ _ _ (unhide HM1).2.2.2.1 hFN) ((unhide HM1).2.2.2.2.trans hFN (fun _ _ h => h))))
        clear hFN HM1
        go_wp2_with fail
        refine ((unhide HC).pub _ _ (unhide HN1).1).mono ?_
        rintro e wO ⟨qo2, qc2, rfl, hOO⟩
        have HO1 := hide (And.intro (hOO.sl2 (unhide HC).pbyt (unhide HC).plen) (And.intro ((unhide HC).fr _ _ _ (unhide HN1).2.1 hOO.fr) ((unhide HN1).2.2.trans hOO.fr (fun _ _ h => h))))
        clear hOO HN1
        go_wp2_with fail
        refine ((unhide HC).pub _ _ (unhide HO1).2.1).mono ?_
        rintro e wP ⟨qo3, qc3, rfl, hOP⟩
        have HP1 := hide (And.intro ((unhide HO1).1.fr0 hOP.fr) (And.intro (hOP.sl2 (unhide HC).pbyt (unhide HC).plen) ((unhide HO1).2.2.trans hOP.fr (fun _ _ h => h))))
        clear hOP HO1
        go_wp2_with fail
        refine (same_T (unhide HP1).1.s (unhide HP1).2.1.s (by rw [(unhide HC).plen]; omega) (sameB_refl _)).mono ?_
        rintro e wQ ⟨rfl, hFQ⟩
        have HQ1 := hide ((unhide HP1).2.2.trans hFQ (fun _ _ h => h))
        clear hFQ HP1
        go_wp2_with fail
        go_ret
        exact ⟨rfl, unhide HQ1⟩
  · rw [decide_eq_false heq]
    have HL := hide (And.intro (unhide HD).1 (And.intro (unhide HD).2.1 (unhide HD).2.2.1))
    clear heq HD
    go_wp2_with fail
    have hL0 : LV wD wD none 0 [] (LS 0) := (unhide HLS).2 ▸ LV.nil _
    have HL0 := hide hL0
    clear hL0
    go_loopw [21, 22] (fun v iv wr => ∃ (i : Nat) (ao : Option Addr) (cp : Nat) (us : List Value), i ≤ N ∧ iv = .int .i64 (i : Nat) ∧ v = .slice ao i cp ∧ us.length = i ∧ LV wD wr ao cp us (LS i)) (fun _ iv _ => N - (intOf iv).toNat)
    case atStart => exact ⟨0, none, 0, [], Nat.zero_le _, rfl, rfl, rfl, unhide HL0⟩
    case round =>
      obtain ⟨i, ao, cp, us, hi, rfl, rfl, hus, hI⟩ := hrel
      have hky := (unhide HC).fr _ _ _ (unhide HL).1 hI.own.fr
      by_cases hlt : i < N
      · have hlt' : (i : Int) < (N : Int) := by omega
        have HI := hide (And.intro hky (And.intro hus hI))
        clear hky hus hI
        go_wp2_with fail
        refine ((unhide HC).len _ _ (unhide HI).1).mono ?_
        rintro e wG ⟨rfl, rfl⟩
        go_wp2_with fail
        refine ((unhide HC).leaf _ _ i (unhide HI).1 hlt).mono ?_
        rintro e wJ ⟨zo, rfl, hOJ⟩
        obtain ⟨ao', cp', w3, hr3, hL3⟩ := (unhide HI).2.2.step (LF i) zo 2 hOJ ((unhide HC).lbyt i) (by rw [(unhide HI).2.1]; omega)
        rw [← (unhide HLS).1] at hL3
        rw [(unhide HI).2.1, (unhide HC).llen] at hr3
        have HR := hide (And.intro hr3 hL3)
        clear hr3 hL3 hOJ
        go_wp2_with (at_builtin; refine wpList_app rfl _ _ 40 40 rfl _ _ _ rfl rfl (unhide HR).1 ?_)
        exact ⟨⟨i + 1, ao', cp', _, by omega, by go_num, rfl, by rw [List.length_append, (unhide HI).2.1]; rfl, (unhide HR).2⟩, by simp [intOf]; omega⟩
      · have hlt' : ¬ (i : Int) < (N : Int) := by omega
        have hiN : i = N := by omega
        have hpc := hI.pcs
        have hcp : i ≤ cp := by
          rcases hI.own.own.2 with ⟨e, e2⟩ | ⟨g, cap, cur, e, _, _, h3, _⟩
          · omega
          · simp only [Value.slice.injEq, true_and] at e
            rw [e.2, ← hus]; exact h3
        rw [hus, hiN] at hpc
        rw [hiN] at hcp
        have hfr := (unhide HL).2.2.trans hI.own.fr (fun _ _ h => h)
        have hky2 := (unhide HC).fr _ _ _ (unhide HL).2.1 hI.own.fr
        have HI := hide (And.intro hky (And.intro hky2 (And.intro hpc (And.intro hcp hfr))))
        clear hky hky2 hpc hcp hfr hI hus
        subst hiN
        go_wp2_with fail
        refine ((unhide HC).len _ _ (unhide HI).1).mono ?_
        rintro e wG ⟨rfl, rfl⟩
        go_wp2_with fail
        refine ((unhide HT).of _ _ us (unhide HI).2.2.2.2 (unhide HI).2.2.1 (fun _ _ _ e => by cases e; exact (unhide HI).2.2.2.1)).mono ?_
        rintro e wK ⟨fo, fc, rfl, hSK, hFK⟩
        have HK := hide (And.intro hSK (And.intro ((unhide HC).fr _ _ _ (unhide HI).1 hFK) (And.intro ((unhide HC).fr _ _ _ (unhide HI).2.1 hFK) ((unhide HI).2.2.2.2.trans hFK (fun _ _ h => h)))))
        clear hSK hFK
        go_wp2_with fail
        refine ((unhide HC).pub _ _ (unhide HK).2.1).mono ?_
        rintro e wM ⟨qo1, qc1, rfl, hOM⟩
        have HM1 := hide (And.intro ((unhide HK).1.fr0 hOM.fr) (And.intro (hOM.sl2 (unhide HC).pbyt (unhide HC).plen) (And.intro ((unhide HC).fr _ _ _ (unhide HK).2.1 hOM.fr) (And.intro ((unhide HC).fr _ _ _ (unhide HK).2.2.1 hOM.fr) ((unhide HK).2.2.2.trans hOM.fr (fun _ _ h => h))))))
        clear hOM HK
        go_wp2_with fail
        refine (same_T (unhide HM1).1.s (unhide HM1).2.1.s (by rw [(unhide HC).plen]; omega) (sameB_refl _)).mono ?_
        rintro e wN ⟨rfl, hFN⟩
        have HN1 := hide (And.intro ((unhide HC).fr _ _ _ (unhide HM1).2.2.1 hFN) (And.intro ((unhide HC).fr _ _ _ (unhide HM1).2.2.2.1 hFN) ((unhide HM1).2.2.2.2.trans hFN (fun _ _ h => h))))
        clear hFN HM1
        go_wp2_with fail
        refine ((unhide HC).pub _ _ (unhide HN1).1).mono ?_
        rintro e wO ⟨qo2, qc2, rfl, hOO⟩
        have HO1 := hide (And.intro (hOO.sl2 (unhide HC).pbyt (unhide HC).plen) (And.intro ((unhide HC).fr _ _ _ (unhide HN1).2.1 hOO.fr) ((unhide HN1).2.2.trans hOO.fr (fun _ _ h => h))))
        clear hOO HN1
        go_wp2_with fail
        refine ((unhide HC).pub _ _ (unhide HO1).2.1).mono ?_
        rintro e wP ⟨qo3, qc3, rfl, hOP⟩
        have HP1 := hide (And.intro ((unhide HO1).1.fr0 hOP.fr) (And.intro (hOP.sl2 (unhide HC).pbyt (unhide HC).plen) ((unhide HO1).2.2.trans hOP.fr (fun _ _ h => h))))
        clear hOP HO1
        go_wp2_with fail
        refine (same_T (unhide HP1).1.s (unhide HP1).2.1.s (by rw [(unhide HC).plen]; omega) (sameB_refl _)).mono ?_
        rintro e wQ ⟨rfl, hFQ⟩
        have HQ1 := hide ((unhide HP1).2.2.trans hFQ (fun _ _ h => h))
        clear hFQ HP1
        go_wp2_with fail
        go_ret
        exact ⟨rfl, unhide HQ1⟩
end Go.Proofs.YtjokmlnghpnlbaaDoor

namespace Go.Proofs.YtjokmlnghpnlbaaDoor
open Go.RowKit

set_option maxRecDepth 100000 in
set_option maxHeartbeats 1000000 in
theorem ltaken_Cneg (v t : Nat) (hw32 : v ≤ 32) (hH : t ≤ 6) (hp : 8 < v) (hp2 : 2 < t) (K : Int) (hK : K < 0) (x mv ov : Value) (seed m ot : List Nat) (w : World) (hg : GS w) (hr : GR w) (ht : GT w) (hx : Sl w x seed) (hm : Sl w mv m) (ho : Sl w ov ot) (hs : seed.length ≤ 2000000) (hml : m.length ≤ 2000000) (hol : ot.length ≤ 2000000) :
    Calls Tryd.prog 7 #[.int .i64 v, .int .i64 t, x, .int .i64 K, mv, ov] w fun e w' => e = .returned (.bool true) ∧ Fr (fun _ => False) w w' := by
  have hN64 : 2 ^ 2 ≤ 64 := by decide
  have hN1 : 1 ≤ 2 ^ 2 := by decide
  have HC := hide (c5_of 2 2 (by decide) (by decide) (by decide) x mv seed m w hg ht hx (by omega) hm (by omega))
  have HT := hide (t5_of 2 2 (by decide) (by decide) (by decide) mv ov seed m ot w hg hr hm (by omega) ho (by omega))
  have hmay := fun w' => g5may_any v t w'
  rw [decide_eq_true (by omega)] at hmay
  obtain ⟨xo, xc, rfl⟩ := hx.form
  obtain ⟨mo, mc, rfl⟩ := hm.form
  obtain ⟨oo, oc, rfl⟩ := ho.form
  have hS9 : 16 * 2 * 2 + 2 * 2 ≤ 140737488355328 := by decide
  have hls : ∀ n, lvs 2 seed (n + 1) = lvs 2 seed n ++ [(fun K => lf ((2 : Nat) : Int) (eN 2 seed K)) n] := lvs_succ 2 seed
  have hl0 : lvs 2 seed 0 = [] := rfl
  generalize Ky5 2 2 seed = KY at *
  generalize 16 * 2 * 2 + 2 * 2 = SZ at *
  generalize mth ((2 : Nat) : Int) (lvs 2 seed (2 ^ 2)) = PB at *
  generalize 2 ^ 2 = N at *
  generalize (fun K => sig 2 2 K seed (sm (2 : Nat) m)) = SG at *
  generalize (fun K => lf ((2 : Nat) : Int) (eN 2 seed K)) = LF at *
  generalize lvs 2 seed = LS at *
  generalize sm ((2 : Nat) : Int) m = HM at *
  generalize sm ((2 : Nat) : Int) ot = HO at *
  have HY := hide hmay
  have HZ := hide hS9
  have HLS := hide (And.intro hls hl0)
  clear hmay hx hm ho hg hr ht hS9 hls hl0
  generalize seed.length = SN at *
  generalize m.length = ML at *
  generalize ot.length = OL at *
  have hkk : 0 < N := by omega
  have hp' : (8 : Int) < (v : Int) := by omega
  have hp2' : (2 : Int) < (t : Int) := by omega
  go_enter Tryd.func7, Tryd.ntmps7
  go_wp2_with fail
  refine ((unhide HY) _).mono ?_
  rintro e w0 ⟨rfl, rfl⟩
  go_wp2_with fail
  refine ((unhide HC).new _ (Fr.refl _ _)).mono ?_
  rintro e w1 ⟨kb, rfl, hk1, hF1⟩
  have H1 := hide (And.intro hk1 hF1)
  clear hk1 hF1
  go_wp2_with fail
  refine ((unhide HC).new _ (unhide H1).2).mono ?_
  rintro e w2 ⟨tb, rfl, hk2, hF2⟩
  have H2 := hide (And.intro ((unhide HC).fr _ _ _ (unhide H1).1 hF2) (And.intro hk2 ((unhide H1).2.trans hF2 (fun _ _ h => h))))
  clear hk2 hF2 H1
  go_wp2_with fail
  refine ((unhide HC).liv _ (unhide H2).2.2).mono ?_
  rintro e w3 ⟨rfl, hF3⟩
  have H3 := hide (And.intro ((unhide HC).fr _ _ _ (unhide H2).1 hF3) (And.intro ((unhide HC).fr _ _ _ (unhide H2).2.1 hF3) ((unhide H2).2.2.trans hF3 (fun _ _ h => h))))
  clear hF3 H2
  go_wp2_with fail
  refine ((unhide HC).sign _ _ 0 (unhide H3).1 (unhide H3).2.2 hkk).mono ?_
  rintro e w5 ⟨so, sc, rfl, hO5⟩
  have H5 := hide (And.intro ((unhide HC).fr _ _ _ (unhide H3).1 hO5.fr) (And.intro ((unhide HC).fr _ _ _ (unhide H3).2.1 hO5.fr) (And.intro ((unhide H3).2.2.trans hO5.fr (fun _ _ h => h)) (hO5.sl2 ((unhide HC).sbyt _) ((unhide HC).slen _ hkk)))))
  clear hO5 H3
  go_wp2_with fail
  refine ((unhide HC).sign _ _ 0 (unhide H5).2.1 (unhide H5).2.2.1 hkk).mono ?_
  rintro e w6 ⟨uo, uc, rfl, hO6⟩
  have H6 := hide (And.intro ((unhide HC).fr _ _ _ (unhide H5).1 hO6.fr) (And.intro ((unhide HC).fr _ _ _ (unhide H5).2.1 hO6.fr) (And.intro ((unhide H5).2.2.1.trans hO6.fr (fun _ _ h => h)) (And.intro ((unhide H5).2.2.2.fr0 hO6.fr) (hO6.sl2 ((unhide HC).sbyt _) ((unhide HC).slen _ hkk))))))
  clear hO6 H5
  go_wp2_with fail
  refine (same_T (unhide H6).2.2.2.1.s (unhide H6).2.2.2.2.s (by rw [(unhide HC).slen _ hkk]; exact unhide HZ) (sameB_refl _)).mono ?_
  rintro e w7 ⟨rfl, hF7⟩
  have H7 := hide (And.intro ((unhide HC).fr _ _ _ (unhide H6).1 hF7) (And.intro ((unhide HC).fr _ _ _ (unhide H6).2.1 hF7) (And.intro ((unhide H6).2.2.1.trans hF7 (fun _ _ h => h)) ((unhide H6).2.2.2.1.fr0 hF7))))
  clear hF7 H6
  go_wp2_with fail
  refine ((unhide HC).size _).mono ?_
  rintro e w8 ⟨rfl, rfl⟩
  go_wp2_with fail
  refine ((unhide HC).pub _ _ (unhide H7).1).mono ?_
  rintro e w9 ⟨po, pc, rfl, hO9⟩
  have H9 := hide (And.intro ((unhide HC).fr _ _ _ (unhide H7).1 hO9.fr) (And.intro ((unhide HC).fr _ _ _ (unhide H7).2.1 hO9.fr) (And.intro ((unhide H7).2.2.1.trans hO9.fr (fun _ _ h => h)) (And.intro ((unhide H7).2.2.2.fr0 hO9.fr) (hO9.sl2 (unhide HC).pbyt (unhide HC).plen)))))
  clear hO9 H7
  go_wp2_with fail
  refine ((unhide HT).chk _ _ _ 0 (unhide H9).2.2.1 (unhide H9).2.2.2.2 (unhide H9).2.2.2.1 hkk).mono ?_
  rintro e wA ⟨rfl, hFA⟩
  have HA := hide (And.intro ((unhide HC).fr _ _ _ (unhide H9).1 hFA) (And.intro ((unhide HC).fr _ _ _ (unhide H9).2.1 hFA) (And.intro ((unhide H9).2.2.1.trans hFA (fun _ _ h => h)) ((unhide H9).2.2.2.1.fr0 hFA))))
  clear hFA H9
  go_wp2_with fail
  refine ((unhide HT).sum _ (unhide HA).2.2.1).mono ?_
  rintro e wB ⟨mo9, mc9, rfl, hOB⟩
  have HB := hide (And.intro (hOB.sl2 (unhide HT).hmb (unhide HT).hml) hOB.fr)
  clear hOB
  go_wp2_with fail
  refine ((unhide HT).suo _ ((unhide HA).2.2.1.trans (unhide HB).2 (fun _ _ h => h))).mono ?_
  rintro e wC ⟨oo9, oc9, rfl, hOC⟩
  have HCc := hide (And.intro ((unhide HB).1.fr0 hOC.fr) (And.intro (hOC.sl2 (unhide HT).hob (unhide HT).hol) ((unhide HB).2.trans hOC.fr (fun _ _ h => h))))
  clear hOC HB
  go_wp2_with fail
  refine (gsame_D (unhide HCc).1 (unhide HCc).2.1 (by rw [(unhide HT).hml]; omega)).mono ?_
  rintro e wD ⟨rfl, hFD⟩
  have hAD : Fr (fun _ => False) wA wD := (unhide HCc).2.2.trans hFD (fun _ _ h => h)
  have HD := hide (And.intro ((unhide HC).fr _ _ _ (unhide HA).1 hAD) (And.intro ((unhide HC).fr _ _ _ (unhide HA).2.1 hAD) (And.intro ((unhide HA).2.2.1.trans hAD (fun _ _ h => h)) ((unhide HA).2.2.2.fr0 hAD))))
  clear hFD hAD HCc HA
  by_cases heq : HM = HO
  · rw [decide_eq_true heq]
    have HE := hide heq
    clear heq
    go_wp2_with fail
    refine ((unhide HC).pub _ _ (unhide HD).1).mono ?_
    rintro e wE ⟨qo, qc, rfl, hOE⟩
    have H9 := hide (And.intro ((unhide HC).fr _ _ _ (unhide HD).1 hOE.fr) (And.intro ((unhide HC).fr _ _ _ (unhide HD).2.1 hOE.fr) (And.intro ((unhide HD).2.2.1.trans hOE.fr (fun _ _ h => h)) (And.intro ((unhide HD).2.2.2.fr0 hOE.fr) (hOE.sl2 (unhide HC).pbyt (unhide HC).plen)))))
    clear hOE HD
    go_wp2_with fail
    refine ((unhide HT).cho (unhide HE) _ _ _ 0 (unhide H9).2.2.1 (unhide H9).2.2.2.2 (unhide H9).2.2.2.1 hkk).mono ?_
    rintro e wF ⟨rfl, hFF⟩
    have HL := hide (And.intro ((unhide HC).fr _ _ _ (unhide H9).1 hFF) (And.intro ((unhide HC).fr _ _ _ (unhide H9).2.1 hFF) ((unhide H9).2.2.1.trans hFF (fun _ _ h => h))))
    clear hFF H9
    go_wp2_with fail
    have hL0 : LV wF wF none 0 [] (LS 0) := (unhide HLS).2 ▸ LV.nil _
    have HL0 := hide hL0
    clear hL0
    go_loopw [21, 22] (fun v iv wr => ∃ (i : Nat) (ao : Option Addr) (cp : Nat) (us : List Value), i ≤ N ∧ iv = .int .i64 (i : Nat) ∧ v = .slice ao i cp ∧ us.length = i ∧ LV wF wr ao cp us (LS i)) (fun _ iv _ => N - (intOf iv).toNat)
    case atStart => exact ⟨0, none, 0, [], Nat.zero_le _, rfl, rfl, rfl, unhide HL0⟩
    case round =>
      obtain ⟨i, ao, cp, us, hi, rfl, rfl, hus, hI⟩ := hrel
      have hky := (unhide HC).fr _ _ _ (unhide HL).1 hI.own.fr
      by_cases hlt : i < N
      · have hlt' : (i : Int) < (N : Int) := by omega
        have HI := hide (And.intro hky (And.intro hus hI))
        clear hky hus hI
        go_wp2_with fail
        refine ((unhide HC).len _ _ (unhide HI).1).mono ?_
        rintro e wG ⟨rfl, rfl⟩
        go_wp2_with fail
        refine ((unhide HC).leaf _ _ i (unhide HI).1 hlt).mono ?_
        rintro e wJ ⟨zo, rfl, hOJ⟩
        obtain ⟨ao', cp', w3, hr3, hL3⟩ := (unhide HI).2.2.step (LF i) zo 2 hOJ ((unhide HC).lbyt i) (by rw [(unhide HI).2.1]; omega)
        rw [← (unhide HLS).1] at hL3
        rw [(unhide HI).2.1, (unhide HC).llen] at hr3
        have HR := hide (And.intro hr3 hL3)
        clear hr3 hL3 hOJ
        go_wp2_with (at_builtin; refine wpList_app rfl _ _ 40 40 rfl _ _ _ rfl rfl (unhide HR).1 ?_)
        exact ⟨⟨i + 1, ao', cp', _, by omega, by go_num, rfl, by rw [List.length_append, (unhide HI).2.1]; rfl, (unhide HR).2⟩, by simp [intOf]; omega⟩
      · have hlt' : ¬ (i : Int) < (N : Int) := by omega
        have hiN : i = N := by omega
        have hpc := hI.pcs
        have hcp : i ≤ cp := by
          rcases hI.own.own.2 with ⟨e, e2⟩ | ⟨g, cap, cur, e, _, _, h3, _⟩
          · omega
          · simp only [Value.slice.injEq, true_and] at e
            rw [e.2, ← hus]; exact h3
        rw [hus, hiN] at hpc
        rw [hiN] at hcp
        have hfr := (unhide HL).2.2.trans hI.own.fr (fun _ _ h => h)
        have hky2 := (unhide HC).fr _ _ _ (unhide HL).2.1 hI.own.fr
        have HI := hide (And.intro hky (And.intro hky2 (And.intro hpc (And.intro hcp hfr))))
        clear hky hky2 hpc hcp hfr hI hus
        subst hiN
        go_wp2_with fail
        refine ((unhide HC).len _ _ (unhide HI).1).mono ?_
        rintro e wG ⟨rfl, rfl⟩
        go_wp2_with fail
        refine ((unhide HT).of _ _ us (unhide HI).2.2.2.2 (unhide HI).2.2.1 (fun _ _ _ e => by cases e; exact (unhide HI).2.2.2.1)).mono ?_
        rintro e wK ⟨fo, fc, rfl, hSK, hFK⟩
        have HK := hide (And.intro hSK (And.intro ((unhide HC).fr _ _ _ (unhide HI).1 hFK) (And.intro ((unhide HC).fr _ _ _ (unhide HI).2.1 hFK) ((unhide HI).2.2.2.2.trans hFK (fun _ _ h => h)))))
        clear hSK hFK
        go_wp2_with fail
        refine ((unhide HC).pub _ _ (unhide HK).2.1).mono ?_
        rintro e wM ⟨qo1, qc1, rfl, hOM⟩
        have HM1 := hide (And.intro ((unhide HK).1.fr0 hOM.fr) (And.intro (hOM.sl2 (unhide HC).pbyt (unhide HC).plen) (And.intro ((unhide HC).fr _ _ _ (unhide HK).2.1 hOM.fr) (And.intro ((unhide HC).fr _ _ _ (unhide HK).2.2.1 hOM.fr) ((unhide HK).2.2.2.trans hOM.fr (fun _ _ h => h))))))
        clear hOM HK
        go_wp2_with fail
        refine (same_T (unhide HM1).1.s (unhide HM1).2.1.s (by rw [(unhide HC).plen]; omega) (sameB_refl _)).mono ?_
        rintro e wN ⟨rfl, hFN⟩
        have HN1 := hide (And.intro ((unhide HC).fr _ _ _ (unhide HM1).2.2.1 hFN) (And.intro ((unhide HC).fr _ _ _ (unhide HM1).2.2.2.1 hFN) ((unhide HM1).2.2.2.2.trans hFN (fun _ _ h => h))))
        clear hFN HM1
        go_wp2_with fail
        refine ((unhide HC).pub _ _ (unhide HN1).1).mono ?_
        rintro e wO ⟨qo2, qc2, rfl, hOO⟩
        have HO1 := hide (And.intro (hOO.sl2 (unhide HC).pbyt (unhide HC).plen) (And.intro ((unhide HC).fr _ _ _ (unhide HN1).2.1 hOO.fr) ((unhide HN1).2.2.trans hOO.fr (fun _ _ h => h))))
        clear hOO HN1
        go_wp2_with fail
        refine ((unhide HC).pub _ _ (unhide HO1).2.1).mono ?_
        rintro e wP ⟨qo3, qc3, rfl, hOP⟩
        have HP1 := hide (And.intro ((unhide HO1).1.fr0 hOP.fr) (And.intro (hOP.sl2 (unhide HC).pbyt (unhide HC).plen) ((unhide HO1).2.2.trans hOP.fr (fun _ _ h => h))))
        clear hOP HO1
        go_wp2_with fail
        refine (same_T (unhide HP1).1.s (unhide HP1).2.1.s (by rw [(unhide HC).plen]; omega) (sameB_refl _)).mono ?_
        rintro e wQ ⟨rfl, hFQ⟩
        have HQ1 := hide ((unhide HP1).2.2.trans hFQ (fun _ _ h => h))
        clear hFQ HP1
        go_wp2_with fail
        go_ret
        exact ⟨rfl, unhide HQ1⟩
  · rw [decide_eq_false heq]
    have HL := hide (And.intro (unhide HD).1 (And.intro (unhide HD).2.1 (unhide HD).2.2.1))
    clear heq HD
    go_wp2_with fail
    have hL0 : LV wD wD none 0 [] (LS 0) := (unhide HLS).2 ▸ LV.nil _
    have HL0 := hide hL0
    clear hL0
    go_loopw [21, 22] (fun v iv wr => ∃ (i : Nat) (ao : Option Addr) (cp : Nat) (us : List Value), i ≤ N ∧ iv = .int .i64 (i : Nat) ∧ v = .slice ao i cp ∧ us.length = i ∧ LV wD wr ao cp us (LS i)) (fun _ iv _ => N - (intOf iv).toNat)
    case atStart => exact ⟨0, none, 0, [], Nat.zero_le _, rfl, rfl, rfl, unhide HL0⟩
    case round =>
      obtain ⟨i, ao, cp, us, hi, rfl, rfl, hus, hI⟩ := hrel
      have hky := (unhide HC).fr _ _ _ (unhide HL).1 hI.own.fr
      by_cases hlt : i < N
      · have hlt' : (i : Int) < (N : Int) := by omega
        have HI := hide (And.intro hky (And.intro hus hI))
        clear hky hus hI
        go_wp2_with fail
        refine ((unhide HC).len _ _ (unhide HI).1).mono ?_
        rintro e wG ⟨rfl, rfl⟩
        go_wp2_with fail
        refine ((unhide HC).leaf _ _ i (unhide HI).1 hlt).mono ?_
        rintro e wJ ⟨zo, rfl, hOJ⟩
        obtain ⟨ao', cp', w3, hr3, hL3⟩ := (unhide HI).2.2.step (LF i) zo 2 hOJ ((unhide HC).lbyt i) (by rw [(unhide HI).2.1]; omega)
        rw [← (unhide HLS).1] at hL3
        rw [(unhide HI).2.1, (unhide HC).llen] at hr3
        have HR := hide (And.intro hr3 hL3)
        clear hr3 hL3 hOJ
        go_wp2_with (at_builtin; refine wpList_app rfl _ _ 40 40 rfl _ _ _ rfl rfl (unhide HR).1 ?_)
        exact ⟨⟨i + 1, ao', cp', _, by omega, by go_num, rfl, by rw [List.length_append, (unhide HI).2.1]; rfl, (unhide HR).2⟩, by simp [intOf]; omega⟩
      · have hlt' : ¬ (i : Int) < (N : Int) := by omega
        have hiN : i = N := by omega
        have hpc := hI.pcs
        have hcp : i ≤ cp := by
          rcases hI.own.own.2 with ⟨e, e2⟩ | ⟨g, cap, cur, e, _, _, h3, _⟩
          · omega
          · simp only [Value.slice.injEq, true_and] at e
            rw [e.2, ← hus]; exact h3
        rw [hus, hiN] at hpc
        rw [hiN] at hcp
        have hfr := (unhide HL).2.2.trans hI.own.fr (fun _ _ h => h)
        have hky2 := (unhide HC).fr _ _ _ (unhide HL).2.1 hI.own.fr
        have HI := hide (And.intro hky (And.intro hky2 (And.intro hpc (And.intro hcp hfr))))
        clear hky hky2 hpc hcp hfr hI hus
        subst hiN
        go_wp2_with fail
        refine ((unhide HC).len _ _ (unhide HI).1).mono ?_
        rintro e wG ⟨rfl, rfl⟩
        go_wp2_with fail
        refine ((unhide HT).of _ _ us (unhide HI).2.2.2.2 (unhide HI).2.2.1 (fun _ _ _ e => by cases e; exact (unhide HI).2.2.2.1)).mono ?_
        rintro e wK ⟨fo, fc, rfl, hSK, hFK⟩
        have HK := hide (And.intro hSK (And.intro ((unhide HC).fr _ _ _ (unhide HI).1 hFK) (And.intro ((unhide HC).fr _ _ _ (unhide HI).2.1 hFK) ((unhide HI).2.2.2.2.trans hFK (fun _ _ h => h)))))
        clear hSK hFK
        go_wp2_with fail
        refine ((unhide HC).pub _ _ (unhide HK).2.1).mono ?_
        rintro e wM ⟨qo1, qc1, rfl, hOM⟩
        have HM1 := hide (And.intro ((unhide HK).1.fr0 hOM.fr) (And.intro (hOM.sl2 (unhide HC).pbyt (unhide HC).plen) (And.intro ((unhide HC).fr _ _ _ (unhide HK).2.1 hOM.fr) (And.intro ((unhide HC).fr _ _ _ (unhide HK).2.2.1 hOM.fr) ((unhide HK).2.2.2.trans hOM.fr (fun _ _ h => h))))))
        clear hOM HK
        go_wp2_with fail
        refine (same_T (unhide HM1).1.s (unhide HM1).2.1.s (by rw [(unhide HC).plen]; omega) (sameB_refl _)).mono ?_
        rintro e wN ⟨rfl, hFN⟩
        have HN1 := hide (And.intro ((unhide HC).fr _ _ _ (unhide HM1).2.2.1 hFN) (And.intro ((unhide HC).fr _ _ _ (unhide HM1).2.2.2.1 hFN) ((unhide HM1).2.2.2.2.trans hFN (fun _ _ h => h))))
        clear hFN HM1
        go_wp2_with fail
        refine ((unhide HC).pub _ _ (unhide HN1).1).mono ?_
        rintro e wO ⟨qo2, qc2, rfl, hOO⟩
        have HO1 := hide (And.intro (hOO.sl2 (unhide HC).pbyt (unhide HC).plen) (And.intro ((unhide HC).fr _ _ _ (unhide HN1).2.1 hOO.fr) ((unhide HN1).2.2.trans hOO.fr (fun _ _ h => h))))
        clear hOO HN1
        go_wp2_with fail
        refine ((unhide HC).pub _ _ (unhide HO1).2.1).mono ?_
        rintro e wP ⟨qo3, qc3, rfl, hOP⟩
        have HP1 := hide (And.intro ((unhide HO1).1.fr0 hOP.fr) (And.intro (hOP.sl2 (unhide HC).pbyt (unhide HC).plen) ((unhide HO1).2.2.trans hOP.fr (fun _ _ h => h))))
        clear hOP HO1
        go_wp2_with fail
        refine (same_T (unhide HP1).1.s (unhide HP1).2.1.s (by rw [(unhide HC).plen]; omega) (sameB_refl _)).mono ?_
        rintro e wQ ⟨rfl, hFQ⟩
        have HQ1 := hide ((unhide HP1).2.2.trans hFQ (fun _ _ h => h))
        clear hFQ HP1
        go_wp2_with fail
        go_ret
        exact ⟨rfl, unhide HQ1⟩
end Go.Proofs.YtjokmlnghpnlbaaDoor

namespace Go.Proofs.YtjokmlnghpnlbaaDoor
open Go.RowKit

set_option maxRecDepth 100000 in
set_option maxHeartbeats 1000000 in
theorem ltaken_Cbig (v t : Nat) (hw32 : v ≤ 32) (hH : t ≤ 6) (hp : 8 < v) (hp2 : 2 < t) (K : Int) (hK : ((2 ^ 2 : Nat) : Int) ≤ K) (x mv ov : Value) (seed m ot : List Nat) (w : World) (hg : GS w) (hr : GR w) (ht : GT w) (hx : Sl w x seed) (hm : Sl w mv m) (ho : Sl w ov ot) (hs : seed.length ≤ 2000000) (hml : m.length ≤ 2000000) (hol : ot.length ≤ 2000000) :
    Calls Tryd.prog 7 #[.int .i64 v, .int .i64 t, x, .int .i64 K, mv, ov] w fun e w' => e = .returned (.bool true) ∧ Fr (fun _ => False) w w' := by
  have hN64 : 2 ^ 2 ≤ 64 := by decide
  have hN1 : 1 ≤ 2 ^ 2 := by decide
  have HC := hide (c5_of 2 2 (by decide) (by decide) (by decide) x mv seed m w hg ht hx (by omega) hm (by omega))
  have HT := hide (t5_of 2 2 (by decide) (by decide) (by decide) mv ov seed m ot w hg hr hm (by omega) ho (by omega))
  have hmay := fun w' => g5may_any v t w'
  rw [decide_eq_true (by omega)] at hmay
  obtain ⟨xo, xc, rfl⟩ := hx.form
  obtain ⟨mo, mc, rfl⟩ := hm.form
  obtain ⟨oo, oc, rfl⟩ := ho.form
  have hS9 : 16 * 2 * 2 + 2 * 2 ≤ 140737488355328 := by decide
  have hls : ∀ n, lvs 2 seed (n + 1) = lvs 2 seed n ++ [(fun K => lf ((2 : Nat) : Int) (eN 2 seed K)) n] := lvs_succ 2 seed
  have hl0 : lvs 2 seed 0 = [] := rfl
  generalize Ky5 2 2 seed = KY at *
  generalize 16 * 2 * 2 + 2 * 2 = SZ at *
  generalize mth ((2 : Nat) : Int) (lvs 2 seed (2 ^ 2)) = PB at *
  generalize 2 ^ 2 = N at *
  generalize (fun K => sig 2 2 K seed (sm (2 : Nat) m)) = SG at *
  generalize (fun K => lf ((2 : Nat) : Int) (eN 2 seed K)) = LF at *
  generalize lvs 2 seed = LS at *
  generalize sm ((2 : Nat) : Int) m = HM at *
  generalize sm ((2 : Nat) : Int) ot = HO at *
  have HY := hide hmay
  have HZ := hide hS9
  have HLS := hide (And.intro hls hl0)
  clear hmay hx hm ho hg hr ht hS9 hls hl0
  generalize seed.length = SN at *
  generalize m.length = ML at *
  generalize ot.length = OL at *
  have hkk : 0 < N := by omega
  have hp' : (8 : Int) < (v : Int) := by omega
  have hp2' : (2 : Int) < (t : Int) := by omega
  have hk1 : ¬ K < 0 := by omega
  go_enter Tryd.func7, Tryd.ntmps7
  go_wp2_with fail
  refine ((unhide HY) _).mono ?_
  rintro e w0 ⟨rfl, rfl⟩
  go_wp2_with fail
  refine ((unhide HC).new _ (Fr.refl _ _)).mono ?_
  rintro e w1 ⟨kb, rfl, hk1, hF1⟩
  have H1 := hide (And.intro hk1 hF1)
  clear hk1 hF1
  go_wp2_with fail
  refine ((unhide HC).new _ (unhide H1).2).mono ?_
  rintro e w2 ⟨tb, rfl, hk2, hF2⟩
  have H2 := hide (And.intro ((unhide HC).fr _ _ _ (unhide H1).1 hF2) (And.intro hk2 ((unhide H1).2.trans hF2 (fun _ _ h => h))))
  clear hk2 hF2 H1
  go_wp2_with fail
  refine ((unhide HC).liv _ (unhide H2).2.2).mono ?_
  rintro e w3 ⟨rfl, hF3⟩
  have H3 := hide (And.intro ((unhide HC).fr _ _ _ (unhide H2).1 hF3) (And.intro ((unhide HC).fr _ _ _ (unhide H2).2.1 hF3) ((unhide H2).2.2.trans hF3 (fun _ _ h => h))))
  clear hF3 H2
  go_wp2_with fail
  refine ((unhide HC).len _ _ (unhide H3).1).mono ?_
  rintro e w4 ⟨rfl, rfl⟩
  go_wp2_with fail
  refine ((unhide HC).sign _ _ 0 (unhide H3).1 (unhide H3).2.2 hkk).mono ?_
  rintro e w5 ⟨so, sc, rfl, hO5⟩
  have H5 := hide (And.intro ((unhide HC).fr _ _ _ (unhide H3).1 hO5.fr) (And.intro ((unhide HC).fr _ _ _ (unhide H3).2.1 hO5.fr) (And.intro ((unhide H3).2.2.trans hO5.fr (fun _ _ h => h)) (hO5.sl2 ((unhide HC).sbyt _) ((unhide HC).slen _ hkk)))))
  clear hO5 H3
  go_wp2_with fail
  refine ((unhide HC).sign _ _ 0 (unhide H5).2.1 (unhide H5).2.2.1 hkk).mono ?_
  rintro e w6 ⟨uo, uc, rfl, hO6⟩
  have H6 := hide (And.intro ((unhide HC).fr _ _ _ (unhide H5).1 hO6.fr) (And.intro ((unhide HC).fr _ _ _ (unhide H5).2.1 hO6.fr) (And.intro ((unhide H5).2.2.1.trans hO6.fr (fun _ _ h => h)) (And.intro ((unhide H5).2.2.2.fr0 hO6.fr) (hO6.sl2 ((unhide HC).sbyt _) ((unhide HC).slen _ hkk))))))
  clear hO6 H5
  go_wp2_with fail
  refine (same_T (unhide H6).2.2.2.1.s (unhide H6).2.2.2.2.s (by rw [(unhide HC).slen _ hkk]; exact unhide HZ) (sameB_refl _)).mono ?_
  rintro e w7 ⟨rfl, hF7⟩
  have H7 := hide (And.intro ((unhide HC).fr _ _ _ (unhide H6).1 hF7) (And.intro ((unhide HC).fr _ _ _ (unhide H6).2.1 hF7) (And.intro ((unhide H6).2.2.1.trans hF7 (fun _ _ h => h)) ((unhide H6).2.2.2.1.fr0 hF7))))
  clear hF7 H6
  go_wp2_with fail
  refine ((unhide HC).size _).mono ?_
  rintro e w8 ⟨rfl, rfl⟩
  go_wp2_with fail
  refine ((unhide HC).pub _ _ (unhide H7).1).mono ?_
  rintro e w9 ⟨po, pc, rfl, hO9⟩
  have H9 := hide (And.intro ((unhide HC).fr _ _ _ (unhide H7).1 hO9.fr) (And.intro ((unhide HC).fr _ _ _ (unhide H7).2.1 hO9.fr) (And.intro ((unhide H7).2.2.1.trans hO9.fr (fun _ _ h => h)) (And.intro ((unhide H7).2.2.2.fr0 hO9.fr) (hO9.sl2 (unhide HC).pbyt (unhide HC).plen)))))
  clear hO9 H7
  go_wp2_with fail
  refine ((unhide HT).chk _ _ _ 0 (unhide H9).2.2.1 (unhide H9).2.2.2.2 (unhide H9).2.2.2.1 hkk).mono ?_
  rintro e wA ⟨rfl, hFA⟩
  have HA := hide (And.intro ((unhide HC).fr _ _ _ (unhide H9).1 hFA) (And.intro ((unhide HC).fr _ _ _ (unhide H9).2.1 hFA) (And.intro ((unhide H9).2.2.1.trans hFA (fun _ _ h => h)) ((unhide H9).2.2.2.1.fr0 hFA))))
  clear hFA H9
  go_wp2_with fail
  refine ((unhide HT).sum _ (unhide HA).2.2.1).mono ?_
  rintro e wB ⟨mo9, mc9, rfl, hOB⟩
  have HB := hide (And.intro (hOB.sl2 (unhide HT).hmb (unhide HT).hml) hOB.fr)
  clear hOB
  go_wp2_with fail
  refine ((unhide HT).suo _ ((unhide HA).2.2.1.trans (unhide HB).2 (fun _ _ h => h))).mono ?_
  rintro e wC ⟨oo9, oc9, rfl, hOC⟩
  have HCc := hide (And.intro ((unhide HB).1.fr0 hOC.fr) (And.intro (hOC.sl2 (unhide HT).hob (unhide HT).hol) ((unhide HB).2.trans hOC.fr (fun _ _ h => h))))
  clear hOC HB
  go_wp2_with fail
  refine (gsame_D (unhide HCc).1 (unhide HCc).2.1 (by rw [(unhide HT).hml]; omega)).mono ?_
  rintro e wD ⟨rfl, hFD⟩
  have hAD : Fr (fun _ => False) wA wD := (unhide HCc).2.2.trans hFD (fun _ _ h => h)
  have HD := hide (And.intro ((unhide HC).fr _ _ _ (unhide HA).1 hAD) (And.intro ((unhide HC).fr _ _ _ (unhide HA).2.1 hAD) (And.intro ((unhide HA).2.2.1.trans hAD (fun _ _ h => h)) ((unhide HA).2.2.2.fr0 hAD))))
  clear hFD hAD HCc HA
  by_cases heq : HM = HO
  · rw [decide_eq_true heq]
    have HE := hide heq
    clear heq
    go_wp2_with fail
    refine ((unhide HC).pub _ _ (unhide HD).1).mono ?_
    rintro e wE ⟨qo, qc, rfl, hOE⟩
    have H9 := hide (And.intro ((unhide HC).fr _ _ _ (unhide HD).1 hOE.fr) (And.intro ((unhide HC).fr _ _ _ (unhide HD).2.1 hOE.fr) (And.intro ((unhide HD).2.2.1.trans hOE.fr (fun _ _ h => h)) (And.intro ((unhide HD).2.2.2.fr0 hOE.fr) (hOE.sl2 (unhide HC).pbyt (unhide HC).plen)))))
    clear hOE HD
    go_wp2_with fail
    refine ((unhide HT).cho (unhide HE) _ _ _ 0 (unhide H9).2.2.1 (unhide H9).2.2.2.2 (unhide H9).2.2.2.1 hkk).mono ?_
    rintro e wF ⟨rfl, hFF⟩
    have HL := hide (And.intro ((unhide HC).fr _ _ _ (unhide H9).1 hFF) (And.intro ((unhide HC).fr _ _ _ (unhide H9).2.1 hFF) ((unhide H9).2.2.1.trans hFF (fun _ _ h => h))))
    clear hFF H9
    go_wp2_with fail
    have hL0 : LV wF wF none 0 [] (LS 0) := (unhide HLS).2 ▸ LV.nil _
    have HL0 := hide hL0
    clear hL0
    go_loopw [21, 22] (fun v iv wr => ∃ (i : Nat) (ao : Option Addr) (cp : Nat) (us : List Value), i ≤ N ∧ iv = .int .i64 (i : Nat) ∧ v = .slice ao i cp ∧ us.length = i ∧ LV wF wr ao cp us (LS i)) (fun _ iv _ => N - (intOf iv).toNat)
    case atStart => exact ⟨0, none, 0, [], Nat.zero_le _, rfl, rfl, rfl, unhide HL0⟩
    case round =>
      obtain ⟨i, ao, cp, us, hi, rfl, rfl, hus, hI⟩ := hrel
      have hky := (unhide HC).fr _ _ _ (unhide HL).1 hI.own.fr
      by_cases hlt : i < N
      · have hlt' : (i : Int) < (N : Int) := by omega
        have HI := hide (And.intro hky (And.intro hus hI))
        clear hky hus hI
        go_wp2_with fail
        refine ((unhide HC).len _ _ (unhide HI).1).mono ?_
        rintro e wG ⟨rfl, rfl⟩
        go_wp2_with fail
        refine ((unhide HC).leaf _ _ i (unhide HI).1 hlt).mono ?_
        rintro e wJ ⟨zo, rfl, hOJ⟩
        obtain ⟨ao', cp', w3, hr3, hL3⟩ := (unhide HI).2.2.step (LF i) zo 2 hOJ ((unhide HC).lbyt i) (by rw [(unhide HI).2.1]; omega)
        rw [← (unhide HLS).1] at hL3
        rw [(unhide HI).2.1, (unhide HC).llen] at hr3
        have HR := hide (And.intro hr3 hL3)
        clear hr3 hL3 hOJ
        go_wp2_with (at_builtin; refine wpList_app rfl _ _ 40 40 rfl _ _ _ rfl rfl (unhide HR).1 ?_)
        exact ⟨⟨i + 1, ao', cp', _, by omega, by go_num, rfl, by rw [List.length_append, (unhide HI).2.1]; rfl, (unhide HR).2⟩, by simp [intOf]; omega⟩
      · have hlt' : ¬ (i : Int) < (N : Int) := by omega
        have hiN : i = N := by omega
        have hpc := hI.pcs
        have hcp : i ≤ cp := by
          rcases hI.own.own.2 with ⟨e, e2⟩ | ⟨g, cap, cur, e, _, _, h3, _⟩
          · omega
          · simp only [Value.slice.injEq, true_and] at e
            rw [e.2, ← hus]; exact h3
        rw [hus, hiN] at hpc
        rw [hiN] at hcp
        have hfr := (unhide HL).2.2.trans hI.own.fr (fun _ _ h => h)
        have hky2 := (unhide HC).fr _ _ _ (unhide HL).2.1 hI.own.fr
        have HI := hide (And.intro hky (And.intro hky2 (And.intro hpc (And.intro hcp hfr))))
        clear hky hky2 hpc hcp hfr hI hus
        subst hiN
        go_wp2_with fail
        refine ((unhide HC).len _ _ (unhide HI).1).mono ?_
        rintro e wG ⟨rfl, rfl⟩
        go_wp2_with fail
        refine ((unhide HT).of _ _ us (unhide HI).2.2.2.2 (unhide HI).2.2.1 (fun _ _ _ e => by cases e; exact (unhide HI).2.2.2.1)).mono ?_
        rintro e wK ⟨fo, fc, rfl, hSK, hFK⟩
        have HK := hide (And.intro hSK (And.intro ((unhide HC).fr _ _ _ (unhide HI).1 hFK) (And.intro ((unhide HC).fr _ _ _ (unhide HI).2.1 hFK) ((unhide HI).2.2.2.2.trans hFK (fun _ _ h => h)))))
        clear hSK hFK
        go_wp2_with fail
        refine ((unhide HC).pub _ _ (unhide HK).2.1).mono ?_
        rintro e wM ⟨qo1, qc1, rfl, hOM⟩
        have HM1 := hide (And.intro ((unhide HK).1.fr0 hOM.fr) (And.intro (hOM.sl2 (unhide HC).pbyt (unhide HC).plen) (And.intro ((unhide HC).fr _ _ _ (unhide HK).2.1 hOM.fr) (And.intro ((unhide HC).fr _ _ _ (unhide HK).2.2.1 hOM.fr) ((unhide HK).2.2.2.trans hOM.fr (fun _ _ h => h))))))
        clear hOM HK
        go_wp2_with fail
        refine (same_T (unhide HM1).1.s (unhide HM1).2.1.s (by rw [(unhide HC).plen]; omega) (sameB_refl _)).mono ?_
        rintro e wN ⟨rfl, hFN⟩
        have HN1 := hide (And.intro ((unhide HC).fr _ _ _ (unhide HM1).2.2.1 hFN) (And.intro ((unhide HC).fr _ _ _ (unhide HM1).2.2.2.1 hFN) ((unhide HM1).2.2.2.2.trans hFN (fun _ _ h => h))))
        clear hFN HM1
        go_wp2_with fail
        refine ((unhide HC).pub _ _ (unhide HN1).1).mono ?_
        rintro e wO ⟨qo2, qc2, rfl, hOO⟩
        have HO1 := hide (And.intro (hOO.sl2 (unhide HC).pbyt (unhide HC).plen) (And.intro ((unhide HC).fr _ _ _ (unhide HN1).2.1 hOO.fr) ((unhide HN1).2.2.trans hOO.fr (fun _ _ h => h))))
        clear hOO HN1
        go_wp2_with fail
        refine ((unhide HC).pub _ _ (unhide HO1).2.1).mono ?_
        rintro e wP ⟨qo3, qc3, rfl, hOP⟩
        have HP1 := hide (And.intro ((unhide HO1).1.fr0 hOP.fr) (And.intro (hOP.sl2 (unhide HC).pbyt (unhide HC).plen) ((unhide HO1).2.2.trans hOP.fr (fun _ _ h => h))))
        clear hOP HO1
        go_wp2_with fail
        refine (same_T (unhide HP1).1.s (unhide HP1).2.1.s (by rw [(unhide HC).plen]; omega) (sameB_refl _)).mono ?_
        rintro e wQ ⟨rfl, hFQ⟩
        have HQ1 := hide ((unhide HP1).2.2.trans hFQ (fun _ _ h => h))
        clear hFQ HP1
        go_wp2_with fail
        go_ret
        exact ⟨rfl, unhide HQ1⟩
  · rw [decide_eq_false heq]
    have HL := hide (And.intro (unhide HD).1 (And.intro (unhide HD).2.1 (unhide HD).2.2.1))
    clear heq HD
    go_wp2_with fail
    have hL0 : LV wD wD none 0 [] (LS 0) := (unhide HLS).2 ▸ LV.nil _
    have HL0 := hide hL0
    clear hL0
    go_loopw [21, 22] (fun v iv wr => ∃ (i : Nat) (ao : Option Addr) (cp : Nat) (us : List Value), i ≤ N ∧ iv = .int .i64 (i : Nat) ∧ v = .slice ao i cp ∧ us.length = i ∧ LV wD wr ao cp us (LS i)) (fun _ iv _ => N - (intOf iv).toNat)
    case atStart => exact ⟨0, none, 0, [], Nat.zero_le _, rfl, rfl, rfl, unhide HL0⟩
    case round =>
      obtain ⟨i, ao, cp, us, hi, rfl, rfl, hus, hI⟩ := hrel
      have hky := (unhide HC).fr _ _ _ (unhide HL).1 hI.own.fr
      by_cases hlt : i < N
      · have hlt' : (i : Int) < (N : Int) := by omega
        have HI := hide (And.intro hky (And.intro hus hI))
        clear hky hus hI
        go_wp2_with fail
        refine ((unhide HC).len _ _ (unhide HI).1).mono ?_
        rintro e wG ⟨rfl, rfl⟩
        go_wp2_with fail
        refine ((unhide HC).leaf _ _ i (unhide HI).1 hlt).mono ?_
        rintro e wJ ⟨zo, rfl, hOJ⟩
        obtain ⟨ao', cp', w3, hr3, hL3⟩ := (unhide HI).2.2.step (LF i) zo 2 hOJ ((unhide HC).lbyt i) (by rw [(unhide HI).2.1]; omega)
        rw [← (unhide HLS).1] at hL3
        rw [(unhide HI).2.1, (unhide HC).llen] at hr3
        have HR := hide (And.intro hr3 hL3)
        clear hr3 hL3 hOJ
        go_wp2_with (at_builtin; refine wpList_app rfl _ _ 40 40 rfl _ _ _ rfl rfl (unhide HR).1 ?_)
        exact ⟨⟨i + 1, ao', cp', _, by omega, by go_num, rfl, by rw [List.length_append, (unhide HI).2.1]; rfl, (unhide HR).2⟩, by simp [intOf]; omega⟩
      · have hlt' : ¬ (i : Int) < (N : Int) := by omega
        have hiN : i = N := by omega
        have hpc := hI.pcs
        have hcp : i ≤ cp := by
          rcases hI.own.own.2 with ⟨e, e2⟩ | ⟨g, cap, cur, e, _, _, h3, _⟩
          · omega
          · simp only [Value.slice.injEq, true_and] at e
            rw [e.2, ← hus]; exact h3
        rw [hus, hiN] at hpc
        rw [hiN] at hcp
        have hfr := (unhide HL).2.2.trans hI.own.fr (fun _ _ h => h)
        have hky2 := (unhide HC).fr _ _ _ (unhide HL).2.1 hI.own.fr
        have HI := hide (And.intro hky (And.intro hky2 (And.intro hpc (And.intro hcp hfr))))
        clear hky hky2 hpc hcp hfr hI hus
        subst hiN
        go_wp2_with fail
        refine ((unhide HC).len _ _ (unhide HI).1).mono ?_
        rintro e wG ⟨rfl, rfl⟩
        go_wp2_with fail
        refine ((unhide HT).of _ _ us (unhide HI).2.2.2.2 (unhide HI).2.2.1 (fun _ _ _ e => by cases e; exact (unhide HI).2.2.2.1)).mono ?_
        rintro e wK ⟨fo, fc, rfl, hSK, hFK⟩
        have HK := hide (And.intro hSK (And.intro ((unhide HC).fr _ _ _ (unhide HI).1 hFK) (And.intro ((unhide HC).fr _ _ _ (unhide HI).2.1 hFK) ((unhide HI).2.2.2.2.trans hFK (fun _ _ h => h)))))
        clear hSK hFK
        go_wp2_with fail
        refine ((unhide HC).pub _ _ (unhide HK).2.1).mono ?_
        rintro e wM ⟨qo1, qc1, rfl, hOM⟩
        have HM1 := hide (And.intro ((unhide HK).1.fr0 hOM.fr) (And.intro (hOM.sl2 (unhide HC).pbyt (unhide HC).plen) (And.intro ((unhide HC).fr _ _ _ (unhide HK).2.1 hOM.fr) (And.intro ((unhide HC).fr _ _ _ (unhide HK).2.2.1 hOM.fr) ((unhide HK).2.2.2.trans hOM.fr (fun _ _ h => h))))))
        clear hOM HK
        go_wp2_with fail
        refine (same_T (unhide HM1).1.s (unhide HM1).2.1.s (by rw [(unhide HC).plen]; omega) (sameB_refl _)).mono ?_
        rintro e wN ⟨rfl, hFN⟩
        have HN1 := hide (And.intro ((unhide HC).fr _ _ _ (unhide HM1).2.2.1 hFN) (And.intro ((unhide HC).fr _ _ _ (unhide HM1).2.2.2.1 hFN) ((unhide HM1).2.2.2.2.trans hFN (fun _ _ h => h))))
        clear hFN HM1
        go_wp2_with fail
        refine ((unhide HC).pub _ _ (unhide HN1).1).mono ?_
        rintro e wO ⟨qo2, qc2, rfl, hOO⟩
        have HO1 := hide (And.intro (hOO.sl2 (unhide HC).pbyt (unhide HC).plen) (And.intro ((unhide HC).fr _ _ _ (unhide HN1).2.1 hOO.fr) ((unhide HN1).2.2.trans hOO.fr (fun _ _ h => h))))
        clear hOO HN1
        go_wp2_with fail
        refine ((unhide HC).pub _ _ (unhide HO1).2.1).mono ?_
        rintro e wP ⟨qo3, qc3, rfl, hOP⟩
        have HP1 := hide (And.intro ((unhide HO1).1.fr0 hOP.fr) (And.intro (hOP.sl2 (unhide HC).pbyt (unhide HC).plen) ((unhide HO1).2.2.trans hOP.fr (fun _ _ h => h))))
        clear hOP HO1
        go_wp2_with fail
        refine (same_T (unhide HP1).1.s (unhide HP1).2.1.s (by rw [(unhide HC).plen]; omega) (sameB_refl _)).mono ?_
        rintro e wQ ⟨rfl, hFQ⟩
        have HQ1 := hide ((unhide HP1).2.2.trans hFQ (fun _ _ h => h))
        clear hFQ HP1
        go_wp2_with fail
        go_ret
        exact ⟨rfl, unhide HQ1⟩
end Go.Proofs.YtjokmlnghpnlbaaDoor

namespace Go.Proofs.YtjokmlnghpnlbaaDoor
open Go.RowKit

set_option maxRecDepth 100000 in
set_option maxHeartbeats 1000000 in
theorem ltaken_Din (v t : Int) (hp : ¬ ((1 ≤ v ∧ v ≤ 32) ∧ 0 ≤ t ∧ t ≤ 6)) (kk : Nat) (hkk : kk < 2 ^ 2) (x mv ov : Value) (seed m ot : List Nat) (w : World) (hg : GS w) (hr : GR w) (ht : GT w) (hx : Sl w x seed) (hm : Sl w mv m) (ho : Sl w ov ot) (hs : seed.length ≤ 2000000) (hml : m.length ≤ 2000000) (hol : ot.length ≤ 2000000) :
    Calls Tryd.prog 7 #[.int .i64 v, .int .i64 t, x, .int .i64 kk, mv, ov] w fun e w' => e = .returned (.bool true) ∧ Fr (fun _ => False) w w' := by
  have hN64 : 2 ^ 2 ≤ 64 := by decide
  have hN1 : 1 ≤ 2 ^ 2 := by decide
  have HC := hide (c5_of 2 2 (by decide) (by decide) (by decide) x mv seed m w hg ht hx (by omega) hm (by omega))
  have HT := hide (t5_of 2 2 (by decide) (by decide) (by decide) mv ov seed m ot w hg hr hm (by omega) ho (by omega))
  have hmay := fun w' => g5may_any v t w'
  rw [decide_eq_false hp] at hmay
  obtain ⟨xo, xc, rfl⟩ := hx.form
  obtain ⟨mo, mc, rfl⟩ := hm.form
  obtain ⟨oo, oc, rfl⟩ := ho.form
  have hS9 : 16 * 2 * 2 + 2 * 2 ≤ 140737488355328 := by decide
  have hls : ∀ n, lvs 2 seed (n + 1) = lvs 2 seed n ++ [(fun K => lf ((2 : Nat) : Int) (eN 2 seed K)) n] := lvs_succ 2 seed
  have hl0 : lvs 2 seed 0 = [] := rfl
  generalize Ky5 2 2 seed = KY at *
  generalize 16 * 2 * 2 + 2 * 2 = SZ at *
  generalize mth ((2 : Nat) : Int) (lvs 2 seed (2 ^ 2)) = PB at *
  generalize 2 ^ 2 = N at *
  generalize (fun K => sig 2 2 K seed (sm (2 : Nat) m)) = SG at *
  generalize (fun K => lf ((2 : Nat) : Int) (eN 2 seed K)) = LF at *
  generalize lvs 2 seed = LS at *
  generalize sm ((2 : Nat) : Int) m = HM at *
  generalize sm ((2 : Nat) : Int) ot = HO at *
  have HY := hide hmay
  have HZ := hide hS9
  have HLS := hide (And.intro hls hl0)
  clear hmay hx hm ho hg hr ht hS9 hls hl0
  generalize seed.length = SN at *
  generalize m.length = ML at *
  generalize ot.length = OL at *
  clear hp
  have hk1 : ¬ (kk : Int) < 0 := by omega
  have hk2 : ¬ (N : Int) ≤ (kk : Int) := by omega
  go_enter Tryd.func7, Tryd.ntmps7
  go_wp2_with fail
  refine ((unhide HY) _).mono ?_
  rintro e w0 ⟨rfl, rfl⟩
  go_wp2_with fail
  refine ((unhide HC).new _ (Fr.refl _ _)).mono ?_
  rintro e w1 ⟨kb, rfl, hk1, hF1⟩
  have H1 := hide (And.intro hk1 hF1)
  clear hk1 hF1
  go_wp2_with fail
  refine ((unhide HC).new _ (unhide H1).2).mono ?_
  rintro e w2 ⟨tb, rfl, hk2, hF2⟩
  have H2 := hide (And.intro ((unhide HC).fr _ _ _ (unhide H1).1 hF2) (And.intro hk2 ((unhide H1).2.trans hF2 (fun _ _ h => h))))
  clear hk2 hF2 H1
  go_wp2_with fail
  refine ((unhide HC).liv _ (unhide H2).2.2).mono ?_
  rintro e w3 ⟨rfl, hF3⟩
  have H3 := hide (And.intro ((unhide HC).fr _ _ _ (unhide H2).1 hF3) (And.intro ((unhide HC).fr _ _ _ (unhide H2).2.1 hF3) ((unhide H2).2.2.trans hF3 (fun _ _ h => h))))
  clear hF3 H2
  go_wp2_with fail
  refine ((unhide HC).len _ _ (unhide H3).1).mono ?_
  rintro e w4 ⟨rfl, rfl⟩
  go_wp2_with fail
  refine ((unhide HC).sign _ _ kk (unhide H3).1 (unhide H3).2.2 hkk).mono ?_
  rintro e w5 ⟨so, sc, rfl, hO5⟩
  have H5 := hide (And.intro ((unhide HC).fr _ _ _ (unhide H3).1 hO5.fr) (And.intro ((unhide HC).fr _ _ _ (unhide H3).2.1 hO5.fr) (And.intro ((unhide H3).2.2.trans hO5.fr (fun _ _ h => h)) (hO5.sl2 ((unhide HC).sbyt _) ((unhide HC).slen _ hkk)))))
  clear hO5 H3
  go_wp2_with fail
  refine ((unhide HC).sign _ _ kk (unhide H5).2.1 (unhide H5).2.2.1 hkk).mono ?_
  rintro e w6 ⟨uo, uc, rfl, hO6⟩
  have H6 := hide (And.intro ((unhide HC).fr _ _ _ (unhide H5).1 hO6.fr) (And.intro ((unhide HC).fr _ _ _ (unhide H5).2.1 hO6.fr) (And.intro ((unhide H5).2.2.1.trans hO6.fr (fun _ _ h => h)) (And.intro ((unhide H5).2.2.2.fr0 hO6.fr) (hO6.sl2 ((unhide HC).sbyt _) ((unhide HC).slen _ hkk))))))
  clear hO6 H5
  go_wp2_with fail
  refine (same_T (unhide H6).2.2.2.1.s (unhide H6).2.2.2.2.s (by rw [(unhide HC).slen _ hkk]; exact unhide HZ) (sameB_refl _)).mono ?_
  rintro e w7 ⟨rfl, hF7⟩
  have H7 := hide (And.intro ((unhide HC).fr _ _ _ (unhide H6).1 hF7) (And.intro ((unhide HC).fr _ _ _ (unhide H6).2.1 hF7) (And.intro ((unhide H6).2.2.1.trans hF7 (fun _ _ h => h)) ((unhide H6).2.2.2.1.fr0 hF7))))
  clear hF7 H6
  go_wp2_with fail
  refine ((unhide HC).size _).mono ?_
  rintro e w8 ⟨rfl, rfl⟩
  go_wp2_with fail
  refine ((unhide HC).pub _ _ (unhide H7).1).mono ?_
  rintro e w9 ⟨po, pc, rfl, hO9⟩
  have H9 := hide (And.intro ((unhide HC).fr _ _ _ (unhide H7).1 hO9.fr) (And.intro ((unhide HC).fr _ _ _ (unhide H7).2.1 hO9.fr) (And.intro ((unhide H7).2.2.1.trans hO9.fr (fun _ _ h => h)) (And.intro ((unhide H7).2.2.2.fr0 hO9.fr) (hO9.sl2 (unhide HC).pbyt (unhide HC).plen)))))
  clear hO9 H7
  go_wp2_with fail
  refine ((unhide HT).chk _ _ _ kk (unhide H9).2.2.1 (unhide H9).2.2.2.2 (unhide H9).2.2.2.1 hkk).mono ?_
  rintro e wA ⟨rfl, hFA⟩
  have HA := hide (And.intro ((unhide HC).fr _ _ _ (unhide H9).1 hFA) (And.intro ((unhide HC).fr _ _ _ (unhide H9).2.1 hFA) (And.intro ((unhide H9).2.2.1.trans hFA (fun _ _ h => h)) ((unhide H9).2.2.2.1.fr0 hFA))))
  clear hFA H9
  go_wp2_with fail
  refine ((unhide HT).sum _ (unhide HA).2.2.1).mono ?_
  rintro e wB ⟨mo9, mc9, rfl, hOB⟩
  have HB := hide (And.intro (hOB.sl2 (unhide HT).hmb (unhide HT).hml) hOB.fr)
  clear hOB
  go_wp2_with fail
  refine ((unhide HT).suo _ ((unhide HA).2.2.1.trans (unhide HB).2 (fun _ _ h => h))).mono ?_
  rintro e wC ⟨oo9, oc9, rfl, hOC⟩
  have HCc := hide (And.intro ((unhide HB).1.fr0 hOC.fr) (And.intro (hOC.sl2 (unhide HT).hob (unhide HT).hol) ((unhide HB).2.trans hOC.fr (fun _ _ h => h))))
  clear hOC HB
  go_wp2_with fail
  refine (gsame_D (unhide HCc).1 (unhide HCc).2.1 (by rw [(unhide HT).hml]; omega)).mono ?_
  rintro e wD ⟨rfl, hFD⟩
  have hAD : Fr (fun _ => False) wA wD := (unhide HCc).2.2.trans hFD (fun _ _ h => h)
  have HD := hide (And.intro ((unhide HC).fr _ _ _ (unhide HA).1 hAD) (And.intro ((unhide HC).fr _ _ _ (unhide HA).2.1 hAD) (And.intro ((unhide HA).2.2.1.trans hAD (fun _ _ h => h)) ((unhide HA).2.2.2.fr0 hAD))))
  clear hFD hAD HCc HA
  by_cases heq : HM = HO
  · rw [decide_eq_true heq]
    have HE := hide heq
    clear heq
    go_wp2_with fail
    refine ((unhide HC).pub _ _ (unhide HD).1).mono ?_
    rintro e wE ⟨qo, qc, rfl, hOE⟩
    have H9 := hide (And.intro ((unhide HC).fr _ _ _ (unhide HD).1 hOE.fr) (And.intro ((unhide HC).fr _ _ _ (unhide HD).2.1 hOE.fr) (And.intro ((unhide HD).2.2.1.trans hOE.fr (fun _ _ h => h)) (And.intro ((unhide HD).2.2.2.fr0 hOE.fr) (hOE.sl2 (unhide HC).pbyt (unhide HC).plen)))))
    clear hOE HD
    go_wp2_with fail
    refine ((unhide HT).cho (unhide HE) _ _ _ kk (unhide H9).2.2.1 (unhide H9).2.2.2.2 (unhide H9).2.2.2.1 hkk).mono ?_
    rintro e wF ⟨rfl, hFF⟩
    have HL := hide (And.intro ((unhide HC).fr _ _ _ (unhide H9).1 hFF) (And.intro ((unhide HC).fr _ _ _ (unhide H9).2.1 hFF) ((unhide H9).2.2.1.trans hFF (fun _ _ h => h))))
    clear hFF H9
    go_wp2_with fail
    have hL0 : LV wF wF none 0 [] (LS 0) := (unhide HLS).2 ▸ LV.nil _
    have HL0 := hide hL0
    clear hL0
    go_loopw [21, 22] (fun v iv wr => ∃ (i : Nat) (ao : Option Addr) (cp : Nat) (us : List Value), i ≤ N ∧ iv = .int .i64 (i : Nat) ∧ v = .slice ao i cp ∧ us.length = i ∧ LV wF wr ao cp us (LS i)) (fun _ iv _ => N - (intOf iv).toNat)
    case atStart => exact ⟨0, none, 0, [], Nat.zero_le _, rfl, rfl, rfl, unhide HL0⟩
    case round =>
      obtain ⟨i, ao, cp, us, hi, rfl, rfl, hus, hI⟩ := hrel
      have hky := (unhide HC).fr _ _ _ (unhide HL).1 hI.own.fr
      by_cases hlt : i < N
      · have hlt' : (i : Int) < (N : Int) := by omega
        have HI := hide (And.intro hky (And.intro hus hI))
        clear hky hus hI
        go_wp2_with fail
        refine ((unhide HC).len _ _ (unhide HI).1).mono ?_
        rintro e wG ⟨rfl, rfl⟩
        go_wp2_with fail
        refine ((unhide HC).leaf _ _ i (unhide HI).1 hlt).mono ?_
        rintro e wJ ⟨zo, rfl, hOJ⟩
        obtain ⟨ao', cp', w3, hr3, hL3⟩ := (unhide HI).2.2.step (LF i) zo 2 hOJ ((unhide HC).lbyt i) (by rw [(unhide HI).2.1]; omega)
        rw [← (unhide HLS).1] at hL3
        rw [(unhide HI).2.1, (unhide HC).llen] at hr3
        have HR := hide (And.intro hr3 hL3)
        clear hr3 hL3 hOJ
        go_wp2_with (at_builtin; refine wpList_app rfl _ _ 40 40 rfl _ _ _ rfl rfl (unhide HR).1 ?_)
        exact ⟨⟨i + 1, ao', cp', _, by omega, by go_num, rfl, by rw [List.length_append, (unhide HI).2.1]; rfl, (unhide HR).2⟩, by simp [intOf]; omega⟩
      · have hlt' : ¬ (i : Int) < (N : Int) := by omega
        have hiN : i = N := by omega
        have hpc := hI.pcs
        have hcp : i ≤ cp := by
          rcases hI.own.own.2 with ⟨e, e2⟩ | ⟨g, cap, cur, e, _, _, h3, _⟩
          · omega
          · simp only [Value.slice.injEq, true_and] at e
            rw [e.2, ← hus]; exact h3
        rw [hus, hiN] at hpc
        rw [hiN] at hcp
        have hfr := (unhide HL).2.2.trans hI.own.fr (fun _ _ h => h)
        have hky2 := (unhide HC).fr _ _ _ (unhide HL).2.1 hI.own.fr
        have HI := hide (And.intro hky (And.intro hky2 (And.intro hpc (And.intro hcp hfr))))
        clear hky hky2 hpc hcp hfr hI hus
        subst hiN
        go_wp2_with fail
        refine ((unhide HC).len _ _ (unhide HI).1).mono ?_
        rintro e wG ⟨rfl, rfl⟩
        go_wp2_with fail
        refine ((unhide HT).of _ _ us (unhide HI).2.2.2.2 (unhide HI).2.2.1 (fun _ _ _ e => by cases e; exact (unhide HI).2.2.2.1)).mono ?_
        rintro e wK ⟨fo, fc, rfl, hSK, hFK⟩
        have HK := hide (And.intro hSK (And.intro ((unhide HC).fr _ _ _ (unhide HI).1 hFK) (And.intro ((unhide HC).fr _ _ _ (unhide HI).2.1 hFK) ((unhide HI).2.2.2.2.trans hFK (fun _ _ h => h)))))
        clear hSK hFK
        go_wp2_with fail
        refine ((unhide HC).pub _ _ (unhide HK).2.1).mono ?_
        rintro e wM ⟨qo1, qc1, rfl, hOM⟩
        have HM1 := hide (And.intro ((unhide HK).1.fr0 hOM.fr) (And.intro (hOM.sl2 (unhide HC).pbyt (unhide HC).plen) (And.intro ((unhide HC).fr _ _ _ (unhide HK).2.1 hOM.fr) (And.intro ((unhide HC).fr _ _ _ (unhide HK).2.2.1 hOM.fr) ((unhide HK).2.2.2.trans hOM.fr (fun _ _ h => h))))))
        clear hOM HK
        go_wp2_with fail
        refine (same_T (unhide HM1).1.s (unhide HM1).2.1.s (by rw [(unhide HC).plen]; omega) (sameB_refl _)).mono ?_
        rintro e wN ⟨rfl, hFN⟩
        have HN1 := hide (And.intro ((unhide HC).fr _ _ _ (unhide HM1).2.2.1 hFN) (And.intro ((unhide HC).fr _ _ _ (unhide HM1).2.2.2.1 hFN) ((unhide HM1).2.2.2.2.trans hFN (fun _ _ h => h))))
        clear hFN HM1
        go_wp2_with fail
        refine ((unhide HC).pub _ _ (unhide HN1).1).mono ?_
        rintro e wO ⟨qo2, qc2, rfl, hOO⟩
        have HO1 := hide (And.intro (hOO.sl2 (unhide HC).pbyt (unhide HC).plen) (And.intro ((unhide HC).fr _ _ _ (unhide HN1).2.1 hOO.fr) ((unhide HN1).2.2.trans hOO.fr (fun _ _ h => h))))
        clear hOO HN1
        go_wp2_with fail
        refine ((unhide HC).pub _ _ (unhide HO1).2.1).mono ?_
        rintro e wP ⟨qo3, qc3, rfl, hOP⟩
        have HP1 := hide (And.intro ((unhide HO1).1.fr0 hOP.fr) (And.intro (hOP.sl2 (unhide HC).pbyt (unhide HC).plen) ((unhide HO1).2.2.trans hOP.fr (fun _ _ h => h))))
        clear hOP HO1
        go_wp2_with fail
        refine (same_T (unhide HP1).1.s (unhide HP1).2.1.s (by rw [(unhide HC).plen]; omega) (sameB_refl _)).mono ?_
        rintro e wQ ⟨rfl, hFQ⟩
        have HQ1 := hide ((unhide HP1).2.2.trans hFQ (fun _ _ h => h))
        clear hFQ HP1
        go_wp2_with fail
        go_ret
        exact ⟨rfl, unhide HQ1⟩
  · rw [decide_eq_false heq]
    have HL := hide (And.intro (unhide HD).1 (And.intro (unhide HD).2.1 (unhide HD).2.2.1))
    clear heq HD
    go_wp2_with fail
    have hL0 : LV wD wD none 0 [] (LS 0) := (unhide HLS).2 ▸ LV.nil _
    have HL0 := hide hL0
    clear hL0
    go_loopw [21, 22] (fun v iv wr => ∃ (i : Nat) (ao : Option Addr) (cp : Nat) (us : List Value), i ≤ N ∧ iv = .int .i64 (i : Nat) ∧ v = .slice ao i cp ∧ us.length = i ∧ LV wD wr ao cp us (LS i)) (fun _ iv _ => N - (intOf iv).toNat)
    case atStart => exact ⟨0, none, 0, [], Nat.zero_le _, rfl, rfl, rfl, unhide HL0⟩
    case round =>
      obtain ⟨i, ao, cp, us, hi, rfl, rfl, hus, hI⟩ := hrel
      have hky := (unhide HC).fr _ _ _ (unhide HL).1 hI.own.fr
      by_cases hlt : i < N
      · have hlt' : (i : Int) < (N : Int) := by omega
        have HI := hide (And.intro hky (And.intro hus hI))
        clear hky hus hI
        go_wp2_with fail
        refine ((unhide HC).len _ _ (unhide HI).1).mono ?_
        rintro e wG ⟨rfl, rfl⟩
        go_wp2_with fail
        refine ((unhide HC).leaf _ _ i (unhide HI).1 hlt).mono ?_
        rintro e wJ ⟨zo, rfl, hOJ⟩
        obtain ⟨ao', cp', w3, hr3, hL3⟩ := (unhide HI).2.2.step (LF i) zo 2 hOJ ((unhide HC).lbyt i) (by rw [(unhide HI).2.1]; omega)
        rw [← (unhide HLS).1] at hL3
        rw [(unhide HI).2.1, (unhide HC).llen] at hr3
        have HR := hide (And.intro hr3 hL3)
        clear hr3 hL3 hOJ
        go_wp2_with (at_builtin; refine wpList_app rfl _ _ 40 40 rfl _ _ _ rfl rfl (unhide HR).1 ?_)
        exact ⟨⟨i + 1, ao', cp', _, by omega, by go_num, rfl, by rw [List.length_append, (unhide HI).2.1]; rfl, (unhide HR).2⟩, by simp [intOf]; omega⟩
      · have hlt' : ¬ (i : Int) < (N : Int) := by omega
        have hiN : i = N := by omega
        have hpc := hI.pcs
        have hcp : i ≤ cp := by
          rcases hI.own.own.2 with ⟨e, e2⟩ | ⟨g, cap, cur, e, _, _, h3, _⟩
          · omega
          · simp only [Value.slice.injEq, true_and] at e
            rw [e.2, ← hus]; exact h3
        rw [hus, hiN] at hpc
        rw [hiN] at hcp
        have hfr := (unhide HL).2.2.trans hI.own.fr (fun _ _ h => h)
        have hky2 := (unhide HC).fr _ _ _ (unhide HL).2.1 hI.own.fr
        have HI := hide (And.intro hky (And.intro hky2 (And.intro hpc (And.intro hcp hfr))))
        clear hky hky2 hpc hcp hfr hI hus
        subst hiN
        go_wp2_with fail
        refine ((unhide HC).len _ _ (unhide HI).1).mono ?_
        rintro e wG ⟨rfl, rfl⟩
        go_wp2_with fail
        refine ((unhide HT).of _ _ us (unhide HI).2.2.2.2 (unhide HI).2.2.1 (fun _ _ _ e => by cases e; exact (unhide HI).2.2.2.1)).mono ?_
        rintro e wK ⟨fo, fc, rfl, hSK, hFK⟩
        have HK := hide (And.intro hSK (And.intro ((unhide HC).fr _ _ _ (unhide HI).1 hFK) (And.intro ((unhide HC).fr _ _ _ (unhide HI).2.1 hFK) ((unhide HI).2.2.2.2.trans hFK (fun _ _ h => h)))))
        clear hSK hFK
        go_wp2_with fail
        refine ((unhide HC).pub _ _ (unhide HK).2.1).mono ?_
        rintro e wM ⟨qo1, qc1, rfl, hOM⟩
        have HM1 := hide (And.intro ((unhide HK).1.fr0 hOM.fr) (And.intro (hOM.sl2 (unhide HC).pbyt (unhide HC).plen) (And.intro ((unhide HC).fr _ _ _ (unhide HK).2.1 hOM.fr) (And.intro ((unhide HC).fr _ _ _ (unhide HK).2.2.1 hOM.fr) ((unhide HK).2.2.2.trans hOM.fr (fun _ _ h => h))))))
        clear hOM HK
        go_wp2_with fail
        refine (same_T (unhide HM1).1.s (unhide HM1).2.1.s (by rw [(unhide HC).plen]; omega) (sameB_refl _)).mono ?_
        rintro e wN ⟨rfl, hFN⟩
        have HN1 := hide (And.intro ((unhide HC).fr _ _ _ (unhide HM1).2.2.1 hFN) (And.intro ((unhide HC).fr _ _ _ (unhide HM1).2.2.2.1 hFN) ((unhide HM1).2.2.2.2.trans hFN (fun _ _ h => h))))
        clear hFN HM1
        go_wp2_with fail
        refine ((unhide HC).pub _ _ (unhide HN1).1).mono ?_
        rintro e wO ⟨qo2, qc2, rfl, hOO⟩
        have HO1 := hide (And.intro (hOO.sl2 (unhide HC).pbyt (unhide HC).plen) (And.intro ((unhide HC).fr _ _ _ (unhide HN1).2.1 hOO.fr) ((unhide HN1).2.2.trans hOO.fr (fun _ _ h => h))))
        clear hOO HN1
        go_wp2_with fail
        refine ((unhide HC).pub _ _ (unhide HO1).2.1).mono ?_
        rintro e wP ⟨qo3, qc3, rfl, hOP⟩
        have HP1 := hide (And.intro ((unhide HO1).1.fr0 hOP.fr) (And.intro (hOP.sl2 (unhide HC).pbyt (unhide HC).plen) ((unhide HO1).2.2.trans hOP.fr (fun _ _ h => h))))
        clear hOP HO1
        go_wp2_with fail
        refine (same_T (unhide HP1).1.s (unhide HP1).2.1.s (by rw [(unhide HC).plen]; omega) (sameB_refl _)).mono ?_
        rintro e wQ ⟨rfl, hFQ⟩
        have HQ1 := hide ((unhide HP1).2.2.trans hFQ (fun _ _ h => h))
        clear hFQ HP1
        go_wp2_with fail
        go_ret
        exact ⟨rfl, unhide HQ1⟩
end Go.Proofs.YtjokmlnghpnlbaaDoor

namespace Go.Proofs.YtjokmlnghpnlbaaDoor
open Go.RowKit

set_option maxRecDepth 100000 in
set_option maxHeartbeats 1000000 in
theorem ltaken_Dneg (v t : Int) (hp : ¬ ((1 ≤ v ∧ v ≤ 32) ∧ 0 ≤ t ∧ t ≤ 6)) (K : Int) (hK : K < 0) (x mv ov : Value) (seed m ot : List Nat) (w : World) (hg : GS w) (hr : GR w) (ht : GT w) (hx : Sl w x seed) (hm : Sl w mv m) (ho : Sl w ov ot) (hs : seed.length ≤ 2000000) (hml : m.length ≤ 2000000) (hol : ot.length ≤ 2000000) :
    Calls Tryd.prog 7 #[.int .i64 v, .int .i64 t, x, .int .i64 K, mv, ov] w fun e w' => e = .returned (.bool true) ∧ Fr (fun _ => False) w w' := by
  have hN64 : 2 ^ 2 ≤ 64 := by decide
  have hN1 : 1 ≤ 2 ^ 2 := by decide
  have HC := hide (c5_of 2 2 (by decide) (by decide) (by decide) x mv seed m w hg ht hx (by omega) hm (by omega))
  have HT := hide (t5_of 2 2 (by decide) (by decide) (by decide) mv ov seed m ot w hg hr hm (by omega) ho (by omega))
  have hmay := fun w' => g5may_any v t w'
  rw [decide_eq_false hp] at hmay
  obtain ⟨xo, xc, rfl⟩ := hx.form
  obtain ⟨mo, mc, rfl⟩ := hm.form
  obtain ⟨oo, oc, rfl⟩ := ho.form
  have hS9 : 16 * 2 * 2 + 2 * 2 ≤ 140737488355328 := by decide
  have hls : ∀ n, lvs 2 seed (n + 1) = lvs 2 seed n ++ [(fun K => lf ((2 : Nat) : Int) (eN 2 seed K)) n] := lvs_succ 2 seed
  have hl0 : lvs 2 seed 0 = [] := rfl
  generalize Ky5 2 2 seed = KY at *
  generalize 16 * 2 * 2 + 2 * 2 = SZ at *
  generalize mth ((2 : Nat) : Int) (lvs 2 seed (2 ^ 2)) = PB at *
  generalize 2 ^ 2 = N at *
  generalize (fun K => sig 2 2 K seed (sm (2 : Nat) m)) = SG at *
  generalize (fun K => lf ((2 : Nat) : Int) (eN 2 seed K)) = LF at *
  generalize lvs 2 seed = LS at *
  generalize sm ((2 : Nat) : Int) m = HM at *
  generalize sm ((2 : Nat) : Int) ot = HO at *
  have HY := hide hmay
  have HZ := hide hS9
  have HLS := hide (And.intro hls hl0)
  clear hmay hx hm ho hg hr ht hS9 hls hl0
  generalize seed.length = SN at *
  generalize m.length = ML at *
  generalize ot.length = OL at *
  have hkk : 0 < N := by omega
  clear hp
  go_enter Tryd.func7, Tryd.ntmps7
  go_wp2_with fail
  refine ((unhide HY) _).mono ?_
  rintro e w0 ⟨rfl, rfl⟩
  go_wp2_with fail
  refine ((unhide HC).new _ (Fr.refl _ _)).mono ?_
  rintro e w1 ⟨kb, rfl, hk1, hF1⟩
  have H1 := hide (And.intro hk1 hF1)
  clear hk1 hF1
  go_wp2_with fail
  refine ((unhide HC).new _ (unhide H1).2).mono ?_
  rintro e w2 ⟨tb, rfl, hk2, hF2⟩
  have H2 := hide (And.intro ((unhide HC).fr _ _ _ (unhide H1).1 hF2) (And.intro hk2 ((unhide H1).2.trans hF2 (fun _ _ h => h))))
  clear hk2 hF2 H1
  go_wp2_with fail
  refine ((unhide HC).liv _ (unhide H2).2.2).mono ?_
  rintro e w3 ⟨rfl, hF3⟩
  have H3 := hide (And.intro ((unhide HC).fr _ _ _ (unhide H2).1 hF3) (And.intro ((unhide HC).fr _ _ _ (unhide H2).2.1 hF3) ((unhide H2).2.2.trans hF3 (fun _ _ h => h))))
  clear hF3 H2
  go_wp2_with fail
  refine ((unhide HC).sign _ _ 0 (unhide H3).1 (unhide H3).2.2 hkk).mono ?_
  rintro e w5 ⟨so, sc, rfl, hO5⟩
  have H5 := hide (And.intro ((unhide HC).fr _ _ _ (unhide H3).1 hO5.fr) (And.intro ((unhide HC).fr _ _ _ (unhide H3).2.1 hO5.fr) (And.intro ((unhide H3).2.2.trans hO5.fr (fun _ _ h => h)) (hO5.sl2 ((unhide HC).sbyt _) ((unhide HC).slen _ hkk)))))
  clear hO5 H3
  go_wp2_with fail
  refine ((unhide HC).sign _ _ 0 (unhide H5).2.1 (unhide H5).2.2.1 hkk).mono ?_
  rintro e w6 ⟨uo, uc, rfl, hO6⟩
  have H6 := hide (And.intro ((unhide HC).fr _ _ _ (unhide H5).1 hO6.fr) (And.intro ((unhide HC).fr _ _ _ (unhide H5).2.1 hO6.fr) (And.intro ((unhide H5).2.2.1.trans hO6.fr (fun _ _ h => h)) (And.intro ((unhide H5).2.2.2.fr0 hO6.fr) (hO6.sl2 ((unhide HC).sbyt _) ((unhide HC).slen _ hkk))))))
  clear hO6 H5
  go_wp2_with fail
  refine (same_T (unhide H6).2.2.2.1.s (unhide H6).2.2.2.2.s (by rw [(unhide HC).slen _ hkk]; exact unhide HZ) (sameB_refl _)).mono ?_
  rintro e w7 ⟨rfl, hF7⟩
  have H7 := hide (And.intro ((unhide HC).fr _ _ _ (unhide H6).1 hF7) (And.intro ((unhide HC).fr _ _ _ (unhide H6).2.1 hF7) (And.intro ((unhide H6).2.2.1.trans hF7 (fun _ _ h => h)) ((unhide H6).2.2.2.1.fr0 hF7))))
  clear hF7 H6
  go_wp2_with fail
  refine ((unhide HC).size _).mono ?_
  rintro e w8 ⟨rfl, rfl⟩
  go_wp2_with fail
  refine ((unhide HC).pub _ _ (unhide H7).1).mono ?_
  rintro e w9 ⟨po, pc, rfl, hO9⟩
  have H9 := hide (And.intro ((unhide HC).fr _ _ _ (unhide H7).1 hO9.fr) (And.intro ((unhide HC).fr _ _ _ (unhide H7).2.1 hO9.fr) (And.intro ((unhide H7).2.2.1.trans hO9.fr (fun _ _ h => h)) (And.intro ((unhide H7).2.2.2.fr0 hO9.fr) (hO9.sl2 (unhide HC).pbyt (unhide HC).plen)))))
  clear hO9 H7
  go_wp2_with fail
  refine ((unhide HT).chk _ _ _ 0 (unhide H9).2.2.1 (unhide H9).2.2.2.2 (unhide H9).2.2.2.1 hkk).mono ?_
  rintro e wA ⟨rfl, hFA⟩
  have HA := hide (And.intro ((unhide HC).fr _ _ _ (unhide H9).1 hFA) (And.intro ((unhide HC).fr _ _ _ (unhide H9).2.1 hFA) (And.intro ((unhide H9).2.2.1.trans hFA (fun _ _ h => h)) ((unhide H9).2.2.2.1.fr0 hFA))))
  clear hFA H9
  go_wp2_with fail
  refine ((unhide HT).sum _ (unhide HA).2.2.1).mono ?_
  rintro e wB ⟨mo9, mc9, rfl, hOB⟩
  have HB := hide (And.intro (hOB.sl2 (unhide HT).hmb (unhide HT).hml) hOB.fr)
  clear hOB
  go_wp2_with fail
  refine ((unhide HT).suo _ ((unhide HA).2.2.1.trans (unhide HB).2 (fun _ _ h => h))).mono ?_
  rintro e wC ⟨oo9, oc9, rfl, hOC⟩
  have HCc := hide (And.intro ((unhide HB).1.fr0 hOC.fr) (And.intro (hOC.sl2 (unhide HT).hob (unhide HT).hol) ((unhide HB).2.trans hOC.fr (fun _ _ h => h))))
  clear hOC HB
  go_wp2_with fail
  refine (gsame_D (unhide HCc).1 (unhide HCc).2.1 (by rw [(unhide HT).hml]; omega)).mono ?_
  rintro e wD ⟨rfl, hFD⟩
  have hAD : Fr (fun _ => False) wA wD := (unhide HCc).2.2.trans hFD (fun _ _ h => h)
  have HD := hide (And.intro ((unhide HC).fr _ _ _ (unhide HA).1 hAD) (And.intro ((unhide HC).fr _ _ _ (unhide HA).2.1 hAD) (And.intro ((unhide HA).2.2.1.trans hAD (fun _ _ h => h)) ((unhide HA).2.2.2.fr0 hAD))))
  clear hFD hAD HCc HA
  by_cases heq : HM = HO
  · rw [decide_eq_true heq]
    have HE := hide heq
    clear heq
    go_wp2_with fail
    refine ((unhide HC).pub _ _ (unhide HD).1).mono ?_
    rintro e wE ⟨qo, qc, rfl, hOE⟩
    have H9 := hide (And.intro ((unhide HC).fr _ _ _ (unhide HD).1 hOE.fr) (And.intro ((unhide HC).fr _ _ _ (unhide HD).2.1 hOE.fr) (And.intro ((unhide HD).2.2.1.trans hOE.fr (fun _ _ h => h)) (And.intro ((unhide HD).2.2.2.fr0 hOE.fr) (hOE.sl2 (unhide HC).pbyt (unhide HC).plen)))))
    clear hOE HD
    go_wp2_with fail
    refine ((unhide HT).cho (unhide HE) _ _ _ 0 (unhide H9).2.2.1 (unhide H9).2.2.2.2 (unhide H9).2.2.2.1 hkk).mono ?_
    rintro e wF ⟨rfl, hFF⟩
    have HL := hide (And.intro ((unhide HC).fr _ _ _ (unhide H9).1 hFF) (And.intro ((unhide HC).fr _ _ _ (unhide H9).2.1 hFF) ((unhide H9).2.2.1.trans hFF (fun _ _ h => h))))
    clear hFF H9
    go_wp2_with fail
    have hL0 : LV wF wF none 0 [] (LS 0) := (unhide HLS).2 ▸ LV.nil _
    have HL0 := hide hL0
    clear hL0
    go_loopw [21, 22] (fun v iv wr => ∃ (i : Nat) (ao : Option Addr) (cp : Nat) (us : List Value), i ≤ N ∧ iv = .int .i64 (i : Nat) ∧ v = .slice ao i cp ∧ us.length = i ∧ LV wF wr ao cp us (LS i)) (fun _ iv _ => N - (intOf iv).toNat)
    case atStart => exact ⟨0, none, 0, [], Nat.zero_le _, rfl, rfl, rfl, unhide HL0⟩
    case round =>
      obtain ⟨i, ao, cp, us, hi, rfl, rfl, hus, hI⟩ := hrel
      have hky := (unhide HC).fr _ _ _ (unhide HL).1 hI.own.fr
      by_cases hlt : i < N
      · have hlt' : (i : Int) < (N : Int) := by omega
        have HI := hide (And.intro hky (And.intro hus hI))
        clear hky hus hI
        go_wp2_with fail
        refine ((unhide HC).len _ _ (unhide HI).1).mono ?_
        rintro e wG ⟨rfl, rfl⟩
        go_wp2_with fail
        refine ((unhide HC).leaf _ _ i (unhide HI).1 hlt).mono ?_
        rintro e wJ ⟨zo, rfl, hOJ⟩
        obtain ⟨ao', cp', w3, hr3, hL3⟩ := (unhide HI).2.2.step (LF i) zo 2 hOJ ((unhide HC).lbyt i) (by rw [(unhide HI).2.1]; omega)
        rw [← (unhide HLS).1] at hL3
        rw [(unhide HI).2.1, (unhide HC).llen] at hr3
        have HR := hide (And.intro hr3 hL3)
        clear hr3 hL3 hOJ
        go_wp2_with (at_builtin; refine wpList_app rfl _ _ 40 40 rfl _ _ _ rfl rfl (unhide HR).1 ?_)
        exact ⟨⟨i + 1, ao', cp', _, by omega, by go_num, rfl, by rw [List.length_append, (unhide HI).2.1]; rfl, (unhide HR).2⟩, by simp [intOf]; omega⟩
      · have hlt' : ¬ (i : Int) < (N : Int) := by omega
        have hiN : i = N := by omega
        have hpc := hI.pcs
        have hcp : i ≤ cp := by
          rcases hI.own.own.2 with ⟨e, e2⟩ | ⟨g, cap, cur, e, _, _, h3, _⟩
          · omega
          · simp only [Value.slice.injEq, true_and] at e
            rw [e.2, ← hus]; exact h3
        rw [hus, hiN] at hpc
        rw [hiN] at hcp
        have hfr := (unhide HL).2.2.trans hI.own.fr (fun _ _ h => h)
        have hky2 := (unhide HC).fr _ _ _ (unhide HL).2.1 hI.own.fr
        have HI := hide (And.intro hky (And.intro hky2 (And.intro hpc (And.intro hcp hfr))))
        clear hky hky2 hpc hcp hfr hI hus
        subst hiN
        go_wp2_with fail
        refine ((unhide HC).len _ _ (unhide HI).1).mono ?_
        rintro e wG ⟨rfl, rfl⟩
        go_wp2_with fail
        refine ((unhide HT).of _ _ us (unhide HI).2.2.2.2 (unhide HI).2.2.1 (fun _ _ _ e => by cases e; exact (unhide HI).2.2.2.1)).mono ?_
        rintro e wK ⟨fo, fc, rfl, hSK, hFK⟩
        have HK := hide (And.intro hSK (And.intro ((unhide HC).fr _ _ _ (unhide HI).1 hFK) (And.intro ((unhide HC).fr _ _ _ (unhide HI).2.1 hFK) ((unhide HI).2.2.2.2.trans hFK (fun _ _ h => h)))))
        clear hSK hFK
        go_wp2_with fail
        refine ((unhide HC).pub _ _ (unhide HK).2.1).mono ?_
        rintro e wM ⟨qo1, qc1, rfl, hOM⟩
        have HM1 := hide (And.intro ((unhide HK).1.fr0 hOM.fr) (And.intro (hOM.sl2 (unhide HC).pbyt (unhide HC).plen) (And.intro ((unhide HC).fr _ _ _ (unhide HK).2.1 hOM.fr) (And.intro ((unhide HC).fr _ _ _ (unhide HK).2.2.1 hOM.fr) ((unhide HK).2.2.2.trans hOM.fr (fun _ _ h => h))))))
        clear hOM HK
        go_wp2_with fail
        refine (same_T (unhide HM1).1.s (unhide HM1).2.1.s (by rw [(unhide HC).plen]; omega) (sameB_refl _)).mono ?_
        rintro e wN ⟨rfl, hFN⟩
        have HN1 := hide (And.intro ((unhide HC).fr _ _ _ (unhide HM1).2.2.1 hFN) (And.intro ((unhide HC).fr _ _ _ (unhide HM1).2.2.2.1 hFN) ((unhide HM1).2.2.2.2.trans hFN (fun _ _ h => h))))
        clear hFN HM1
        go_wp2_with fail
        refine ((unhide HC).pub _ _ (unhide HN1).1).mono ?_
        rintro e wO ⟨qo2, qc2, rfl, hOO⟩
        have HO1 := hide (And.intro (hOO.sl2 (unhide HC).pbyt (unhide HC).plen) (And.intro ((unhide HC).fr _ _ _ (unhide HN1).2.1 hOO.fr) ((unhide HN1).2.2.trans hOO.fr (fun _ _ h => h))))
        clear hOO HN1
        go_wp2_with fail
        refine ((unhide HC).pub _ _ (unhide HO1).2.1).mono ?_
        rintro e wP ⟨qo3, qc3, rfl, hOP⟩
        have HP1 := hide (And.intro ((unhide HO1).1.fr0 hOP.fr) (And.intro (hOP.sl2 (unhide HC).pbyt (unhide HC).plen) ((unhide HO1).2.2.trans hOP.fr (fun _ _ h => h))))
        clear hOP HO1
        go_wp2_with fail
        refine (same_T (unhide HP1).1.s (unhide HP1).2.1.s (by rw [(unhide HC).plen]; omega) (sameB_refl _)).mono ?_
        rintro e wQ ⟨rfl, hFQ⟩
        have HQ1 := hide ((unhide HP1).2.2.trans hFQ (fun _ _ h => h))
        clear hFQ HP1
        go_wp2_with fail
        go_ret
        exact ⟨rfl, unhide HQ1⟩
  · rw [decide_eq_false heq]
    have HL := hide (And.intro (unhide HD).1 (And.intro (unhide HD).2.1 (unhide HD).2.2.1))
    clear heq HD
    go_wp2_with fail
    have hL0 : LV wD wD none 0 [] (LS 0) := (unhide HLS).2 ▸ LV.nil _
    have HL0 := hide hL0
    clear hL0
    go_loopw [21, 22] (fun v iv wr => ∃ (i : Nat) (ao : Option Addr) (cp : Nat) (us : List Value), i ≤ N ∧ iv = .int .i64 (i : Nat) ∧ v = .slice ao i cp ∧ us.length = i ∧ LV wD wr ao cp us (LS i)) (fun _ iv _ => N - (intOf iv).toNat)
    case atStart => exact ⟨0, none, 0, [], Nat.zero_le _, rfl, rfl, rfl, unhide HL0⟩
    case round =>
      obtain ⟨i, ao, cp, us, hi, rfl, rfl, hus, hI⟩ := hrel
      have hky := (unhide HC).fr _ _ _ (unhide HL).1 hI.own.fr
      by_cases hlt : i < N
      · have hlt' : (i : Int) < (N : Int) := by omega
        have HI := hide (And.intro hky (And.intro hus hI))
        clear hky hus hI
        go_wp2_with fail
        refine ((unhide HC).len _ _ (unhide HI).1).mono ?_
        rintro e wG ⟨rfl, rfl⟩
        go_wp2_with fail
        refine ((unhide HC).leaf _ _ i (unhide HI).1 hlt).mono ?_
        rintro e wJ ⟨zo, rfl, hOJ⟩
        obtain ⟨ao', cp', w3, hr3, hL3⟩ := (unhide HI).2.2.step (LF i) zo 2 hOJ ((unhide HC).lbyt i) (by rw [(unhide HI).2.1]; omega)
        rw [← (unhide HLS).1] at hL3
        rw [(unhide HI).2.1, (unhide HC).llen] at hr3
        have HR := hide (And.intro hr3 hL3)
        clear hr3 hL3 hOJ
        go_wp2_with (at_builtin; refine wpList_app rfl _ _ 40 40 rfl _ _ _ rfl rfl (unhide HR).1 ?_)
        exact ⟨⟨i + 1, ao', cp', _, by omega, by go_num, rfl, by rw [List.length_append, (unhide HI).2.1]; rfl, (unhide HR).2⟩, by simp [intOf]; omega⟩
      · have hlt' : ¬ (i : Int) < (N : Int) := by omega
        have hiN : i = N := by omega
        have hpc := hI.pcs
        have hcp : i ≤ cp := by
          rcases hI.own.own.2 with ⟨e, e2⟩ | ⟨g, cap, cur, e, _, _, h3, _⟩
          · omega
          · simp only [Value.slice.injEq, true_and] at e
            rw [e.2, ← hus]; exact h3
        rw [hus, hiN] at hpc
        rw [hiN] at hcp
        have hfr := (unhide HL).2.2.trans hI.own.fr (fun _ _ h => h)
        have hky2 := (unhide HC).fr _ _ _ (unhide HL).2.1 hI.own.fr
        have HI := hide (And.intro hky (And.intro hky2 (And.intro hpc (And.intro hcp hfr))))
        clear hky hky2 hpc hcp hfr hI hus
        subst hiN
        go_wp2_with fail
        refine ((unhide HC).len _ _ (unhide HI).1).mono ?_
        rintro e wG ⟨rfl, rfl⟩
        go_wp2_with fail
        refine ((unhide HT).of _ _ us (unhide HI).2.2.2.2 (unhide HI).2.2.1 (fun _ _ _ e => by cases e; exact (unhide HI).2.2.2.1)).mono ?_
        rintro e wK ⟨fo, fc, rfl, hSK, hFK⟩
        have HK := hide (And.intro hSK (And.intro ((unhide HC).fr _ _ _ (unhide HI).1 hFK) (And.intro ((unhide HC).fr _ _ _ (unhide HI).2.1 hFK) ((unhide HI).2.2.2.2.trans hFK (fun _ _ h => h)))))
        clear hSK hFK
        go_wp2_with fail
        refine ((unhide HC).pub _ _ (unhide HK).2.1).mono ?_
        rintro e wM ⟨qo1, qc1, rfl, hOM⟩
        have HM1 := hide (And.intro ((unhide HK).1.fr0 hOM.fr) (And.intro (hOM.sl2 (unhide HC).pbyt (unhide HC).plen) (And.intro ((unhide HC).fr _ _ _ (unhide HK).2.1 hOM.fr) (And.intro ((unhide HC).fr _ _ _ (unhide HK).2.2.1 hOM.fr) ((unhide HK).2.2.2.trans hOM.fr (fun _ _ h => h))))))
        clear hOM HK
        go_wp2_with fail
        refine (same_T (unhide HM1).1.s (unhide HM1).2.1.s (by rw [(unhide HC).plen]; omega) (sameB_refl _)).mono ?_
        rintro e wN ⟨rfl, hFN⟩
        have HN1 := hide (And.intro ((unhide HC).fr _ _ _ (unhide HM1).2.2.1 hFN) (And.intro ((unhide HC).fr _ _ _ (unhide HM1).2.2.2.1 hFN) ((unhide HM1).2.2.2.2.trans hFN (fun _ _ h => h))))
        clear hFN HM1
        go_wp2_with fail
        refine ((unhide HC).pub _ _ (unhide HN1).1).mono ?_
        rintro e wO ⟨qo2, qc2, rfl, hOO⟩
        have HO1 := hide (And.intro (hOO.sl2 (unhide HC).pbyt (unhide HC).plen) (And.intro ((unhide HC).fr _ _ _ (unhide HN1).2.1 hOO.fr) ((unhide HN1).2.2.trans hOO.fr (fun _ _ h => h))))
        clear hOO HN1
        go_wp2_with fail
        refine ((unhide HC).pub _ _ (unhide HO1).2.1).mono ?_
        rintro e wP ⟨qo3, qc3, rfl, hOP⟩
        have HP1 := hide (And.intro ((unhide HO1).1.fr0 hOP.fr) (And.intro (hOP.sl2 (unhide HC).pbyt (unhide HC).plen) ((unhide HO1).2.2.trans hOP.fr (fun _ _ h => h))))
        clear hOP HO1
        go_wp2_with fail
        refine (same_T (unhide HP1).1.s (unhide HP1).2.1.s (by rw [(unhide HC).plen]; omega) (sameB_refl _)).mono ?_
        rintro e wQ ⟨rfl, hFQ⟩
        have HQ1 := hide ((unhide HP1).2.2.trans hFQ (fun _ _ h => h))
        clear hFQ HP1
        go_wp2_with fail
        go_ret
        exact ⟨rfl, unhide HQ1⟩
end Go.Proofs.YtjokmlnghpnlbaaDoor

namespace Go.Proofs.YtjokmlnghpnlbaaDoor
open Go.RowKit

set_option maxRecDepth 100000 in
set_option maxHeartbeats 1000000 in
theorem ltaken_Dbig (v t : Int) (hp : ¬ ((1 ≤ v ∧ v ≤ 32) ∧ 0 ≤ t ∧ t ≤ 6)) (K : Int) (hK : ((2 ^ 2 : Nat) : Int) ≤ K) (x mv ov : Value) (seed m ot : List Nat) (w : World) (hg : GS w) (hr : GR w) (ht : GT w) (hx : Sl w x seed) (hm : Sl w mv m) (ho : Sl w ov ot) (hs : seed.length ≤ 2000000) (hml : m.length ≤ 2000000) (hol : ot.length ≤ 2000000) :
    Calls Tryd.prog 7 #[.int .i64 v, .int .i64 t, x, .int .i64 K, mv, ov] w fun e w' => e = .returned (.bool true) ∧ Fr (fun _ => False) w w' := by
  have hN64 : 2 ^ 2 ≤ 64 := by decide
  have hN1 : 1 ≤ 2 ^ 2 := by decide
  have HC := hide (c5_of 2 2 (by decide) (by decide) (by decide) x mv seed m w hg ht hx (by omega) hm (by omega))
  have HT := hide (t5_of 2 2 (by decide) (by decide) (by decide) mv ov seed m ot w hg hr hm (by omega) ho (by omega))
  have hmay := fun w' => g5may_any v t w'
  rw [decide_eq_false hp] at hmay
  obtain ⟨xo, xc, rfl⟩ := hx.form
  obtain ⟨mo, mc, rfl⟩ := hm.form
  obtain ⟨oo, oc, rfl⟩ := ho.form
  have hS9 : 16 * 2 * 2 + 2 * 2 ≤ 140737488355328 := by decide
  have hls : ∀ n, lvs 2 seed (n + 1) = lvs 2 seed n ++ [(fun K => lf ((2 : Nat) : Int) (eN 2 seed K)) n] := lvs_succ 2 seed
  have hl0 : lvs 2 seed 0 = [] := rfl
  generalize Ky5 2 2 seed = KY at *
  generalize 16 * 2 * 2 + 2 * 2 = SZ at *
  generalize mth ((2 : Nat) : Int) (lvs 2 seed (2 ^ 2)) = PB at *
  generalize 2 ^ 2 = N at *
  generalize (fun K => sig 2 2 K seed (sm (2 : Nat) m)) = SG at *
  generalize (fun K => lf ((2 : Nat) : Int) (eN 2 seed K)) = LF at *
  generalize lvs 2 seed = LS at *
  generalize sm ((2 : Nat) : Int) m = HM at *
  generalize sm ((2 : Nat) : Int) ot = HO at *
  have HY := hide hmay
  have HZ := hide hS9
  have HLS := hide (And.intro hls hl0)
  clear hmay hx hm ho hg hr ht hS9 hls hl0
  generalize seed.length = SN at *
  generalize m.length = ML at *
  generalize ot.length = OL at *
  have hkk : 0 < N := by omega
  clear hp
  have hk1 : ¬ K < 0 := by omega
  go_enter Tryd.func7, Tryd.ntmps7
  go_wp2_with fail
  refine ((unhide HY) _).mono ?_
  rintro e w0 ⟨rfl, rfl⟩
  go_wp2_with fail
  refine ((unhide HC).new _ (Fr.refl _ _)).mono ?_
  rintro e w1 ⟨kb, rfl, hk1, hF1⟩
  have H1 := hide (And.intro hk1 hF1)
  clear hk1 hF1
  go_wp2_with fail
  refine ((unhide HC).new _ (unhide H1).2).mono ?_
  rintro e w2 ⟨tb, rfl, hk2, hF2⟩
  have H2 := hide (And.intro ((unhide HC).fr _ _ _ (unhide H1).1 hF2) (And.intro hk2 ((unhide H1).2.trans hF2 (fun _ _ h => h))))
  clear hk2 hF2 H1
  go_wp2_with fail
  refine ((unhide HC).liv _ (unhide H2).2.2).mono ?_
  rintro e w3 ⟨rfl, hF3⟩
  have H3 := hide (And.intro ((unhide HC).fr _ _ _ (unhide H2).1 hF3) (And.intro ((unhide HC).fr _ _ _ (unhide H2).2.1 hF3) ((unhide H2).2.2.trans hF3 (fun _ _ h => h))))
  clear hF3 H2
  go_wp2_with fail
  refine ((unhide HC).len _ _ (unhide H3).1).mono ?_
  rintro e w4 ⟨rfl, rfl⟩
  go_wp2_with fail
  refine ((unhide HC).sign _ _ 0 (unhide H3).1 (unhide H3).2.2 hkk).mono ?_
  rintro e w5 ⟨so, sc, rfl, hO5⟩
  have H5 := hide (And.intro ((unhide HC).fr _ _ _ (unhide H3).1 hO5.fr) (And.intro ((unhide HC).fr _ _ _ (unhide H3).2.1 hO5.fr) (And.intro ((unhide H3).2.2.trans hO5.fr (fun _ _ h => h)) (hO5.sl2 ((unhide HC).sbyt _) ((unhide HC).slen _ hkk)))))
  clear hO5 H3
  go_wp2_with fail
  refine ((unhide HC).sign _ _ 0 (unhide H5).2.1 (unhide H5).2.2.1 hkk).mono ?_
  rintro e w6 ⟨uo, uc, rfl, hO6⟩
  have H6 := hide (And.intro ((unhide HC).fr _ _ _ (unhide H5).1 hO6.fr) (And.intro ((unhide HC).fr _ _ _ (unhide H5).2.1 hO6.fr) (And.intro ((unhide H5).2.2.1.trans hO6.fr (fun _ _ h => h)) (And.intro ((unhide H5).2.2.2.fr0 hO6.fr) (hO6.sl2 ((unhide HC).sbyt _) ((unhide HC).slen _ hkk))))))
  clear hO6 H5
  go_wp2_with fail
  refine (same_T (unhide H6).2.2.2.1.s (unhide H6).2.2.2.2.s (by rw [(unhide HC).slen _ hkk]; exact unhide HZ) (sameB_refl _)).mono ?_
  rintro e w7 ⟨rfl, hF7⟩
  have H7 := hide (And.intro ((unhide HC).fr _ _ _ (unhide H6).1 hF7) (And.intro ((unhide HC).fr _ _ _ (unhide H6).2.1 hF7) (And.intro ((unhide H6).2.2.1.trans hF7 (fun _ _ h => h)) ((unhide H6).2.2.2.1.fr0 hF7))))
  clear hF7 H6
  go_wp2_with fail
  refine ((unhide HC).size _).mono ?_
  rintro e w8 ⟨rfl, rfl⟩
  go_wp2_with fail
  refine ((unhide HC).pub _ _ (unhide H7).1).mono ?_
  rintro e w9 ⟨po, pc, rfl, hO9⟩
  have H9 := hide (And.intro ((unhide HC).fr _ _ _ (unhide H7).1 hO9.fr) (And.intro ((unhide HC).fr _ _ _ (unhide H7).2.1 hO9.fr) (And.intro ((unhide H7).2.2.1.trans hO9.fr (fun _ _ h => h)) (And.intro ((unhide H7).2.2.2.fr0 hO9.fr) (hO9.sl2 (unhide HC).pbyt (unhide HC).plen)))))
  clear hO9 H7
  go_wp2_with fail
  refine ((unhide HT).chk _ _ _ 0 (unhide H9).2.2.1 (unhide H9).2.2.2.2 (unhide H9).2.2.2.1 hkk).mono ?_
  rintro e wA ⟨rfl, hFA⟩
  have HA := hide (And.intro ((unhide HC).fr _ _ _ (unhide H9).1 hFA) (And.intro ((unhide HC).fr _ _ _ (unhide H9).2.1 hFA) (And.intro ((unhide H9).2.2.1.trans hFA (fun _ _ h => h)) ((unhide H9).2.2.2.1.fr0 hFA))))
  clear hFA H9
  go_wp2_with fail
  refine ((unhide HT).sum _ (unhide HA).2.2.1).mono ?_
  rintro e wB ⟨mo9, mc9, rfl, hOB⟩
  have HB := hide (And.intro (hOB.sl2 (unhide HT).hmb (unhide HT).hml) hOB.fr)
  clear hOB
  go_wp2_with fail
  refine ((unhide HT).suo _ ((unhide HA).2.2.1.trans (unhide HB).2 (fun _ _ h => h))).mono ?_
  rintro e wC ⟨oo9, oc9, rfl, hOC⟩
  have HCc := hide (And.intro ((unhide HB).1.fr0 hOC.fr) (And.intro (hOC.sl2 (unhide HT).hob (unhide HT).hol) ((unhide HB).2.trans hOC.fr (fun _ _ h => h))))
  clear hOC HB
  go_wp2_with fail
  refine (gsame_D (unhide HCc).1 (unhide HCc).2.1 (by rw [(unhide HT).hml]; omega)).mono ?_
  rintro e wD ⟨rfl, hFD⟩
  have hAD : Fr (fun _ => False) wA wD := (unhide HCc).2.2.trans hFD (fun _ _ h => h)
  have HD := hide (And.intro ((unhide HC).fr _ _ _ (unhide HA).1 hAD) (And.intro ((unhide HC).fr _ _ _ (unhide HA).2.1 hAD) (And.intro ((unhide HA).2.2.1.trans hAD (fun _ _ h => h)) ((unhide HA).2.2.2.fr0 hAD))))
  clear hFD hAD HCc HA
  by_cases heq : HM = HO
  · rw [decide_eq_true heq]
    have HE := hide heq
    clear heq
    go_wp2_with fail
    refine ((unhide HC).pub _ _ (unhide HD).1).mono ?_
    rintro e wE ⟨qo, qc, rfl, hOE⟩
    have H9 := hide (And.intro ((unhide HC).fr _ _ _ (unhide HD).1 hOE.fr) (And.intro ((unhide HC).fr _ _ _ (unhide HD).2.1 hOE.fr) (And.intro ((unhide HD).2.2.1.trans hOE.fr (fun _ _ h => h)) (And.intro ((unhide HD).2.2.2.fr0 hOE.fr) (hOE.sl2 (unhide HC).pbyt (unhide HC).plen)))))
    clear hOE HD
    go_wp2_with fail
    refine ((unhide HT).cho (unhide HE) _ _ _ 0 (unhide H9).2.2.1 (unhide H9).2.2.2.2 (unhide H9).2.2.2.1 hkk).mono ?_
    rintro e wF ⟨rfl, hFF⟩
    have HL := hide (And.intro ((unhide HC).fr _ _ _ (unhide H9).1 hFF) (And.intro ((unhide HC).fr _ _ _ (unhide H9).2.1 hFF) ((unhide H9).2.2.1.trans hFF (fun _ _ h => h))))
    clear hFF H9
    go_wp2_with fail
    have hL0 : LV wF wF none 0 [] (LS 0) := (unhide HLS).2 ▸ LV.nil _
    have HL0 := hide hL0
    clear hL0
    go_loopw [21, 22] (fun v iv wr => ∃ (i : Nat) (ao : Option Addr) (cp : Nat) (us : List Value), i ≤ N ∧ iv = .int .i64 (i : Nat) ∧ v = .slice ao i cp ∧ us.length = i ∧ LV wF wr ao cp us (LS i)) (fun _ iv _ => N - (intOf iv).toNat)
    case atStart => exact ⟨0, none, 0, [], Nat.zero_le _, rfl, rfl, rfl, unhide HL0⟩
    case round =>
      obtain ⟨i, ao, cp, us, hi, rfl, rfl, hus, hI⟩ := hrel
      have hky := (unhide HC).fr _ _ _ (unhide HL).1 hI.own.fr
      by_cases hlt : i < N
      · have hlt' : (i : Int) < (N : Int) := by omega
        have HI := hide (And.intro hky (And.intro hus hI))
        clear hky hus hI
        go_wp2_with fail
        refine ((unhide HC).len _ _ (unhide HI).1).mono ?_
        rintro e wG ⟨rfl, rfl⟩
        go_wp2_with fail
        refine ((unhide HC).leaf _ _ i (unhide HI).1 hlt).mono ?_
        rintro e wJ ⟨zo, rfl, hOJ⟩
        obtain ⟨ao', cp', w3, hr3, hL3⟩ := (unhide HI).2.2.step (LF i) zo 2 hOJ ((unhide HC).lbyt i) (by rw [(unhide HI).2.1]; omega)
        rw [← (unhide HLS).1] at hL3
        rw [(unhide HI).2.1, (unhide HC).llen] at hr3
        have HR := hide (And.intro hr3 hL3)
        clear hr3 hL3 hOJ
        go_wp2_with (at_builtin; refine wpList_app rfl _ _ 40 40 rfl _ _ _ rfl rfl (unhide HR).1 ?_)
        exact ⟨⟨i + 1, ao', cp', _, by omega, by go_num, rfl, by rw [List.length_append, (unhide HI).2.1]; rfl, (unhide HR).2⟩, by simp [intOf]; omega⟩
      · have hlt' : ¬ (i : Int) < (N : Int) := by omega
        have hiN : i = N := by omega
        have hpc := hI.pcs
        have hcp : i ≤ cp := by
          rcases hI.own.own.2 with ⟨e, e2⟩ | ⟨g, cap, cur, e, _, _, h3, _⟩
          · omega
          · simp only [Value.slice.injEq, true_and] at e
            rw [e.2, ← hus]; exact h3
        rw [hus, hiN] at hpc
        rw [hiN] at hcp
        have hfr := (unhide HL).2.2.trans hI.own.fr (fun _ _ h => h)
        have hky2 := (unhide HC).fr _ _ _ (unhide HL).2.1 hI.own.fr
        have HI := hide (And.intro hky (And.intro hky2 (And.intro hpc (And.intro hcp hfr))))
        clear hky hky2 hpc hcp hfr hI hus
        subst hiN
        go_wp2_with fail
        refine ((unhide HC).len _ _ (unhide HI).1).mono ?_
        rintro e wG ⟨rfl, rfl⟩
        go_wp2_with fail
        refine ((unhide HT).of _ _ us (unhide HI).2.2.2.2 (unhide HI).2.2.1 (fun _ _ _ e => by cases e; exact (unhide HI).2.2.2.1)).mono ?_
        rintro e wK ⟨fo, fc, rfl, hSK, hFK⟩
        have HK := hide (And.intro hSK (And.intro ((unhide HC).fr _ _ _ (unhide HI).1 hFK) (And.intro ((unhide HC).fr _ _ _ (unhide HI).2.1 hFK) ((unhide HI).2.2.2.2.trans hFK (fun _ _ h => h)))))
        clear hSK hFK
        go_wp2_with fail
        refine ((unhide HC).pub _ _ (unhide HK).2.1).mono ?_
        rintro e wM ⟨qo1, qc1, rfl, hOM⟩
        have HM1 := hide (And.intro ((unhide HK).1.fr0 hOM.fr) (And.intro (hOM.sl2 (unhide HC).pbyt (unhide HC).plen) (And.intro ((unhide HC).fr _ _ _ (unhide HK).2.1 hOM.fr) (And.intro ((unhide HC).fr _ _ _ (unhide HK).2.2.1 hOM.fr) ((unhide HK).2.2.2.trans hOM.fr (fun _ _ h => h))))))
        clear hOM HK
        go_wp2_with fail
        refine (same_T (unhide HM1).1.s (unhide HM1).2.1.s (by rw [(unhide HC).plen]; omega) (sameB_refl _)).mono ?_
        rintro e wN ⟨rfl, hFN⟩
        have HN1 := hide (And.intro ((unhide HC).fr _ _ _ (unhide HM1).2.2.1 hFN) (And.intro ((unhide HC).fr _ _ _ (unhide HM1).2.2.2.1 hFN) ((unhide HM1).2.2.2.2.trans hFN (fun _ _ h => h))))
        clear hFN HM1
        go_wp2_with fail
        refine ((unhide HC).pub _ _ (unhide HN1).1).mono ?_
        rintro e wO ⟨qo2, qc2, rfl, hOO⟩
        have HO1 := hide (And.intro (hOO.sl2 (unhide HC).pbyt (unhide HC).plen) (And.intro ((unhide HC).fr _ _ _ (unhide HN1).2.1 hOO.fr) ((unhide HN1).2.2.trans hOO.fr (fun _ _ h => h))))
        clear hOO HN1
        go_wp2_with fail
        refine ((unhide HC).pub _ _ (unhide HO1).2.1).mono ?_
        rintro e wP ⟨qo3, qc3, rfl, hOP⟩
        have HP1 := hide (And.intro ((unhide HO1).1.fr0 hOP.fr) (And.intro (hOP.sl2 (unhide HC).pbyt (unhide HC).plen) ((unhide HO1).2.2.trans hOP.fr (fun _ _ h => h))))
        clear hOP HO1
        go_wp2_with fail
        refine (same_T (unhide HP1).1.s (unhide HP1).2.1.s (by rw [(unhide HC).plen]; omega) (sameB_refl _)).mono ?_
        rintro e wQ ⟨rfl, hFQ⟩
        have HQ1 := hide ((unhide HP1).2.2.trans hFQ (fun _ _ h => h))
        clear hFQ HP1
        go_wp2_with fail
        go_ret
        exact ⟨rfl, unhide HQ1⟩
  · rw [decide_eq_false heq]
    have HL := hide (And.intro (unhide HD).1 (And.intro (unhide HD).2.1 (unhide HD).2.2.1))
    clear heq HD
    go_wp2_with fail
    have hL0 : LV wD wD none 0 [] (LS 0) := (unhide HLS).2 ▸ LV.nil _
    have HL0 := hide hL0
    clear hL0
    go_loopw [21, 22] (fun v iv wr => ∃ (i : Nat) (ao : Option Addr) (cp : Nat) (us : List Value), i ≤ N ∧ iv = .int .i64 (i : Nat) ∧ v = .slice ao i cp ∧ us.length = i ∧ LV wD wr ao cp us (LS i)) (fun _ iv _ => N - (intOf iv).toNat)
    case atStart => exact ⟨0, none, 0, [], Nat.zero_le _, rfl, rfl, rfl, unhide HL0⟩
    case round =>
      obtain ⟨i, ao, cp, us, hi, rfl, rfl, hus, hI⟩ := hrel
      have hky := (unhide HC).fr _ _ _ (unhide HL).1 hI.own.fr
      by_cases hlt : i < N
      · have hlt' : (i : Int) < (N : Int) := by omega
        have HI := hide (And.intro hky (And.intro hus hI))
        clear hky hus hI
        go_wp2_with fail
        refine ((unhide HC).len _ _ (unhide HI).1).mono ?_
        rintro e wG ⟨rfl, rfl⟩
        go_wp2_with fail
        refine ((unhide HC).leaf _ _ i (unhide HI).1 hlt).mono ?_
        rintro e wJ ⟨zo, rfl, hOJ⟩
        obtain ⟨ao', cp', w3, hr3, hL3⟩ := (unhide HI).2.2.step (LF i) zo 2 hOJ ((unhide HC).lbyt i) (by rw [(unhide HI).2.1]; omega)
        rw [← (unhide HLS).1] at hL3
        rw [(unhide HI).2.1, (unhide HC).llen] at hr3
        have HR := hide (And.intro hr3 hL3)
        clear hr3 hL3 hOJ
        go_wp2_with (at_builtin; refine wpList_app rfl _ _ 40 40 rfl _ _ _ rfl rfl (unhide HR).1 ?_)
        exact ⟨⟨i + 1, ao', cp', _, by omega, by go_num, rfl, by rw [List.length_append, (unhide HI).2.1]; rfl, (unhide HR).2⟩, by simp [intOf]; omega⟩
      · have hlt' : ¬ (i : Int) < (N : Int) := by omega
        have hiN : i = N := by omega
        have hpc := hI.pcs
        have hcp : i ≤ cp := by
          rcases hI.own.own.2 with ⟨e, e2⟩ | ⟨g, cap, cur, e, _, _, h3, _⟩
          · omega
          · simp only [Value.slice.injEq, true_and] at e
            rw [e.2, ← hus]; exact h3
        rw [hus, hiN] at hpc
        rw [hiN] at hcp
        have hfr := (unhide HL).2.2.trans hI.own.fr (fun _ _ h => h)
        have hky2 := (unhide HC).fr _ _ _ (unhide HL).2.1 hI.own.fr
        have HI := hide (And.intro hky (And.intro hky2 (And.intro hpc (And.intro hcp hfr))))
        clear hky hky2 hpc hcp hfr hI hus
        subst hiN
        go_wp2_with fail
        refine ((unhide HC).len _ _ (unhide HI).1).mono ?_
        rintro e wG ⟨rfl, rfl⟩
        go_wp2_with fail
        refine ((unhide HT).of _ _ us (unhide HI).2.2.2.2 (unhide HI).2.2.1 (fun _ _ _ e => by cases e; exact (unhide HI).2.2.2.1)).mono ?_
        rintro e wK ⟨fo, fc, rfl, hSK, hFK⟩
        have HK := hide (And.intro hSK (And.intro ((unhide HC).fr _ _ _ (unhide HI).1 hFK) (And.intro ((unhide HC).fr _ _ _ (unhide HI).2.1 hFK) ((unhide HI).2.2.2.2.trans hFK (fun _ _ h => h)))))
        clear hSK hFK
        go_wp2_with fail
        refine ((unhide HC).pub _ _ (unhide HK).2.1).mono ?_
        rintro e wM ⟨qo1, qc1, rfl, hOM⟩
        have HM1 := hide (And.intro ((unhide HK).1.fr0 hOM.fr) (And.intro (hOM.sl2 (unhide HC).pbyt (unhide HC).plen) (And.intro ((unhide HC).fr _ _ _ (unhide HK).2.1 hOM.fr) (And.intro ((unhide HC).fr _ _ _ (unhide HK).2.2.1 hOM.fr) ((unhide HK).2.2.2.trans hOM.fr (fun _ _ h => h))))))
        clear hOM HK
        go_wp2_with fail
        refine (same_T (unhide HM1).1.s (unhide HM1).2.1.s (by rw [(unhide HC).plen]; omega) (sameB_refl _)).mono ?_
        rintro e wN ⟨rfl, hFN⟩
        have HN1 := hide (And.intro ((unhide HC).fr _ _ _ (unhide HM1).2.2.1 hFN) (And.intro ((unhide HC).fr _ _ _ (unhide HM1).2.2.2.1 hFN) ((unhide HM1).2.2.2.2.trans hFN (fun _ _ h => h))))
        clear hFN HM1
        go_wp2_with fail
        refine ((unhide HC).pub _ _ (unhide HN1).1).mono ?_
        rintro e wO ⟨qo2, qc2, rfl, hOO⟩
        have HO1 := hide (And.intro (hOO.sl2 (unhide HC).pbyt (unhide HC).plen) (And.intro ((unhide HC).fr _ _ _ (unhide HN1).2.1 hOO.fr) ((unhide HN1).2.2.trans hOO.fr (fun _ _ h => h))))
        clear hOO HN1
        go_wp2_with fail
        refine ((unhide HC).pub _ _ (unhide HO1).2.1).mono ?_
        rintro e wP ⟨qo3, qc3, rfl, hOP⟩
        have HP1 := hide (And.intro ((unhide HO1).1.fr0 hOP.fr) (And.intro (hOP.sl2 (unhide HC).pbyt (unhide HC).plen) ((unhide HO1).2.2.trans hOP.fr (fun _ _ h => h))))
        clear hOP HO1
        go_wp2_with fail
        refine (same_T (unhide HP1).1.s (unhide HP1).2.1.s (by rw [(unhide HC).plen]; omega) (sameB_refl _)).mono ?_
        rintro e wQ ⟨rfl, hFQ⟩
        have HQ1 := hide ((unhide HP1).2.2.trans hFQ (fun _ _ h => h))
        clear hFQ HP1
        go_wp2_with fail
        go_ret
        exact ⟨rfl, unhide HQ1⟩
end Go.Proofs.YtjokmlnghpnlbaaDoor

namespace Go.Proofs.YtjokmlnghpnlbaaDoor
open Go.RowKit

/-- LamportTaken. -/
theorem ltaken_any (j h K : Int) (x mv ov : Value) (seed m ot : List Nat) (w : World) (hg : GS w) (hr : GR w) (ht : GT w) (hx : Sl w x seed) (hm : Sl w mv m) (ho : Sl w ov ot) (hs : seed.length ≤ 2000000) (hml : m.length ≤ 2000000) (hol : ot.length ≤ 2000000) :
    Calls Tryd.prog 7 #[.int .i64 j, .int .i64 h, x, .int .i64 K, mv, ov] w fun e w' => e = .returned (.bool true) ∧ Fr (fun _ => False) w w' := by
  by_cases hp : (1 ≤ j ∧ j ≤ 32) ∧ 0 ≤ h ∧ h ≤ 6
  · obtain ⟨wi, rfl⟩ : ∃ wi : Nat, j = (wi : Int) := ⟨j.toNat, by omega⟩
    obtain ⟨H, rfl⟩ : ∃ H : Nat, h = (H : Int) := ⟨h.toNat, by omega⟩
    by_cases h8 : 8 < wi
    · by_cases h2 : 2 < H
      · by_cases k1 : K < 0
        · exact ltaken_Cneg wi H (by omega) (by omega) (by omega) (by omega) K k1 x mv ov seed m ot w hg hr ht hx hm ho hs hml hol
        · by_cases k2 : ((2 ^ 2 : Nat) : Int) ≤ K
          · exact ltaken_Cbig wi H (by omega) (by omega) (by omega) (by omega) K k2 x mv ov seed m ot w hg hr ht hx hm ho hs hml hol
          · obtain ⟨kk, rfl⟩ : ∃ kk : Nat, K = (kk : Int) := ⟨K.toNat, by omega⟩
            exact ltaken_Cin wi H (by omega) (by omega) (by omega) (by omega) kk (Int.ofNat_lt.1 (Int.not_le.1 k2)) x mv ov seed m ot w hg hr ht hx hm ho hs hml hol
      · by_cases k1 : K < 0
        · exact ltaken_Bneg wi H (by omega) (by omega) (by omega) (by omega) (by omega) K k1 x mv ov seed m ot w hg hr ht hx hm ho hs hml hol
        · by_cases k2 : ((2 ^ H : Nat) : Int) ≤ K
          · exact ltaken_Bbig wi H (by omega) (by omega) (by omega) (by omega) (by omega) K k2 x mv ov seed m ot w hg hr ht hx hm ho hs hml hol
          · obtain ⟨kk, rfl⟩ : ∃ kk : Nat, K = (kk : Int) := ⟨K.toNat, by omega⟩
            exact ltaken_Bin wi H (by omega) (by omega) (by omega) (by omega) (by omega) kk (Int.ofNat_lt.1 (Int.not_le.1 k2)) x mv ov seed m ot w hg hr ht hx hm ho hs hml hol
    · by_cases k1 : K < 0
      · exact ltaken_Aneg wi H (by omega) (by omega) (by omega) (by omega) K k1 x mv ov seed m ot w hg hr ht hx hm ho hs hml hol
      · by_cases k2 : ((2 ^ H : Nat) : Int) ≤ K
        · exact ltaken_Abig wi H (by omega) (by omega) (by omega) (by omega) K k2 x mv ov seed m ot w hg hr ht hx hm ho hs hml hol
        · obtain ⟨kk, rfl⟩ : ∃ kk : Nat, K = (kk : Int) := ⟨K.toNat, by omega⟩
          exact ltaken_Ain wi H (by omega) (by omega) (by omega) (by omega) kk (Int.ofNat_lt.1 (Int.not_le.1 k2)) x mv ov seed m ot w hg hr ht hx hm ho hs hml hol
  · by_cases k1 : K < 0
    · exact ltaken_Dneg j h hp K k1 x mv ov seed m ot w hg hr ht hx hm ho hs hml hol
    · by_cases k2 : ((2 ^ 2 : Nat) : Int) ≤ K
      · exact ltaken_Dbig j h hp K k2 x mv ov seed m ot w hg hr ht hx hm ho hs hml hol
      · obtain ⟨kk, rfl⟩ : ∃ kk : Nat, K = (kk : Int) := ⟨K.toNat, by omega⟩
        exact ltaken_Din j h hp kk (Int.ofNat_lt.1 (Int.not_le.1 k2)) x mv ov seed m ot w hg hr ht hx hm ho hs hml hol
end Go.Proofs.YtjokmlnghpnlbaaDoor

namespace Go.Proofs.YtjokmlnghpnlbaaDoor
open Go.ChangeShapes Go.WideShapes Go.ChangeAt Go.RowKit
set_option maxRecDepth 100000

theorem ltaken_contract (H : Type) (enc : TypeId × Value → H) (W : World) (base : Nat) (args : Array Value) (ds gs : List (DataW H)) (before : List MemPlace)
    (hval : ∀ (j : Nat) t v, Tryd.f7.params[j]? = some t → args[j]? = some v → Value.okWide Tryd.prog W .any base t v)
    (hW : DataW.Whole enc Tryd.prog Tryd.f7.params.toList Rows.lamportTakenSpec.vars false W args.toList ds gs before) (hk : Rows.uptoSmall H (ds ++ gs) = true) (hL : laidMetH Tryd.prog Rows.lamportTakenUptoRow.laid W) (hsh : W.ShapedOpen Tryd.prog) :
    Calls Tryd.prog 7 args W fun e W' => ∃ v, e = .returned v ∧ Rows.lamportTakenSpec.post enc Tryd.prog Tryd.f7 false true false false W args v W' := by
  have hW' := hW
  obtain ⟨p, q, hA0, hV, rfl, hfz, hnd⟩ := hW
  have hA : DataW.TrodAll enc Tryd.prog W 0 (fun _ => true) true Tryd.f7.params.toList args.toList ds p := hA0
  rw [Tryd.params7] at hA hval
  obtain ⟨v0, vs0, d0, ds0, p0, q0, hargs, rfl, rfl, h0, r0⟩ := trodAll_cons hA
  obtain ⟨v1, vs1, d1, ds1, p1, q1, rfl, rfl, rfl, h1, r1⟩ := trodAll_cons r0
  obtain ⟨v2, vs2, d2, ds2, p2, q2, rfl, rfl, rfl, h2, r2⟩ := trodAll_cons r1
  obtain ⟨v3, vs3, d3, ds3, p3, q3, rfl, rfl, rfl, h3, r3⟩ := trodAll_cons r2
  obtain ⟨v4, vs4, d4, ds4, p4, q4, rfl, rfl, rfl, h4, r4⟩ := trodAll_cons r3
  obtain ⟨v5, vs5, d5, ds5, p5, q5, rfl, rfl, rfl, h5, r5⟩ := trodAll_cons r4
  obtain ⟨rfl, rfl, rfl⟩ := trodAll_nil r5
  obtain rfl : args = #[v0, v1, v2, v3, v4, v5] := by cases args; simp_all
  obtain ⟨rfl, rfl⟩ := trodVars_none hV
  obtain ⟨a0, rfl, rfl, rfl, w0⟩ := open_int Tryd.underlying3 (hval 0 3 v0 rfl rfl) h0
  obtain ⟨a1, rfl, rfl, rfl, w1⟩ := open_int Tryd.underlying3 (hval 1 3 v1 rfl rfl) h1
  have hb2 : ∃ l : List Nat, Sl W v2 l ∧ l.length ≤ Rows.uptoBulk d2 := by
    obtain ⟨a, len, cap, rfl⟩ := okWide_slice Tryd.underlying24 (hval 2 24 v2 rfl rfl)
    obtain ⟨fuel, hf⟩ := h2
    obtain ⟨l, q1, q2, q3, q4, q5⟩ := src_of_trod (by simpa [Value.cells] using hf)
    exact ⟨l, ⟨q1, q3, q4, q2⟩, q5⟩
  obtain ⟨l2, hS2, hN2⟩ := hb2
  obtain ⟨a3, rfl, rfl, rfl, w3⟩ := open_int Tryd.underlying3 (hval 3 3 v3 rfl rfl) h3
  have hb4 : ∃ l : List Nat, Sl W v4 l ∧ l.length ≤ Rows.uptoBulk d4 := by
    obtain ⟨a, len, cap, rfl⟩ := okWide_slice Tryd.underlying24 (hval 4 24 v4 rfl rfl)
    obtain ⟨fuel, hf⟩ := h4
    obtain ⟨l, q1, q2, q3, q4, q5⟩ := src_of_trod (by simpa [Value.cells] using hf)
    exact ⟨l, ⟨q1, q3, q4, q2⟩, q5⟩
  obtain ⟨l4, hS4, hN4⟩ := hb4
  have hb5 : ∃ l : List Nat, Sl W v5 l ∧ l.length ≤ Rows.uptoBulk d5 := by
    obtain ⟨a, len, cap, rfl⟩ := okWide_slice Tryd.underlying24 (hval 5 24 v5 rfl rfl)
    obtain ⟨fuel, hf⟩ := h5
    obtain ⟨l, q1, q2, q3, q4, q5⟩ := src_of_trod (by simpa [Value.cells] using hf)
    exact ⟨l, ⟨q1, q3, q4, q2⟩, q5⟩
  obtain ⟨l5, hS5, hN5⟩ := hb5
  have hk2 : Rows.uptoBulk d2 ≤ 1048576 := by
    have h := of_decide_eq_true hk
    simp only [List.append_nil, Rows.uptoBulkAll] at h
    omega
  have hk4 : Rows.uptoBulk d4 ≤ 1048576 := by
    have h := of_decide_eq_true hk
    simp only [List.append_nil, Rows.uptoBulkAll] at h
    omega
  have hk5 : Rows.uptoBulk d5 ≤ 1048576 := by
    have h := of_decide_eq_true hk
    simp only [List.append_nil, Rows.uptoBulkAll] at h
    omega
  obtain ⟨hg, hr, ht⟩ := g6_of_laid (show laidMet Tryd.prog laid6 W from hL) (heap_enough hsh)
  clear hA0
  refine (ltaken_any a0 a1 a3 v2 v4 v5 l2 l4 l5 W hg hr ht hS2 hS4 hS5 (by omega) (by omega) (by omega)).mono fun e W' ⟨he, hf⟩ => ?_
  subst he
  have hlt : ∀ x ∈ [] ++ ([] ++ (p2 ++ ([] ++ (p4 ++ (p5 ++ []))))), x.block < W.heap.size := fun x hx => hW'.lt x (by simpa using hx)
  have hb := hf.below
  refine ⟨_, rfl, _, _, _, [], [] ++ ([] ++ (p2 ++ ([] ++ (p4 ++ (p5 ++ []))))), [], hW', ?_, ?_, ?_, hb.frame _, fun h => by cases h⟩
  · exact trodAll_cons_mk (shut_bool Tryd.underlying4 true) trodAll_mk0
  · exact (trodAll_cons_mk (shut_int Tryd.underlying3 w0) (trodAll_cons_mk (shut_int Tryd.underlying3 w1) (trodAll_cons_mk (Below.trod (by kernel_rfl) (by kernel_rfl) (by decide +kernel) h2 hb (fun x hx => hlt x (by simp [hx]))) (trodAll_cons_mk (shut_int Tryd.underlying3 w3) (trodAll_cons_mk (Below.trod (by kernel_rfl) (by kernel_rfl) (by decide +kernel) h4 hb (fun x hx => hlt x (by simp [hx]))) (trodAll_cons_mk (Below.trod (by kernel_rfl) (by kernel_rfl) (by decide +kernel) h5 hb (fun x hx => hlt x (by simp [hx]))) trodAll_mk0))))))
  · rfl

theorem ltaken_laid_met (os : Os) : laidMetH Tryd.prog Rows.lamportTakenUptoRow.laid ((mWorld os).forCall (fun _ _ => 0) ⟨#[], #[.int .i64 0, .int .i64 0, .slice none 0 0, .int .i64 0, .slice none 0 0, .slice none 0 0], []⟩).memory :=
  laidMetH_of_parts (laidMet_of_run' 8 (by kernel_rfl) (by kernel_rfl)) (by kernel_rfl)
theorem ltaken_reads (os : Os) {H : Type} (enc : TypeId × Value → H) : ∃ places, DataW.whole enc Tryd.prog ((mWorld os).forCall (fun _ _ => 0) ⟨#[], #[.int .i64 0, .int .i64 0, .slice none 0 0, .int .i64 0, .slice none 0 0, .slice none 0 0], []⟩).memory Tryd.f7.params.toList Rows.lamportTakenSpec.vars false #[Value.int .i64 0, .int .i64 0, .slice none 0 0, .int .i64 0, .slice none 0 0, .slice none 0 0].toList 8 = some ([.lit (.int .i64 0), .lit (.int .i64 0), .nil, .lit (.int .i64 0), .nil, .nil], [], places) :=
  ⟨[], by kernel_rfl⟩

theorem ltaken_lifted (os : Os) (started : os.Started) (H : Type) (enc : TypeId × Value → H) (F : Stop.Interp) :
    ReturnsInHanded {} Tryd.checked os 7 .any ((Rows.OpenSpec.upto Rows.lamportTakenSpec).preRow enc Tryd.prog Tryd.f7 Rows.lamportTakenUptoRow.domain false Rows.lamportTakenUptoRow.laid) (((Rows.OpenSpec.upto Rows.lamportTakenSpec).at F).post enc Tryd.prog Tryd.f7 false true false false) := by
  obtain ⟨places, hx⟩ := ltaken_reads os enc
  refine returnsInHanded_of_row (C := Tryd.checked) (s := Rows.OpenSpec.upto Rows.lamportTakenSpec) Tryd.ownKnob started (by kernel_rfl) Tryd.func7
    (witness_row_atRef (enc := enc) (C := Tryd.checked) false (mWorld os) #[.int .i64 0, .int .i64 0, .slice none 0 0, .int .i64 0, .slice none 0 0, .slice none 0 0] rfl (by kernel_rfl) (by kernel_rfl) (by kernel_rfl)
      (OpenSpec.preRow_of_cond 8 hx (by kernel_rfl) (fun k hk => by cases hk; kernel_rfl) (by kernel_rfl) (ltaken_laid_met os))) ?_
  intro W base args ds gs before hval hW _ hcond _ hL hsh _
  exact ltaken_contract H enc W base args ds gs before hval hW (hcond _ rfl) hL hsh

theorem ltaken_said : Rows.LamportTakenUptoSaid :=
  OpenClaim.holds_of_cond 7 Tryd.f7 rfl rfl rfl rfl rfl rfl rfl ⟨rfl, rfl, rfl, rfl, rfl⟩ rfl rfl rfl rfl rfl (by kernel_rfl) Tryd.func7 (by kernel_rfl)
    (of_decide_eq_true (by kernel_rfl)) (by unfold Func.isWrapper; first | (rw [if_pos (by decide +kernel)]; kernel_rfl) | (rw [if_neg (by decide +kernel)]; exact ⟨rfl, rfl⟩))
    (fun os started H enc _ F => by rw [OpenClaim.pre_eq_preRow]; exact ltaken_lifted os started H enc F)

theorem ltaken_plain (f : FuncId) (fn : Func) (hf : Tryd.pinned.checked.prog.funcNamed Rows.lamportTakenUptoRow.func = some f) (hfn : Tryd.pinned.checked.prog.funcs[f]? = some fn) :
    false = Tryd.pinned.checked.prog.looks [] ∧ ∀ (j : Nat) t, fn.params[j]? = some t → Tryd.pinned.checked.prog.wantsStandIn t = false := by
  obtain rfl : f = 7 := Option.some.inj ((show Tryd.prog.funcNamed Rows.lamportTakenUptoRow.func = some 7 by kernel_rfl).symm.trans hf) |>.symm
  obtain rfl : fn = Tryd.f7 := (Option.some.inj (Tryd.func7.symm.trans hfn)).symm
  refine ⟨by kernel_rfl, fun j t ht => ?_⟩
  rw [Tryd.params7] at ht
  have ht' : t = 3 ∨ t = 24 ∨ t = 3 ∨ t = 24 := by simpa using Array.mem_of_getElem? ht
  rcases ht' with rfl | rfl | rfl | rfl
  · exact (show Tryd.prog.wantsStandIn 3 = false by kernel_rfl)
  · exact (show Tryd.prog.wantsStandIn 24 = false by kernel_rfl)
  · exact (show Tryd.prog.wantsStandIn 3 = false by kernel_rfl)
  · exact (show Tryd.prog.wantsStandIn 24 = false by kernel_rfl)

/-- THE SECOND FORM's CARD. -/
theorem ltaken_card : Rows.LamportTakenUptoCardSaid :=
  Claim7.holds_tied_plain_at .later [] _ _ _ _ ltaken_said (fun _ h => by cases h) (by kernel_rfl) (fun _ h => by cases h) lamportTakenUpto_row_tie rfl ⟨rfl, rfl⟩ (by kernel_rfl) rfl ltaken_plain (by kernel_rfl)
#print axioms ltaken_card
end Go.Proofs.YtjokmlnghpnlbaaDoor

