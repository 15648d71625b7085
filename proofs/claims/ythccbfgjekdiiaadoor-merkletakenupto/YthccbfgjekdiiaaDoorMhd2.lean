import Derived.Test.YthccbfgjekdiiaaDoorPk12
namespace Go.Proofs.YthccbfgjekdiiaaDoor
open Go.RowKit

set_option maxRecDepth 100000 in
set_option maxHeartbeats 8000000 in
/-- MerkleTaken, a case. -/
theorem taken_2 (j : Int) (x : Value) (vs : List Value) (es : List (List Nat)) (i : Int) (y : Value) (zs : List Int) (w : World) (hg : GS w) (ht : GT w) (hp : Pcs w x vs es) (hC : Cp x) (hB : ∀ e ∈ es, e.length ≤ 16000000) (hn : es.length ≤ 4000000) (hy : Ints w y zs) (hzl : zs.length ≤ 4000000) (hzb : ∀ z ∈ zs, -9223372036854775808 ≤ z) (hi : i = (es.length : Int)) :
    Calls Tryd.prog 3 #[.int .i64 j, x, .int .i64 i, y] w fun e w' => e = .returned (.bool true) ∧ Fr (fun _ => False) w w' := by
  obtain ⟨xo, xc, rfl⟩ := hp.form
  obtain ⟨yo, yc, rfl⟩ := hy.form
  obtain ⟨wi, hw1, hw32, hwd⟩ := width_any j w
  have hxc : es.length ≤ xc := hC _ _ _ rfl
  have hRw := mth_wid wi hw1 hw32 _ (map_lf_len wi hw1 hw32 es)
  have hroot : ∀ w', Fr (fun _ => False) w w' → Calls Tryd.prog 6 #[.int .i64 wi, .slice xo es.length xc] w' fun e w'' => ∃ ro rc, e = .returned (.slice ro wi rc) ∧ Sl w'' (.slice ro wi rc) (mth wi (es.map (lf wi))) ∧ Fr (fun _ => False) w' w'' := fun w' hf => by
    refine (mroot_in wi hw1 hw32 _ _ es w' (hg.fr0 hf) (ht.fr0 hf) (hp.fr0 hf) hB (by omega)).mono ?_
    rintro e w'' ⟨yo, yc, rfl, hO⟩
    have hs := hO.sl (mth_lt _ _ _ (Nat.le_refl _) (fun p hp => by obtain ⟨e, _, rfl⟩ := List.mem_map.1 hp; exact lf_lt _ _))
    rw [hRw] at hs
    exact ⟨yo, yc, rfl, hs, hO.fr⟩
  have hlv := fun (w' : World) (hf : Fr (fun _ => False) w w') => mlives_any w' (hg.fr0 hf) (ht.fr0 hf)
  have hA := fun I (hI : I ≤ es.length) => tkA wi hw1 hw32 xo xc vs es I w hg ht hp hB hn hI
  have hBk := fun I (hI : I < es.length) => tkB wi hw1 hw32 xo xc vs es I w hg ht hp hB hn hI
  have hCy := fun hri => tkC wi hw1 hw32 xo xc vs es yo yc zs w hg ht hp hB hn hy hzl hri
  have hCn : rsF es.length 0 zs = false → ∀ w', Fr (fun _ => False) w w' → Calls Tryd.prog 13 #[.int .i64 wi, .slice xo es.length xc, .slice yo zs.length yc] w' fun e w'' => e = .returned (.tuple #[.slice none 0 0, .int .i64 1]) ∧ Fr (fun _ => False) w' w'' := fun h w' hf => mmany_no wi _ _ vs es zs w' (hg.fr0 hf) (hp.fr0 hf) hB (by omega) (hy.fr0 hf) (by omega) hzb (.inr h)
  generalize mth wi (es.map (lf wi)) = R at *
  have HC := hide (And.intro hwd (And.intro hroot (And.intro hlv (And.intro hA (And.intro hBk (And.intro hCy hCn))))))
  have HZl := hide hzl
  clear hwd hroot hlv hA hBk hCy hCn hg ht hp hC hB hn hy hzl hzb hRw hw1 hw32
  generalize hN : es.length = N at *
  generalize hZ : zs.length = Z at *
  go_enter Tryd.func3, Tryd.ntmps3
  go_wp2_with fail
  refine (unhide HC).1.mono ?_
  rintro e w0 ⟨rfl, rfl⟩
  go_wp2_with fail
  refine ((unhide HC).2.1 _ (Fr.refl _ _)).mono ?_
  rintro e w1 ⟨ro, rc, rfl, hR, hF1⟩
  have H1 := hide (And.intro hF1 hR)
  clear hF1 hR
  go_wp2_with fail
  refine ((unhide HC).2.2.1 _ (unhide H1).1).mono ?_
  rintro e w2 ⟨rfl, hF2⟩
  have H2 := hide (And.intro ((unhide H1).1.trans hF2 (fun _ _ h => h)) ((unhide H1).2.fr0 hF2))
  clear hF2 H1
  subst hi
  obtain ⟨PN, hTA⟩ := (unhide HC).2.2.2.1 N (Nat.le_refl N)
  generalize mth wi ((es.map (lf wi)).take N) = OO at *
  generalize prf wi (es.map (lf wi)) es.length N = PQ at *
  have HA := hide hTA
  clear hTA
  have qI0 : (0 : Int) ≤ (N : Int) := by omega
  have qIx : (N : Int) ≤ (xc : Int) := by omega
  go_wp2_with fail
  refine ((unhide HA).prf _ (unhide H2).1).mono ?_
  rintro e w3 ⟨ao, cp, pvs, rfl, hP, hCp, hF3⟩
  have H3 := hide (And.intro ((unhide H2).1.trans hF3 (fun _ _ h => h)) (And.intro ((unhide H2).2.fr0 hF3) (And.intro hP hCp)))
  clear hP hCp hF3 H2
  go_wp2_with fail
  refine ((unhide HA).old _ (unhide H3).1).mono ?_
  rintro e w4 ⟨oo, oc, rfl, hO, hF4⟩
  have H4 := hide (And.intro ((unhide H3).1.trans hF4 (fun _ _ h => h)) (And.intro ((unhide H3).2.1.fr0 hF4) (And.intro ((unhide H3).2.2.1.fr0 hF4) (And.intro (unhide H3).2.2.2 hO))))
  clear hO hF4 H3
  go_wp2_with fail
  refine ((unhide HA).yes _ _ _ _ _ (unhide H4).1 (unhide H4).2.2.2.2 (unhide H4).2.1 (unhide H4).2.2.1 (unhide H4).2.2.2.1).mono ?_
  rintro e w5 ⟨rfl, hF5⟩
  have H5 := hide (And.intro ((unhide H4).1.trans hF5 (fun _ _ h => h)) (And.intro ((unhide H4).2.1.fr0 hF5) (And.intro ((unhide H4).2.2.1.fr0 hF5) ((unhide H4).2.2.2.2.fr0 hF5))))
  clear hF5 H4
  obtain ⟨a1, c1, w6, hr1, a2, c2, w7, hr2, hPm, hCm, hFm⟩ := app_more (unhide H5).2.2.1 (unhide HA).len (unhide HA).lt (unhide H5).2.1
  have HR1 := hide hr1
  have HR2 := hide hr2
  have H7 := hide (And.intro ((unhide H5).1.trans hFm (fun _ _ h => h)) (And.intro ((unhide H5).2.1.fr0 hFm) (And.intro hPm (And.intro hCm ((unhide H5).2.2.2.fr0 hFm)))))
  clear hr1 hr2 hPm hCm hFm
  go_wp2_with (at_builtin; first | refine wpList_appG rfl _ _ 22 22 rfl _ _ _ rfl rfl (unhide HR1) ?_ | refine wpList_appG rfl _ _ 22 22 rfl _ _ _ rfl rfl (unhide HR2) ?_)
  refine ((unhide HA).no _ _ _ _ _ (unhide H7).1 (unhide H7).2.2.2.2 (unhide H7).2.1 (unhide H7).2.2.1 (unhide H7).2.2.2.1).mono ?_
  rintro e w8 ⟨rfl, hF8⟩
  have H8 := hide (And.intro ((unhide H7).1.trans hF8 (fun _ _ h => h)) ((unhide H7).2.1.fr0 hF8))
  clear hF8 H7 H5 HR1 HR2 HA
  have HZ' := H8
  cases hri : rsF N 0 zs with
  | false =>
    go_wp2_with fail
    refine ((unhide HC).2.2.2.2.2.2 hri _ (unhide HZ').1).mono ?_
    rintro e wa ⟨rfl, hFa⟩
    have Ha := hide ((unhide HZ').1.trans hFa (fun _ _ h => h))
    clear hFa
    go_wp2_with fail
    go_ret
    exact ⟨rfl, unhide Ha⟩
  | true =>
    obtain ⟨MN, hTC⟩ := (unhide HC).2.2.2.2.2.1 hri
    generalize mny wi (es.map (lf wi)) 0 es.length zs = MQ at *
    have HT := hide hTC
    clear hTC
    go_wp2_with fail
    refine ((unhide HT).many _ (unhide HZ').1).mono ?_
    rintro e wa ⟨mo, mc, mvs, rfl, hM, hCm, hFa⟩
    have Ha := hide (And.intro ((unhide HZ').1.trans hFa (fun _ _ h => h)) (And.intro ((unhide HZ').2.fr0 hFa) (And.intro hM hCm)))
    clear hM hCm hFa
    go_wp2_with fail
    go_loopw [20, 21] (fun lv iv wr => ∃ (k : Nat) (lo : Option Addr) (lc : Nat) (us : List Value), k ≤ Z ∧ iv = .int .i64 (k : Nat) ∧ lv = .slice lo k lc ∧ us.length = k ∧ OL wa wr lo lc us ((zs.take k).map fun z => lf wi (es.getD z.toNat []))) (fun _ iv _ => Z - (intOf iv).toNat)
    case atStart => exact ⟨0, none, 0, [], Nat.zero_le _, rfl, rfl, rfl, OL.nil wa⟩
    case round =>
      obtain ⟨k, lo, lc, us, hk, rfl, rfl, hus, hI⟩ := hrel
      have hZ8 := unhide HZl
      by_cases hlt : k < Z
      · have hlt' : (k : Int) < (Z : Int) := by omega
        have hFr := (unhide Ha).1.trans hI.own.fr (fun _ _ h => h)
        obtain ⟨g1, o1, rfl, p, hpN, hzk, h1, q1, hx1, vo, vn, vc, hone⟩ := (unhide HT).one k hlt
        cases hx1
        obtain ⟨c1, c2, hcl⟩ := hone wr hFr
        have hpN' : (p : Int) < (N : Int) := by omega
        have hp0 : (0 : Int) ≤ (p : Int) := by omega
        have htk : (zs.take (k + 1)).map (fun z => lf wi (es.getD z.toNat [])) = (zs.take k).map (fun z => lf wi (es.getD z.toNat [])) ++ [lf wi (es.getD p [])] := by
          rw [List.take_add_one, hzk, Option.toList_some, List.map_append]; rfl
        have hlw := (unhide HT).lfw p
        generalize lf wi (es.getD p []) = LP at *
        have HI := hide (And.intro hI (And.intro hcl (And.intro htk hlw)))
        clear hI hcl htk hlw hone hFr hzk
        have w1 : IntKind.i64.wrap ((k : Int) + 1) = (k : Int) + 1 := by rw [IntKind.wrap_i64]; omega
        go_wp2_with fail
        refine (unhide HI).2.1.mono ?_
        rintro e' wb ⟨yo', yc', rfl, hO⟩
        obtain ⟨ao', cp', wd, hr2, hL2⟩ := (unhide HI).1.stepW LP wi (unhide HI).2.2.2.1 yo' yc' hO (unhide HI).2.2.2.2 (by omega)
        rw [← (unhide HI).2.2.1] at hL2
        rw [hus] at hr2
        have HL := hide (And.intro hL2 hr2)
        clear hL2 hr2 hO
        go_wp2_with (at_builtin; refine wpList_app rfl _ _ 22 22 rfl _ _ _ rfl rfl (unhide HL).2 ?_)
        exact ⟨⟨k + 1, ao', cp', _, by omega, by go_num, rfl, by rw [List.length_append, hus]; rfl, (unhide HL).1⟩, by simp [intOf]; omega⟩
      · have hkZ : k = Z := by omega
        have hlt' : ¬ (k : Int) < (Z : Int) := by omega
        subst hkZ
        have htk : zs.take k = zs := List.take_of_length_le (by omega)
        rw [htk] at hI
        have hpc := hI.pcs
        have hcp := hI.cap
        rw [hus] at hpc hcp
        have hFr := (unhide Ha).1.trans hI.own.fr (fun _ _ h => h)
        have H6 := hide (And.intro hFr (And.intro ((unhide Ha).2.1.fr0 hI.own.fr) (And.intro ((unhide Ha).2.2.1.fr0 hI.own.fr) (And.intro (unhide Ha).2.2.2 (And.intro hpc (show Cp (.slice lo k lc) from fun _ _ _ e => by cases e; exact hcp))))))
        clear hI hpc hcp hFr htk
        go_wp2_with fail
        refine ((unhide HT).yes _ _ _ _ _ _ (unhide H6).1 (unhide H6).2.1 (unhide H6).2.2.1 (unhide H6).2.2.2.1 (unhide H6).2.2.2.2.1 (unhide H6).2.2.2.2.2).mono ?_
        rintro e wd ⟨rfl, hFd⟩
        have H7 := hide (And.intro ((unhide H6).1.trans hFd (fun _ _ h => h)) (And.intro ((unhide H6).2.1.fr0 hFd) (And.intro ((unhide H6).2.2.1.fr0 hFd) ((unhide H6).2.2.2.2.1.fr0 hFd))))
        clear hFd
        obtain ⟨a1, c1, w12, hr1, a2, c2, w13, hr2, hPm, hCm, hFm⟩ := app_more (unhide H7).2.2.1 (unhide HT).len (unhide HT).lt (unhide H7).2.1
        have HR1 := hide hr1
        have HR2 := hide hr2
        have H8' := hide (And.intro ((unhide H7).1.trans hFm (fun _ _ h => h)) (And.intro ((unhide H7).2.1.fr0 hFm) (And.intro hPm (And.intro hCm ((unhide H7).2.2.2.fr0 hFm)))))
        clear hr1 hr2 hPm hCm hFm
        go_wp2_with (at_builtin; first | refine wpList_appG rfl _ _ 22 22 rfl _ _ _ rfl rfl (unhide HR1) ?_ | refine wpList_appG rfl _ _ 22 22 rfl _ _ _ rfl rfl (unhide HR2) ?_)
        refine ((unhide HT).no _ _ _ _ _ _ (unhide H8').1 (unhide H8').2.1 (unhide H8').2.2.1 (unhide H8').2.2.2.1 (unhide H8').2.2.2.2 (unhide H6).2.2.2.2.2).mono ?_
        rintro e we ⟨rfl, hFe⟩
        have H9' := hide ((unhide H8').1.trans hFe (fun _ _ h => h))
        clear hFe
        go_wp2_with fail
        go_ret
        exact ⟨rfl, unhide H9'⟩
end Go.Proofs.YthccbfgjekdiiaaDoor

