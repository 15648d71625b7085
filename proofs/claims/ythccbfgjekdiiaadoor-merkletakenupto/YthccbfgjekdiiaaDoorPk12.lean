import Derived.Test.YthccbfgjekdiiaaDoorPk11
import Derived.Test.YthccbfgjekdiiaaDoorPk7
import Derived.Test.YthccbfgjekdiiaaDoorPk5
import Derived.Test.YthccbfgjekdiiaaDoorPk4
namespace Go.Proofs.YthccbfgjekdiiaaDoor
open Go.RowKit

set_option maxRecDepth 100000 in
set_option maxHeartbeats 2000000 in
/-- CheckProof, from nothing on. -/
theorem cpr_zero (wi : Nat) (hw1 : 1 ≤ wi) (hw32 : wi ≤ 32) (N : Nat) (oo : Option Addr) (oc : Nat) (rr : Option Addr) (rc : Nat) (xo : Option Addr) (xc : Nat) (old root : List Nat) (ps : List (List Nat)) (w : World) (hg : GS w) (ho : Sl w (.slice oo old.length oc) old) (hr : Sl w (.slice rr root.length rc) root)
    (W1 : World) (hW1 : w.alloc (.cells #[.slice oo old.length oc, .slice rr root.length rc] 25) = W1) (hF1 : Fr (fun _ => False) w W1)
    (hwd1 : Calls Tryd.prog 27 #[.int .i64 wi, .slice (some ⟨w.heap.size, 0, none⟩) 2 2] W1 fun e w' => e = .returned (.bool true) ∧ w' = W1)
    (hwd2 : Calls Tryd.prog 27 #[.int .i64 wi, .slice xo ps.length xc] W1 fun e w' => e = .returned (.bool true) ∧ w' = W1) :
    Calls Tryd.prog 9 #[.int .i64 wi, .int .i64 0, .int .i64 N, .slice oo old.length oc, .slice rr root.length rc, .slice xo ps.length xc] w fun e w' => e = .returned (.bool (decide (ps = []) && (decide (old = sm wi []) && (decide (0 < (N : Int)) || decide (root = sm wi []))))) ∧ Fr (fun _ => False) w w' := by
  have hsum : ∀ w', GS w' → Calls Tryd.prog 28 #[.int .i64 wi, .slice none 0 0] w' fun e w'' => ∃ yo, e = .returned (.slice yo wi wi) ∧ Sl w'' (.slice yo wi wi) (sm wi []) ∧ Fr (fun _ => False) w' w'' := fun w' hg => by
    have := sum_O (wi : Int) [] (.slice none 0 0) w' hg (.inl ⟨rfl, rfl⟩) (fun _ h => by cases h) (by simp) (fun _ _ _ e => by cases e; exact Nat.le_refl _) (fun _ _ _ _ e => by cases e)
    have hl := sm_wid wi hw1 hw32 []
    refine this.mono ?_
    rintro e w'' ⟨yo, rfl, hO⟩
    have hs := hO.sl (sm_lt _ _)
    rw [hl] at hs ⊢
    exact ⟨yo, rfl, hs, hO.fr⟩
  have HM := hide (show 1 ≤ (wi : Int) ∧ (wi : Int) ≤ 32 by omega)
  have HC := hide (And.intro hwd1 (And.intro hwd2 (And.intro hF1 (And.intro (hg.fr0 hF1) (And.intro (ho.fr0 hF1) (And.intro (hr.fr0 hF1) hsum))))))
  have q0 : ¬ (N : Int) < 0 := by omega
  clear hwd1 hwd2 hF1 hg ho hr hsum hw1 hw32
  generalize sm (wi : Int) [] = SM at *
  by_cases hps : ps = []
  · subst hps
    simp only [List.length_nil, decide_true, Bool.true_and] at HC ⊢
    obtain ⟨B1, hB1⟩ : ∃ B1, decide (old = SM) = B1 := ⟨_, rfl⟩
    obtain ⟨B2, hB2⟩ : ∃ B2, decide (root = SM) = B2 := ⟨_, rfl⟩
    rw [hB1, hB2]
    have HB := hide (And.intro hB1 hB2)
    clear hB1 hB2
    generalize old.length = OL at *
    generalize root.length = RL at *
    cases B1 with
    | false =>
      rw [Bool.false_and]
      go_enter Tryd.func9, Tryd.ntmps9
      go_wp2_with (go_at_call 26; refine (maybe_any wi _).mono ?_; rintro e' w' ⟨rfl, hw'⟩; rw [hw', decide_eq_true (unhide HM)])
      refine (unhide HC).1.mono ?_
      rintro e' w2 ⟨rfl, rfl⟩
      go_wp2_with fail
      refine (unhide HC).2.1.mono ?_
      rintro e' w3 ⟨rfl, rfl⟩
      go_wp2_with fail
      refine ((unhide HC).2.2.2.2.2.2 _ (unhide HC).2.2.2.1).mono ?_
      rintro e' w4 ⟨zo, rfl, hS, hF⟩
      have HS := hide (And.intro hS (And.intro ((unhide HC).2.2.1.trans hF (fun _ _ h => h)) (And.intro ((unhide HC).2.2.2.2.1.fr0 hF) ((unhide HC).2.2.2.2.2.1.fr0 hF))))
      clear hS hF
      go_wp2_with fail
      refine (beq_sl _ _ _ _ _ (unhide HS).2.2.1 (unhide HS).1).mono ?_
      rintro e' w5 ⟨rfl, rfl⟩
      rw [(unhide HB).1]
      go_wp2_with fail
      go_ret
      exact ⟨rfl, (unhide HS).2.1⟩
    | true =>
      rw [Bool.true_and]
      by_cases hN : 0 < N
      · have q1 : (0 : Int) < (N : Int) := by omega
        rw [decide_eq_true q1, Bool.true_or]
        go_enter Tryd.func9, Tryd.ntmps9
        go_wp2_with (go_at_call 26; refine (maybe_any wi _).mono ?_; rintro e' w' ⟨rfl, hw'⟩; rw [hw', decide_eq_true (unhide HM)])
        refine (unhide HC).1.mono ?_
        rintro e' w2 ⟨rfl, rfl⟩
        go_wp2_with fail
        refine (unhide HC).2.1.mono ?_
        rintro e' w3 ⟨rfl, rfl⟩
        go_wp2_with fail
        refine ((unhide HC).2.2.2.2.2.2 _ (unhide HC).2.2.2.1).mono ?_
        rintro e' w4 ⟨zo, rfl, hS, hF⟩
        have HS := hide (And.intro hS (And.intro ((unhide HC).2.2.1.trans hF (fun _ _ h => h)) (And.intro ((unhide HC).2.2.2.2.1.fr0 hF) ((unhide HC).2.2.2.2.2.1.fr0 hF))))
        clear hS hF
        go_wp2_with fail
        refine (beq_sl _ _ _ _ _ (unhide HS).2.2.1 (unhide HS).1).mono ?_
        rintro e' w5 ⟨rfl, rfl⟩
        rw [(unhide HB).1]
        go_wp2_with fail
        go_ret
        exact ⟨rfl, (unhide HS).2.1⟩
      · have hN0 : N = 0 := by omega
        subst hN0
        have e0 : decide (0 < ((0 : Nat) : Int)) = false := rfl
        rw [e0, Bool.false_or]
        clear e0 q0 hN
        go_enter Tryd.func9, Tryd.ntmps9
        go_wp2_with (go_at_call 26; refine (maybe_any wi _).mono ?_; rintro e' w' ⟨rfl, hw'⟩; rw [hw', decide_eq_true (unhide HM)])
        refine (unhide HC).1.mono ?_
        rintro e' w2 ⟨rfl, rfl⟩
        go_wp2_with fail
        refine (unhide HC).2.1.mono ?_
        rintro e' w3 ⟨rfl, rfl⟩
        go_wp2_with fail
        refine ((unhide HC).2.2.2.2.2.2 _ (unhide HC).2.2.2.1).mono ?_
        rintro e' w4 ⟨zo, rfl, hS, hF⟩
        have HS := hide (And.intro hS (And.intro ((unhide HC).2.2.1.trans hF (fun _ _ h => h)) (And.intro ((unhide HC).2.2.2.2.1.fr0 hF) ((unhide HC).2.2.2.2.2.1.fr0 hF))))
        clear hS hF
        go_wp2_with fail
        refine (beq_sl _ _ _ _ _ (unhide HS).2.2.1 (unhide HS).1).mono ?_
        rintro e' w5 ⟨rfl, rfl⟩
        rw [(unhide HB).1]
        go_wp2_with fail
        refine (beq_sl _ _ _ _ _ (unhide HS).2.2.2 (unhide HS).1).mono ?_
        rintro e' w6 ⟨rfl, rfl⟩
        rw [(unhide HB).2]
        go_wp2_with fail
        go_ret
        exact ⟨rfl, (unhide HS).2.1⟩
  · rw [decide_eq_false hps, Bool.false_and]
    have hl : ¬ ps.length = 0 := fun h => hps (List.length_eq_zero_iff.1 h)
    have q1 : ((ps.length : Int) == 0) = false := beq_false_of_ne (by omega)
    generalize ps.length = PL at *
    generalize old.length = OL at *
    generalize root.length = RL at *
    go_enter Tryd.func9, Tryd.ntmps9
    go_wp2_with (go_at_call 26; refine (maybe_any wi _).mono ?_; rintro e' w' ⟨rfl, hw'⟩; rw [hw', decide_eq_true (unhide HM)])
    refine (unhide HC).1.mono ?_
    rintro e' w2 ⟨rfl, rfl⟩
    go_wp2_with fail
    refine (unhide HC).2.1.mono ?_
    rintro e' w3 ⟨rfl, rfl⟩
    go_wp2_with fail
    refine ((unhide HC).2.2.2.2.2.2 _ (unhide HC).2.2.2.1).mono ?_
    rintro e' w4 ⟨zo, rfl, hS, hF⟩
    have HS := hide ((unhide HC).2.2.1.trans hF (fun _ _ h => h))
    clear hS hF
    go_wp2_with fail
    go_ret
    exact ⟨rfl, unhide HS⟩
end Go.Proofs.YthccbfgjekdiiaaDoor

namespace Go.Proofs.YthccbfgjekdiiaaDoor
open Go.RowKit

set_option maxRecDepth 100000 in
set_option maxHeartbeats 4000000 in
/-- CheckProof, of a claim. -/
theorem cpr_yes (wi m N tf tn : Nat) (hw : 1 ≤ wi ∧ wi ≤ 32) (hm0 : 0 < m) (hmN : m ≤ N) (oo : Option Addr) (on oc : Nat) (rr : Option Addr) (rl rrc : Nat) (xo : Option Addr) (xn xc : Nat) (ro : Option Addr) (rn rc : Nat) (yo : Option Addr) (yn yc D : Nat) (old root OV TV : List Nat) (w W1 : World) (hW1 : w.alloc (.cells #[.slice oo on oc, .slice rr rl rrc] 25) = W1) (hF1 : Fr (fun _ => False) w W1)
    (ho : Sl w (.slice oo on oc) old) (hr : Sl w (.slice rr rl rrc) root)
    (hwd1 : Calls Tryd.prog 27 #[.int .i64 wi, .slice (some ⟨w.heap.size, 0, none⟩) 2 2] W1 fun e w' => e = .returned (.bool true) ∧ w' = W1)
    (hwd2 : Calls Tryd.prog 27 #[.int .i64 wi, .slice xo xn xc] W1 fun e w' => e = .returned (.bool true) ∧ w' = W1)
    (hop : Calls Tryd.prog 30 #[.int .i64 wi, .int .i64 m, .int .i64 N, .slice oo on oc, .slice xo xn xc] W1 fun e w'' => e = .returned (.tuple #[cv wi tf tn (.slice ro rn rc) (.slice yo yn yc), .bool true]) ∧ Fr (fun _ => False) W1 w'')
    (hft : ∀ w', Calls Tryd.prog 31 #[cv wi tf tn (.slice ro rn rc) (.slice yo yn yc), sv 0 N] w' fun e w'' => e = .returned (.bool (decide (yn = D))) ∧ Fr (fun _ => False) w' w'')
    (hod : yn = D → ∀ w', Fr (fun _ => False) w w' → Calls Tryd.prog 32 #[cv wi tf tn (.slice ro rn rc) (.slice yo yn yc), sv 0 N] w' fun e w'' => ∃ uo un uc, e = .returned (.slice uo un uc) ∧ Sl w'' (.slice uo un uc) OV ∧ Fr (fun _ => False) w' w'')
    (htp : yn = D → ∀ w', Fr (fun _ => False) w w' → Calls Tryd.prog 33 #[cv wi tf tn (.slice ro rn rc) (.slice yo yn yc), sv 0 N] w' fun e w'' => ∃ uo un uc, e = .returned (.slice uo un uc) ∧ Sl w'' (.slice uo un uc) TV ∧ Fr (fun _ => False) w' w'') :
    Calls Tryd.prog 9 #[.int .i64 wi, .int .i64 m, .int .i64 N, .slice oo on oc, .slice rr rl rrc, .slice xo xn xc] w fun e w' => e = .returned (.bool (decide (yn = D) && (decide (OV = old) && decide (TV = root)))) ∧ Fr (fun _ => False) w w' := by
  have HM := hide (show 1 ≤ (wi : Int) ∧ (wi : Int) ≤ 32 by omega)
  have q1 : ¬ (m : Int) < 0 := by omega
  have q2 : ¬ (N : Int) < (m : Int) := by omega
  have q3 : ((m : Int) == 0) = false := beq_false_of_ne (by omega)
  have q4 : ¬ N < m := by omega
  have q5 : ¬ m = 0 := by omega
  clear hw hm0 hmN
  unfold cv sv at *
  have e0 : ((0 : Nat) : Int) = 0 := rfl
  simp only [e0] at hft hod htp
  clear e0
  by_cases hD : yn = D
  · rw [decide_eq_true hD] at hft ⊢
    rw [Bool.true_and]
    have ho2 := hod hD
    have ht2 := htp hD
    obtain ⟨B1, hB1⟩ : ∃ B1, decide (OV = old) = B1 := ⟨_, rfl⟩
    obtain ⟨B2, hB2⟩ : ∃ B2, decide (TV = root) = B2 := ⟨_, rfl⟩
    rw [hB1, hB2]
    have HB0 := hide (And.intro hB1 hB2)
    have HC := hide (And.intro hwd1 (And.intro hwd2 (And.intro hop (And.intro hF1 (And.intro hft (And.intro ho2 (And.intro ht2 (And.intro ho hr))))))))
    clear hwd1 hwd2 hop hft ho2 ht2 ho hr hod htp hF1 hB1 hB2 hD
    cases B1 with
    | false =>
      rw [Bool.false_and]
      go_enter Tryd.func9, Tryd.ntmps9
      go_wp2_with (go_at_call 26; refine (maybe_any wi _).mono ?_; rintro e' w' ⟨rfl, hw'⟩; rw [hw', decide_eq_true (unhide HM)])
      refine (unhide HC).1.mono ?_
      rintro e' w2 ⟨rfl, rfl⟩
      go_wp2_with fail
      refine (unhide HC).2.1.mono ?_
      rintro e' w3 ⟨rfl, rfl⟩
      go_wp2_with fail
      refine (unhide HC).2.2.1.mono ?_
      rintro e' wA ⟨rfl, hFA⟩
      have HA := hide ((unhide HC).2.2.2.1.trans hFA (fun _ _ h => h))
      clear hFA
      go_wp2_with fail
      obtain ⟨W2, hW2⟩ : ∃ W2, (wA.alloc (.cells #[.int .i64 wi, .int .i64 tf, .int .i64 tn, .slice ro rn rc, .slice yo yn yc] 59)).alloc (.cells #[.int .i64 0, .int .i64 N] 57) = W2 := ⟨_, rfl⟩
      rw [hW2]
      obtain ⟨⟨a0, a1, a2, a3, a4⟩, b0, b1, hF2⟩ := box52 wA _ _ _ _ _ _ _ _ _ W2 hW2
      refine ((unhide HC).2.2.2.2.1 _).mono ?_
      rintro e' wB ⟨rfl, hFB⟩
      have c0 := (hFB.cell (lt_of_cell a0) (fun h => h)).trans a0
      have c1 := (hFB.cell (lt_of_cell a1) (fun h => h)).trans a1
      have c2 := (hFB.cell (lt_of_cell a2) (fun h => h)).trans a2
      have c3 := (hFB.cell (lt_of_cell a3) (fun h => h)).trans a3
      have c4 := (hFB.cell (lt_of_cell a4) (fun h => h)).trans a4
      have d0 := (hFB.cell (lt_of_cell b0) (fun h => h)).trans b0
      have d1 := (hFB.cell (lt_of_cell b1) (fun h => h)).trans b1
      have HB := hide (((unhide HA).trans hF2 (fun _ _ h => h)).trans hFB (fun _ _ h => h))
      clear hF2 hFB hW2 a0 a1 a2 a3 a4 b0 b1 HA
      generalize wA.heap.size = P at *
      go_wp2_with fail
      refine ((unhide HC).2.2.2.2.2.1 _ (unhide HB)).mono ?_
      rintro e' wC ⟨uo, un, uc, rfl, hS, hFC⟩
      have HS := hide (And.intro hS ((unhide HB).trans hFC (fun _ _ h => h)))
      clear hS hFC
      go_wp2_with fail
      refine (beq_sl _ _ _ _ _ (unhide HS).1 ((unhide HC).2.2.2.2.2.2.2.1.fr0 (unhide HS).2)).mono ?_
      rintro e' wD ⟨rfl, rfl⟩
      rw [(unhide HB0).1]
      go_wp2_with fail
      go_ret
      exact ⟨rfl, (unhide HS).2⟩
    | true =>
      rw [Bool.true_and]
      go_enter Tryd.func9, Tryd.ntmps9
      go_wp2_with (go_at_call 26; refine (maybe_any wi _).mono ?_; rintro e' w' ⟨rfl, hw'⟩; rw [hw', decide_eq_true (unhide HM)])
      refine (unhide HC).1.mono ?_
      rintro e' w2 ⟨rfl, rfl⟩
      go_wp2_with fail
      refine (unhide HC).2.1.mono ?_
      rintro e' w3 ⟨rfl, rfl⟩
      go_wp2_with fail
      refine (unhide HC).2.2.1.mono ?_
      rintro e' wA ⟨rfl, hFA⟩
      have HA := hide ((unhide HC).2.2.2.1.trans hFA (fun _ _ h => h))
      clear hFA
      go_wp2_with fail
      obtain ⟨W2, hW2⟩ : ∃ W2, (wA.alloc (.cells #[.int .i64 wi, .int .i64 tf, .int .i64 tn, .slice ro rn rc, .slice yo yn yc] 59)).alloc (.cells #[.int .i64 0, .int .i64 N] 57) = W2 := ⟨_, rfl⟩
      rw [hW2]
      obtain ⟨⟨a0, a1, a2, a3, a4⟩, b0, b1, hF2⟩ := box52 wA _ _ _ _ _ _ _ _ _ W2 hW2
      refine ((unhide HC).2.2.2.2.1 _).mono ?_
      rintro e' wB ⟨rfl, hFB⟩
      have c0 := (hFB.cell (lt_of_cell a0) (fun h => h)).trans a0
      have c1 := (hFB.cell (lt_of_cell a1) (fun h => h)).trans a1
      have c2 := (hFB.cell (lt_of_cell a2) (fun h => h)).trans a2
      have c3 := (hFB.cell (lt_of_cell a3) (fun h => h)).trans a3
      have c4 := (hFB.cell (lt_of_cell a4) (fun h => h)).trans a4
      have d0 := (hFB.cell (lt_of_cell b0) (fun h => h)).trans b0
      have d1 := (hFB.cell (lt_of_cell b1) (fun h => h)).trans b1
      have HB := hide (((unhide HA).trans hF2 (fun _ _ h => h)).trans hFB (fun _ _ h => h))
      clear hF2 hFB hW2 a0 a1 a2 a3 a4 b0 b1 HA
      generalize wA.heap.size = P at *
      go_wp2_with fail
      refine ((unhide HC).2.2.2.2.2.1 _ (unhide HB)).mono ?_
      rintro e' wC ⟨uo, un, uc, rfl, hS, hFC⟩
      have f0 := (hFC.cell (lt_of_cell c0) (fun h => h)).trans c0
      have f1 := (hFC.cell (lt_of_cell c1) (fun h => h)).trans c1
      have f2 := (hFC.cell (lt_of_cell c2) (fun h => h)).trans c2
      have f3 := (hFC.cell (lt_of_cell c3) (fun h => h)).trans c3
      have f4 := (hFC.cell (lt_of_cell c4) (fun h => h)).trans c4
      have g0 := (hFC.cell (lt_of_cell d0) (fun h => h)).trans d0
      have g1 := (hFC.cell (lt_of_cell d1) (fun h => h)).trans d1
      have HS := hide (And.intro hS ((unhide HB).trans hFC (fun _ _ h => h)))
      clear hS hFC c0 c1 c2 c3 c4 d0 d1
      go_wp2_with fail
      refine (beq_sl _ _ _ _ _ (unhide HS).1 ((unhide HC).2.2.2.2.2.2.2.1.fr0 (unhide HS).2)).mono ?_
      rintro e' wD ⟨rfl, rfl⟩
      rw [(unhide HB0).1]
      go_wp2_with fail
      refine ((unhide HC).2.2.2.2.2.2.1 _ (unhide HS).2).mono ?_
      rintro e' wE ⟨to, tl, tc, rfl, hS, hFE⟩
      have HT := hide (And.intro hS ((unhide HS).2.trans hFE (fun _ _ h => h)))
      clear hS hFE
      go_wp2_with fail
      refine (beq_sl _ _ _ _ _ (unhide HT).1 ((unhide HC).2.2.2.2.2.2.2.2.fr0 (unhide HT).2)).mono ?_
      rintro e' wF ⟨rfl, rfl⟩
      rw [(unhide HB0).2]
      go_wp2_with fail
      go_ret
      exact ⟨rfl, (unhide HT).2⟩
  · rw [decide_eq_false hD] at hft ⊢
    rw [Bool.false_and]
    have HC := hide (And.intro hwd1 (And.intro hwd2 (And.intro hop (And.intro hF1 hft))))
    clear hwd1 hwd2 hop hft ho hr hod htp hF1 hD
    go_enter Tryd.func9, Tryd.ntmps9
    go_wp2_with (go_at_call 26; refine (maybe_any wi _).mono ?_; rintro e' w' ⟨rfl, hw'⟩; rw [hw', decide_eq_true (unhide HM)])
    refine (unhide HC).1.mono ?_
    rintro e' w2 ⟨rfl, rfl⟩
    go_wp2_with fail
    refine (unhide HC).2.1.mono ?_
    rintro e' w3 ⟨rfl, rfl⟩
    go_wp2_with fail
    refine (unhide HC).2.2.1.mono ?_
    rintro e' wA ⟨rfl, hFA⟩
    have HA := hide ((unhide HC).2.2.2.1.trans hFA (fun _ _ h => h))
    clear hFA
    go_wp2_with fail
    refine ((unhide HC).2.2.2.2 _).mono ?_
    rintro e' wB ⟨rfl, hFB⟩
    have HB := hide ((unhide HA).trans ((((Fr.refl _ _).alloc _).alloc _).trans hFB (fun _ _ h => h)) (fun _ _ h => h))
    clear hFB
    go_wp2_with fail
    go_ret
    exact ⟨rfl, unhide HB⟩
end Go.Proofs.YthccbfgjekdiiaaDoor

namespace Go.Proofs.YthccbfgjekdiiaaDoor
open Go.RowKit

set_option maxRecDepth 100000 in
set_option maxHeartbeats 2000000 in
/-- merkle.CheckProof. -/
theorem checkProof_any (j m n : Int) (ov rv x : Value) (old root : List Nat) (vs : List Value) (ps : List (List Nat)) (w : World) (hg : GS w) (ho : Sl w ov old) (hr : Sl w rv root) (hp : Pcs w x vs ps) (hcx : Cp x) (hn : n < 9223372036854775808) (hps : ps.length < 4611686018427387904) :
    Calls Tryd.prog 9 #[.int .i64 j, .int .i64 m, .int .i64 n, ov, rv, x] w fun e w' => e = .returned (.bool (chkQ j m n old root ps)) ∧ Fr (fun _ => False) w w' := by
  obtain ⟨oo, oc, rfl⟩ := ho.form
  obtain ⟨rr, rc, rfl⟩ := hr.form
  obtain ⟨xo, xc, rfl⟩ := hp.form
  by_cases h1o : j < 1 ∨ 32 < j
  · have h1 : ¬ (1 ≤ j ∧ j ≤ 32) := by omega
    have hB : chkQ j m n old root ps = false := by rw [chkQ, decide_eq_false h1]; rfl
    rw [hB]
    have HM := hide h1
    clear hg ho hr hp hcx hn hps hB h1 h1o
    generalize old.length = LL at *
    generalize root.length = RL at *
    generalize ps.length = PL at *
    go_enter Tryd.func9, Tryd.ntmps9
    go_wp2_with (go_at_call 26; refine (maybe_any j _).mono ?_; rintro e' w' ⟨rfl, hw'⟩; rw [hw', decide_eq_false (unhide HM)])
    go_ret
    exact ⟨rfl, Fr.refl _ _⟩
  · have h1 : 1 ≤ j ∧ j ≤ 32 := by omega
    clear h1o
    have HM := hide h1
    by_cases h2' : m < 0
    · have h2 : ¬ 0 ≤ m := by omega
      have hB : chkQ j m n old root ps = false := by rw [chkQ, decide_eq_true h1, decide_eq_false h2]; rfl
      rw [hB]
      clear hg ho hr hp hcx hn hps hB h1
      generalize old.length = LL at *
      generalize root.length = RL at *
      generalize ps.length = PL at *
      go_enter Tryd.func9, Tryd.ntmps9
      go_wp2_with (go_at_call 26; refine (maybe_any j _).mono ?_; rintro e' w' ⟨rfl, hw'⟩; rw [hw', decide_eq_true (unhide HM)])
      go_ret
      exact ⟨rfl, Fr.refl _ _⟩
    · have h2 : 0 ≤ m := by omega
      by_cases h3' : n < m
      · have h3 : ¬ m ≤ n := by omega
        have hB : chkQ j m n old root ps = false := by rw [chkQ, decide_eq_true h1, decide_eq_true h2, decide_eq_false h3]; rfl
        rw [hB]
        clear hg ho hr hp hcx hn hps hB h1
        generalize old.length = LL at *
        generalize root.length = RL at *
        generalize ps.length = PL at *
        go_enter Tryd.func9, Tryd.ntmps9
        go_wp2_with (go_at_call 26; refine (maybe_any j _).mono ?_; rintro e' w' ⟨rfl, hw'⟩; rw [hw', decide_eq_true (unhide HM)])
        go_ret
        exact ⟨rfl, Fr.refl _ _⟩
      · have h3 : m ≤ n := by omega
        clear h2' h3'
        obtain ⟨wi, rfl⟩ : ∃ k : Nat, j = (k : Int) := ⟨j.toNat, by omega⟩
        obtain ⟨I, rfl⟩ : ∃ k : Nat, m = (k : Int) := ⟨m.toNat, by omega⟩
        obtain ⟨N, rfl⟩ : ∃ k : Nat, n = (k : Int) := ⟨n.toNat, by omega⟩
        have h2' : ¬ (I : Int) < 0 := by omega
        have h3' : ¬ (N : Int) < (I : Int) := by omega
        have h4' : ¬ N < I := by omega
        obtain ⟨W1, hW1⟩ : ∃ W1, w.alloc (.cells #[.slice oo old.length oc, .slice rr root.length rc] 25) = W1 := ⟨_, rfl⟩
        have hF1 : Fr (fun _ => False) w W1 := by rw [← hW1]; exact (Fr.refl _ _).alloc _
        have hwd1 := wide_any wi _ _ [old, root] W1 (pcs2 ho hr W1 hW1) (by simp)
        have hwd2 := wide_any wi _ vs ps W1 (hp.fr0 hF1) hps
        have hce : chkQ wi I N old root ps = (wdq wi [old, root] && (wdq wi ps && (if (I : Int) = 0 then decide (ps = []) && (decide (old = sm wi []) && (decide (0 < (N : Int)) || decide (root = sm wi []))) else prfQ wi N I old root ps))) := by
          rw [chkQ, decide_eq_true h1, decide_eq_true h2, decide_eq_true h3]; rfl
        rw [hce]
        clear hce
        cases hq1 : wdq wi [old, root] with
        | false =>
          rw [hq1] at hwd1
          rw [Bool.false_and]
          have HC := hide (And.intro hwd1 hF1)
          clear hg ho hr hp hcx hn hps h1 h2 h3 hwd1 hwd2 hF1 hq1
          generalize old.length = LL at *
          generalize root.length = RL at *
          generalize ps.length = PL at *
          go_enter Tryd.func9, Tryd.ntmps9
          go_wp2_with (go_at_call 26; refine (maybe_any wi _).mono ?_; rintro e' w' ⟨rfl, hw'⟩; rw [hw', decide_eq_true (unhide HM)])
          refine (unhide HC).1.mono ?_
          rintro e' w2 ⟨rfl, rfl⟩
          go_wp2_with fail
          go_ret
          exact ⟨rfl, (unhide HC).2⟩
        | true =>
          rw [hq1] at hwd1
          rw [Bool.true_and]
          cases hq2 : wdq wi ps with
          | false =>
            rw [hq2] at hwd2
            rw [Bool.false_and]
            have HC := hide (And.intro hwd1 (And.intro hwd2 hF1))
            clear hg ho hr hp hcx hn hps h1 h2 h3 hwd1 hwd2 hF1 hq1 hq2
            generalize old.length = LL at *
            generalize root.length = RL at *
            generalize ps.length = PL at *
            go_enter Tryd.func9, Tryd.ntmps9
            go_wp2_with (go_at_call 26; refine (maybe_any wi _).mono ?_; rintro e' w' ⟨rfl, hw'⟩; rw [hw', decide_eq_true (unhide HM)])
            refine (unhide HC).1.mono ?_
            rintro e' w2 ⟨rfl, rfl⟩
            go_wp2_with fail
            refine (unhide HC).2.1.mono ?_
            rintro e' w3 ⟨rfl, rfl⟩
            go_wp2_with fail
            go_ret
            exact ⟨rfl, (unhide HC).2.2⟩
          | true =>
            rw [hq2] at hwd2
            rw [Bool.true_and]
            have how : old.length = wi := by have := wdq_true hq1 old (by simp); omega
            have hpw : ∀ p ∈ ps, p.length = wi := fun p hp => by have := wdq_true hq2 p hp; omega
            by_cases hI : I = 0
            · subst hI
              rw [if_pos (show ((0 : Nat) : Int) = 0 from rfl)]
              exact cpr_zero wi (by omega) (by omega) N oo oc rr rc xo xc old root ps w hg ho hr W1 hW1 hF1 hwd1 hwd2
            · rw [if_neg (by omega)]
              obtain ⟨i1, i2, i3, i4, i5⟩ := endF_ok N 0 N I (Nat.le_refl _) (by omega) (by omega)
              by_cases hend : (endF 0 N I).1 = 0 ∨ ps ≠ []
              · obtain ⟨ro, rn, rc', yo, yc, r, us, qs, s1, s2, s3, s4, s5, s6, s7⟩ := ofProof_any wi I N (by omega) (by omega) (by omega) _ _ old root vs ps w ho hp hcx how hpw hend
                rw [s6, bodyQ]
                exact cpr_yes wi I N _ _ (by omega) (by omega) (by omega) oo _ oc rr _ rc xo _ xc ro rn rc' yo qs.length yc _ old root _ _ w W1 hW1 hF1 ho hr hwd1 hwd2 (s7 W1 hF1) (fun w' => fits_any wi 0 N _ _ ro rn rc' yo _ yc w' (by omega) i4)
                  (fun hD w' hf => older_any wi (by omega) (by omega) N 0 N _ _ w' ro rn rc' r _ us qs (Nat.le_refl _) (by omega) i4 (hg.fr0 hf) (s1.fr0 hf) s2 (s3.fr0 hf) s4 hD s5)
                  (fun hD w' hf => top_any wi (by omega) (by omega) N 0 N _ _ w' ro rn rc' r _ us qs (Nat.le_refl _) (by omega) i4 (hg.fr0 hf) (s1.fr0 hf) s2 (s3.fr0 hf) s4 hD s5)
              · have hE : ¬ (endF 0 N I).1 = 0 := fun h => hend (.inl h)
                have hps0 : ps = [] := Classical.byContradiction fun h => hend (.inr h)
                subst hps0
                have hB : prfQ wi N I old root [] = false := by unfold prfQ; rw [if_neg hE]
                rw [hB]
                have hno := ofProof_no wi I N (by omega) (by omega) (by omega) hE oo old.length oc xo xc W1
                unfold cv at hno
                have e0 : ((0 : Nat) : Int) = 0 := rfl
                simp only [e0] at hno
                simp only [List.length_nil] at hwd2 ⊢
                have q3 : ((I : Int) == 0) = false := beq_false_of_ne (by omega)
                have HC := hide (And.intro hwd1 (And.intro hwd2 (And.intro hno hF1)))
                clear hg ho hr hp hcx hn hps h1 h2 h3 hwd1 hwd2 hF1 hq1 hq2 hno e0 hB hE hend how hpw i1 i2 i3 i4 i5
                generalize old.length = LL at *
                generalize root.length = RL at *
                go_enter Tryd.func9, Tryd.ntmps9
                go_wp2_with (go_at_call 26; refine (maybe_any wi _).mono ?_; rintro e' w' ⟨rfl, hw'⟩; rw [hw', decide_eq_true (unhide HM)])
                refine (unhide HC).1.mono ?_
                rintro e' w2 ⟨rfl, rfl⟩
                go_wp2_with fail
                refine (unhide HC).2.1.mono ?_
                rintro e' w3 ⟨rfl, rfl⟩
                go_wp2_with fail
                refine (unhide HC).2.2.1.mono ?_
                rintro e' wA ⟨rfl, hFA⟩
                have HA := hide ((unhide HC).2.2.2.trans hFA (fun _ _ h => h))
                clear hFA
                go_wp2_with fail
                go_ret
                exact ⟨rfl, ((unhide HA).alloc _).alloc _⟩
end Go.Proofs.YthccbfgjekdiiaaDoor

namespace Go.Proofs.YthccbfgjekdiiaaDoor
open Go.RowKit

theorem ints1 (w : World) (z : Int) (W : World) (hW : w.alloc (.cells #[.int .i64 z] 3) = W) : Ints W (.slice (some ⟨w.heap.size, 0, none⟩) 1 1) [z] := by
  refine .inr (.inr ⟨w.heap.size, 0, 1, rfl, by simp, by rw [← hW]; simp, fun j hj => ?_⟩)
  have hj0 : j = 0 := by simpa using hj
  subst hj0
  rw [← hW, World.cell?_alloc_at _ _ _ _ rfl]; rfl
/-- The proof, taken, and with one hash more refused. -/
structure TkA (w : World) (wi N I PN : Nat) (xo : Option Addr) (xc : Nat) (R O : List Nat) (Q : List (List Nat)) : Prop where
  len : Q.length = PN
  lt : PN ≤ 8000000
  prf : ∀ w', Fr (fun _ => False) w w' → Calls Tryd.prog 8 #[.int .i64 wi, .slice xo N xc, .int .i64 I] w' fun e w'' => ∃ ao cp vs, e = .returned (.tuple #[.slice ao PN cp, .int .i64 0]) ∧ Pcs w'' (.slice ao PN cp) vs Q ∧ Cp (.slice ao PN cp) ∧ Fr (fun _ => False) w' w''
  old : ∀ w', Fr (fun _ => False) w w' → Calls Tryd.prog 6 #[.int .i64 wi, .slice xo I xc] w' fun e w'' => ∃ yo yc, e = .returned (.slice yo wi yc) ∧ Sl w'' (.slice yo wi yc) O ∧ Fr (fun _ => False) w' w''
  yes : ∀ w' ov rv x vs, Fr (fun _ => False) w w' → Sl w' ov O → Sl w' rv R → Pcs w' x vs Q → Cp x → Calls Tryd.prog 9 #[.int .i64 wi, .int .i64 I, .int .i64 N, ov, rv, x] w' fun e w'' => e = .returned (.bool true) ∧ Fr (fun _ => False) w' w''
  no : ∀ w' ov rv x vs, Fr (fun _ => False) w w' → Sl w' ov O → Sl w' rv R → Pcs w' x vs (Q ++ [R]) → Cp x → Calls Tryd.prog 9 #[.int .i64 wi, .int .i64 I, .int .i64 N, ov, rv, x] w' fun e w'' => e = .returned (.bool false) ∧ Fr (fun _ => False) w' w''
theorem tkA (wi : Nat) (hw1 : 1 ≤ wi) (hw32 : wi ≤ 32) (xo : Option Addr) (xc : Nat) (us : List Value) (es : List (List Nat)) (I : Nat) (w : World) (hg : GS w) (ht : GT w) (hp : Pcs w (.slice xo es.length xc) us es) (hB : ∀ e ∈ es, e.length ≤ 16000000) (hn : es.length ≤ 4000000) (hI : I ≤ es.length) : ∃ PN, TkA w wi es.length I PN xo xc (mth wi (es.map (lf wi))) (mth wi ((es.map (lf wi)).take I)) (prf wi (es.map (lf wi)) es.length I) := by
  have hL := map_lf_len wi hw1 hw32 es
  have hll : (es.map (lf (wi : Int))).length = es.length := List.length_map _
  have hle : (prf wi (es.map (lf wi)) es.length I).length ≤ es.length + 1 := by
    unfold prf
    have hb := bes_len wi (es.map (lf wi)) es.length 0 es.length (endF 0 es.length I).1 (endF 0 es.length I).2 (Nat.le_refl _)
    have hd := dep_le es.length 0 es.length (endF 0 es.length I).1 (endF 0 es.length I).2 (Nat.le_refl _)
    split
    · simp
    · split
      · omega
      · rw [List.length_cons]; omega
  have hq := chkQ_prf wi hw1 hw32 (es.map (lf wi)) hL I (by omega)
  have hm := fun x => chkQ_more wi (es.map (lf wi)) es.length I (mth wi ((es.map (lf wi)).take I)) (mth wi (es.map (lf wi))) x
  rw [hll] at hq
  have hmt : mth wi ((es.map (lf (wi : Int))).take I) = mth wi ((es.take I).map (lf wi)) := by rw [List.map_take]
  refine ⟨_, rfl, by omega, fun w' hf => ?_, fun w' hf => ?_, fun w' ov rv x vs hf h1 h2 h3 h4 => ?_, fun w' ov rv x vs hf h1 h2 h3 h4 => ?_⟩
  · refine (mproof_in wi hw1 hw32 _ us es I w' (hg.fr0 hf) (ht.fr0 hf) (hp.fr0 hf) hB (by omega) hI).mono ?_
    rintro e w'' ⟨ao, cp, vs, rfl, hO⟩
    have h1 := hO.pcs
    have h2 := hO.cap
    rw [hO.len] at h1 h2 ⊢
    exact ⟨ao, cp, vs, rfl, h1, (fun _ _ _ e => by cases e; exact h2), hO.own.fr⟩
  · rw [hmt]
    refine (mroot_in wi hw1 hw32 _ _ (es.take I) w' (hg.fr0 hf) (ht.fr0 hf) ((hp.fr0 hf).take I hI) (fun e he => hB e (List.mem_of_mem_take he)) (by rw [List.length_take]; omega)).mono ?_
    rintro e w'' ⟨yo, yc, rfl, hO⟩
    have hw := mth_wid wi hw1 hw32 _ (map_lf_len wi hw1 hw32 (es.take I))
    have hs := hO.sl (mth_lt _ _ _ (Nat.le_refl _) (fun p hp => by obtain ⟨e, _, rfl⟩ := List.mem_map.1 hp; exact lf_lt _ _))
    rw [hw] at hs
    exact ⟨yo, yc, rfl, hs, hO.fr⟩
  · have := checkProof_any wi I es.length ov rv x _ _ vs _ w' (hg.fr0 hf) h1 h2 h3 h4 (by omega) (by omega)
    rw [hq] at this
    exact this
  · have := checkProof_any wi I es.length ov rv x _ _ vs _ w' (hg.fr0 hf) h1 h2 h3 h4 (by omega) (by rw [List.length_append]; simp; omega)
    rw [hm] at this
    exact this
/-- The path, likewise, and the hashes for its one place. -/
structure TkB (w : World) (wi N I PN : Nat) (xo : Option Addr) (xc : Nat) (R F : List Nat) (Q M : List (List Nat)) : Prop where
  len : Q.length = PN
  lt : PN ≤ 8000000
  pth : ∀ w', Fr (fun _ => False) w w' → Calls Tryd.prog 10 #[.int .i64 wi, .slice xo N xc, .int .i64 I] w' fun e w'' => ∃ ao cp vs, e = .returned (.tuple #[.slice ao PN cp, .int .i64 0]) ∧ Pcs w'' (.slice ao PN cp) vs Q ∧ Cp (.slice ao PN cp) ∧ Fr (fun _ => False) w' w''
  leaf : ∃ g o, xo = some ⟨g, o, none⟩ ∧ ∃ vo vn vc, ∀ w', Fr (fun _ => False) w w' → w'.cell? ⟨g, o + I, none⟩ = some (.slice vo vn vc) ∧ Calls Tryd.prog 11 #[.int .i64 wi, .slice vo vn vc] w' fun e w'' => ∃ yo yc, e = .returned (.slice yo wi yc) ∧ Sl w'' (.slice yo wi yc) F ∧ Fr (fun _ => False) w' w''
  yes : ∀ w' ov rv x vs, Fr (fun _ => False) w w' → Sl w' ov F → Sl w' rv R → Pcs w' x vs Q → Cp x → Calls Tryd.prog 12 #[.int .i64 wi, ov, .int .i64 I, .int .i64 N, x, rv] w' fun e w'' => e = .returned (.bool true) ∧ Fr (fun _ => False) w' w''
  no : ∀ w' ov rv x vs, Fr (fun _ => False) w w' → Sl w' ov F → Sl w' rv R → Pcs w' x vs (Q ++ [R]) → Cp x → Calls Tryd.prog 12 #[.int .i64 wi, ov, .int .i64 I, .int .i64 N, x, rv] w' fun e w'' => e = .returned (.bool false) ∧ Fr (fun _ => False) w' w''
  many : ∀ w' W, Fr (fun _ => False) w w' → w'.alloc (.cells #[.int .i64 (I : Int)] 3) = W → Calls Tryd.prog 13 #[.int .i64 wi, .slice xo N xc, .slice (some ⟨w'.heap.size, 0, none⟩) 1 1] W fun e w'' => ∃ ao cp vs, e = .returned (.tuple #[.slice ao PN cp, .int .i64 0]) ∧ Pcs w'' (.slice ao PN cp) vs M ∧ Cp (.slice ao PN cp) ∧ Fr (fun _ => False) w' w''
  took : ∀ w' W fo fc rv x vs, Fr (fun _ => False) w w' → Sl w' (.slice fo wi fc) F → Sl w' rv R → Pcs w' x vs M → Cp x → (w'.alloc (.cells #[.slice fo wi fc] 25)).alloc (.cells #[.int .i64 (I : Int)] 3) = W → Calls Tryd.prog 14 #[.int .i64 wi, .slice (some ⟨w'.heap.size, 0, none⟩) 1 1, .slice (some ⟨w'.heap.size + 1, 0, none⟩) 1 1, .int .i64 N, x, rv] W fun e w'' => e = .returned (.bool true) ∧ Fr (fun _ => False) w' w''
theorem tkB (wi : Nat) (hw1 : 1 ≤ wi) (hw32 : wi ≤ 32) (xo : Option Addr) (xc : Nat) (us : List Value) (es : List (List Nat)) (I : Nat) (w : World) (hg : GS w) (ht : GT w) (hp : Pcs w (.slice xo es.length xc) us es) (hB : ∀ e ∈ es, e.length ≤ 16000000) (hn : es.length ≤ 4000000) (hI : I < es.length) : ∃ PN F Q M, TkB w wi es.length I PN xo xc (mth wi (es.map (lf wi))) F Q M := by
  have hL := map_lf_len wi hw1 hw32 es
  have hll : (es.map (lf (wi : Int))).length = es.length := List.length_map _
  have hq := chkP_bes wi hw1 hw32 (es.map (lf wi)) hL I (by omega)
  have hm := fun x => chkP_more wi (es.map (lf wi)) es.length I (lf wi es[I]) (mth wi (es.map (lf wi))) x
  simp only [List.getElem_map, hll] at hq
  have hbl := bes_len wi (es.map (lf wi)) es.length 0 es.length I 1 (Nat.le_refl _)
  have hd := dep_le es.length 0 es.length I 1 (Nat.le_refl _)
  have hml := mny_dep wi (es.map (lf wi)) es.length 0 es.length I (Nat.le_refl _) (by omega) (by omega)
  have hri : rsF es.length 0 [(I : Int)] = true := by
    rw [rsF, if_neg (by omega)]; rfl
  have hcm := chkM_mny wi hw1 hw32 (es.map (lf wi)) hL [(I : Int)] (by rw [hll]; exact hri)
  rw [hll] at hcm
  have hgd : ([(I : Int)].map fun z => (es.map (lf (wi : Int))).getD z.toNat []) = [lf wi es[I]] := by
    simp only [List.map_cons, List.map_nil, Int.toNat_natCast]
    rw [List.getD, List.getElem?_eq_getElem (by omega), Option.getD_some, List.getElem_map]
  rw [hgd] at hcm
  have hlw := lf_len wi hw1 hw32 es[I]
  refine ⟨_, lf wi es[I], bes wi (es.map (lf wi)) 0 es.length I 1, mny wi (es.map (lf wi)) 0 es.length [(I : Int)], rfl, by omega, fun w' hf => ?_, ?_, fun w' ov rv x vs hf h1 h2 h3 h4 => ?_, fun w' ov rv x vs hf h1 h2 h3 h4 => ?_, fun w' W hf hW => ?_, fun w' W fo fc rv x vs hf h1 h2 h3 h4 hW => ?_⟩
  · refine (mpath_in wi hw1 hw32 _ us es I w' (hg.fr0 hf) (ht.fr0 hf) (hp.fr0 hf) hB (by omega) hI).mono ?_
    rintro e w'' ⟨ao, cp, vs, rfl, hO⟩
    have h1 := hO.pcs
    have h2 := hO.cap
    rw [hO.len] at h1 h2 ⊢
    exact ⟨ao, cp, vs, rfl, h1, (fun _ _ _ e => by cases e; exact h2), hO.own.fr⟩
  · obtain ⟨g, o, vo, vc, rfl, hc, hs⟩ := hp.nth (Fr.refl _ w) I hI
    refine ⟨g, o, rfl, vo, _, vc, fun w' hf => ⟨(hf.cell (lt_of_cell hc) (fun h => h)).trans hc, ?_⟩⟩
    refine (leaf_any (wi : Int) _ es[I] w' (hg.fr0 hf) (hs.fr0 hf) (hB _ (List.getElem_mem _))).mono ?_
    rintro e w'' ⟨yo, rfl, hO⟩
    have hs := hO.sl (lf_lt _ _)
    rw [hlw] at hs ⊢
    exact ⟨yo, wi, rfl, hs, hO.fr⟩
  · have := checkPath_any wi I es.length ov rv x _ _ vs _ w' (hg.fr0 hf) h1 h2 h3 h4 (by omega) (by omega)
    rw [hq] at this
    exact this
  · have := checkPath_any wi I es.length ov rv x _ _ vs _ w' (hg.fr0 hf) h1 h2 h3 h4 (by omega) (by rw [List.length_append]; simp; omega)
    rw [hm] at this
    exact this
  · have hF : Fr (fun _ => False) w' W := by rw [← hW]; exact (Fr.refl _ _).alloc _
    refine (mmany_in wi hw1 hw32 _ _ us es [(I : Int)] W ((hg.fr0 hf).fr0 hF) ((ht.fr0 hf).fr0 hF) ((hp.fr0 hf).fr0 hF) hB (by omega) (ints1 w' _ W hW) (by simp) hri).mono ?_
    rintro e w'' ⟨ao, cp, vs, rfl, hO⟩
    have h1 := hO.pcs
    have h2 := hO.cap
    rw [hO.len, hml, ← hbl] at h1 h2 ⊢
    exact ⟨ao, cp, vs, rfl, h1, (fun _ _ _ e => by cases e; exact h2), hF.trans hO.own.fr (fun _ _ h => h)⟩
  · obtain ⟨W1, hW1⟩ : ∃ W1, w'.alloc (.cells #[.slice fo wi fc] 25) = W1 := ⟨_, rfl⟩
    have hF1 : Fr (fun _ => False) w' W1 := by rw [← hW1]; exact (Fr.refl _ _).alloc _
    have hsz : W1.heap.size = w'.heap.size + 1 := by rw [← hW1]; simp
    rw [hW1] at hW
    have hF2 : Fr (fun _ => False) W1 W := by rw [← hW]; exact (Fr.refl _ _).alloc _
    have hF := hF1.trans hF2 (fun _ _ h => h)
    have hi := ints1 W1 _ W hW
    rw [hsz] at hi
    have hl : Pcs W (.slice (some ⟨w'.heap.size, 0, none⟩) 1 1) [.slice fo wi fc] [lf wi es[I]] := by
      have h1' : Sl w' (.slice fo (lf (wi : Int) es[I]).length fc) (lf wi es[I]) := by rw [hlw]; exact h1
      have := pcs1 h1' W1 (by rw [hlw]; exact hW1)
      rw [hlw] at this
      exact this.fr0 hF2
    have := checkMany_any wi es.length _ _ x rv [lf wi es[I]] _ [(I : Int)] _ _ vs W ((hg.fr0 hf).fr0 hF) hl (fun _ _ _ e => by cases e; exact Nat.le_refl _) hi (h3.fr0 hF) h4 (h2.fr0 hF) (by simp) (fun z hz => by simp at hz; omega) (by simp) (by omega) (by omega)
    rw [hcm] at this
    refine this.mono ?_
    rintro e w'' ⟨rfl, hF3⟩
    exact ⟨rfl, hF.trans hF3 (fun _ _ h => h)⟩
end Go.Proofs.YthccbfgjekdiiaaDoor

namespace Go.Proofs.YthccbfgjekdiiaaDoor
open Go.RowKit

/-- The hashes for places: taken, and with one more refused; or there are none. -/
structure TkC (w : World) (wi N : Nat) (xo : Option Addr) (xc : Nat) (yo : Option Addr) (Z yc : Nat) (R : List Nat) (lf' : Nat → List Nat) (zs : List Int) (MN : Nat) (Q : List (List Nat)) : Prop where
  len : Q.length = MN
  lt : MN ≤ 8000000
  many : ∀ w', Fr (fun _ => False) w w' → Calls Tryd.prog 13 #[.int .i64 wi, .slice xo N xc, .slice yo Z yc] w' fun e w'' => ∃ ao cp vs, e = .returned (.tuple #[.slice ao MN cp, .int .i64 0]) ∧ Pcs w'' (.slice ao MN cp) vs Q ∧ Cp (.slice ao MN cp) ∧ Fr (fun _ => False) w' w''
  one : ∀ k, k < Z → ∃ g o, yo = some ⟨g, o, none⟩ ∧ ∃ (p : Nat), p < N ∧ zs[k]? = some (p : Int) ∧ ∃ h q, xo = some ⟨h, q, none⟩ ∧ ∃ vo vn vc, ∀ w', Fr (fun _ => False) w w' → w'.cell? ⟨g, o + k, none⟩ = some (.int .i64 (p : Int)) ∧ w'.cell? ⟨h, q + p, none⟩ = some (.slice vo vn vc) ∧ Calls Tryd.prog 11 #[.int .i64 wi, .slice vo vn vc] w' fun e w'' => ∃ yo yc, e = .returned (.slice yo wi yc) ∧ OB w' w'' yo yc (lf' p)
  lfw : ∀ p, (lf' p).length = wi ∧ ∀ v ∈ lf' p, v < 256
  yes : ∀ w' rv x vs lv us, Fr (fun _ => False) w w' → Sl w' rv R → Pcs w' x vs Q → Cp x → Pcs w' lv us (zs.map fun z => lf' z.toNat) → Cp lv → Calls Tryd.prog 14 #[.int .i64 wi, lv, .slice yo Z yc, .int .i64 N, x, rv] w' fun e w'' => e = .returned (.bool true) ∧ Fr (fun _ => False) w' w''
  no : ∀ w' rv x vs lv us, Fr (fun _ => False) w w' → Sl w' rv R → Pcs w' x vs (Q ++ [R]) → Cp x → Pcs w' lv us (zs.map fun z => lf' z.toNat) → Cp lv → Calls Tryd.prog 14 #[.int .i64 wi, lv, .slice yo Z yc, .int .i64 N, x, rv] w' fun e w'' => e = .returned (.bool false) ∧ Fr (fun _ => False) w' w''
theorem tkC (wi : Nat) (hw1 : 1 ≤ wi) (hw32 : wi ≤ 32) (xo : Option Addr) (xc : Nat) (us : List Value) (es : List (List Nat)) (yo : Option Addr) (yc : Nat) (zs : List Int) (w : World) (hg : GS w) (ht : GT w) (hp : Pcs w (.slice xo es.length xc) us es) (hB : ∀ e ∈ es, e.length ≤ 16000000) (hn : es.length ≤ 4000000) (hy : Ints w (.slice yo zs.length yc) zs) (hzl : zs.length ≤ 4000000) (hri : rsF es.length 0 zs = true) :
    ∃ MN, TkC w wi es.length xo xc yo zs.length yc (mth wi (es.map (lf wi))) (fun p => lf wi (es.getD p [])) zs MN (mny wi (es.map (lf wi)) 0 es.length zs) := by
  have hL := map_lf_len wi hw1 hw32 es
  have hll : (es.map (lf (wi : Int))).length = es.length := List.length_map _
  obtain ⟨s1, s2⟩ := rsF_ok es.length zs 0 hri
  have hle := mny_le wi (es.map (lf wi)) 0 es.length zs
  have hcm := chkM_mny wi hw1 hw32 (es.map (lf wi)) hL zs (by rw [hll]; exact hri)
  have hmo := fun x => chkM_more wi (es.map (lf wi)) zs (by rw [hll]; exact hri) (mth wi (es.map (lf wi))) x
  rw [hll] at hcm hmo
  have hgd : (zs.map fun z => (es.map (lf (wi : Int))).getD z.toNat []) = zs.map fun z => lf wi (es.getD z.toNat []) := by
    apply List.map_congr_left
    intro z hz
    have := s2 z hz
    have hzl : z.toNat < es.length := by omega
    rw [List.getD, List.getD, List.getElem?_map, List.getElem?_eq_getElem hzl]
    rfl
  rw [hgd] at hcm hmo
  have hzb : ∀ z ∈ zs, -9223372036854775808 ≤ z := fun z hz => by have := s2 z hz; omega
  refine ⟨_, rfl, by omega, fun w' hf => ?_, fun k hk => ?_, fun p => ⟨lf_len wi hw1 hw32 _, lf_lt _ _⟩, fun w' rv x vs lv us' hf h1 h2 h3 h4 h5 => ?_, fun w' rv x vs lv us' hf h1 h2 h3 h4 h5 => ?_⟩
  · refine (mmany_in wi hw1 hw32 _ _ us es zs w' (hg.fr0 hf) (ht.fr0 hf) (hp.fr0 hf) hB (by omega) (hy.fr0 hf) (by omega) hri).mono ?_
    rintro e w'' ⟨ao, cp, vs, rfl, hO⟩
    have h1 := hO.pcs
    have h2 := hO.cap
    rw [hO.len] at h1 h2 ⊢
    exact ⟨ao, cp, vs, rfl, h1, (fun _ _ _ e => by cases e; exact h2), hO.own.fr⟩
  · obtain ⟨g, o, rfl, hc⟩ := hy.cell k hk
    have hz := s2 zs[k] (List.getElem_mem hk)
    obtain ⟨p, hpz⟩ : ∃ p : Nat, zs[k] = (p : Int) := ⟨zs[k].toNat, by omega⟩
    have hpn : p < es.length := by omega
    rw [hpz] at hc
    obtain ⟨h, q, vo, vc, rfl, hc2, hs⟩ := hp.nth (Fr.refl _ w) p hpn
    refine ⟨g, o, rfl, p, hpn, by rw [List.getElem?_eq_getElem hk, hpz], h, q, rfl, vo, _, vc, fun w' hf => ⟨(hf.cell (lt_of_cell hc) (fun h => h)).trans hc, (hf.cell (lt_of_cell hc2) (fun h => h)).trans hc2, ?_⟩⟩
    have hlw := lf_len wi hw1 hw32 es[p]
    have hgp : es.getD p [] = es[p] := by rw [List.getD, List.getElem?_eq_getElem hpn]; rfl
    rw [hgp]
    refine (leaf_any (wi : Int) _ es[p] w' (hg.fr0 hf) (hs.fr0 hf) (hB _ (List.getElem_mem _))).mono ?_
    rintro e w'' ⟨yo, rfl, hO⟩
    rw [hlw] at hO ⊢
    exact ⟨yo, wi, rfl, hO⟩
  · have := checkMany_any wi es.length lv _ x rv _ _ zs _ us' vs w' (hg.fr0 hf) h4 h5 (hy.fr0 hf) h2 h3 h1 (by omega) hzb (by rw [List.length_map]; omega) (by omega) (by omega)
    rw [hcm] at this
    exact this
  · have := checkMany_any wi es.length lv _ x rv _ _ zs _ us' vs w' (hg.fr0 hf) h4 h5 (hy.fr0 hf) h2 h3 h1 (by omega) hzb (by rw [List.length_map]; omega) (by rw [List.length_append]; simp; omega) (by omega)
    rw [hmo] at this
    exact this
end Go.Proofs.YthccbfgjekdiiaaDoor

namespace Go.Proofs.YthccbfgjekdiiaaDoor
open Go.RowKit

/-- append(v, x...), where it is asked for. -/
theorem wpList_appG {P : Program} {ops : Array Oper} {rest : List Oper} {op : Oper} {a : Act} {w w' : World} {Q : Exit → Act → World → Prop} (hgd : Region.wanted op (yielded ops a.tmps) = true) (s x : Operand) (t u : TypeId) (ho : op.op = .call { callee := .builtin .append, args := #[s, x], argTypes := #[t, u] })
    (vs vx v' : Value) (hs : a.eval s = vs) (hx : a.eval x = vx) (hr : (Builtin.append_ #[t, u] op.type #[vs, vx]).run P w = .ok v' w')
    (h : wpList P ops Q rest (a.put op.dst v') w') : wpList P ops Q (op :: rest) a w := by
  refine wpList_step fun K hK => ?_
  rw [if_pos hgd]
  unfold Oper.wp execOp
  simp only [ho, resolve, invoke, builtin, Sem.run_bind, Sem.run_pure, Result.andThen_ok, List.map_toArray, List.map_cons, List.map_nil, hs, hx, hr]
  exact hK _ _ h
end Go.Proofs.YthccbfgjekdiiaaDoor

