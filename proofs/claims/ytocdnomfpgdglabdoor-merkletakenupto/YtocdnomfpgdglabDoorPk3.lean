import Derived.Test.YtocdnomfpgdglabDoorPk2
import Derived.Test.YtocdnomfpgdglabDoorPk1
import Derived.Test.YtocdnomfpgdglabDoorSre
namespace Go.Proofs.YtocdnomfpgdglabDoor
open Go.RowKit

set_option maxRecDepth 100000 in
set_option maxHeartbeats 2000000 in
/-- The walk down both halves, the places end there. -/
theorem mtop_goc (W0 : World) (wi mb f n K F2 N2 C N : Nat) (lg lo lcap g o xc : Nat) (w : World) (hs : List (List Nat)) (t1 t2 : List Nat) (r1 r2 : List (List Nat)) (A : Prop) (hw1 : 1 ≤ wi) (hnd : (nd wi t1 t2).length = wi) (hN : 0 < N) (hn1 : ¬ n = 1) (hCN : C ≤ N) (hNl : N ≤ lcap) (hNx : N ≤ xc) (hM : McAt W0 w mb wi hs) (hcl : ¬ lcap = C) (hcx : xc = C)
    (hhv : ∀ w', Calls Tryd.prog 95 #[sv f n] w' fun e w'' => e = .returned (.tuple #[sv f K, sv F2 N2]) ∧ Fr (fun _ => False) w' w'')
    (hfind : ∀ w', Fr (fun _ => False) W0 w' → Calls Tryd.prog 100 #[.slice (some ⟨g, o, none⟩) N xc, .int .i64 (F2 : Int)] w' fun e w'' => ∃ bb, e = .returned (.tuple #[.int .i64 (C : Nat), .bool bb]) ∧ Fr (fun _ => False) w' w'')
    (h1 : ∀ w', McAt W0 w' mb wi hs → Calls Tryd.prog 65 #[.pointer (some ⟨mb, 0, none⟩), sv f K, .slice (some ⟨lg, lo, none⟩) C lcap, .slice (some ⟨g, o, none⟩) C xc] w' fun e w'' => TpYes W0 wi mb w' w'' e t1 r1)
    (h2 : ∀ w', McAt W0 w' mb wi r1 → Calls Tryd.prog 65 #[.pointer (some ⟨mb, 0, none⟩), sv F2 N2, .slice (some ⟨lg, lo + C, none⟩) 0 (lcap - C), .slice (some ⟨g, o, none⟩) 0 0] w' fun e w'' => (A → TpYes W0 wi mb w' w'' e t2 r2) ∧ (¬ A → TpNo W0 wi mb w' w'' e))
    (hnode : ∀ w' x y, A → Fr (fun _ => False) W0 w' → Sl w' x t1 → Sl w' y t2 → Calls Tryd.prog 33 #[.int .i64 wi, x, y] w' fun e w'' => ∃ yo, e = .returned (.slice yo wi wi) ∧ OB w' w'' yo wi (nd wi t1 t2)) :
    Calls Tryd.prog 65 #[.pointer (some ⟨mb, 0, none⟩), sv f n, .slice (some ⟨lg, lo, none⟩) N lcap, .slice (some ⟨g, o, none⟩) N xc] w fun e w' => (A → TpYes W0 wi mb w w' e (nd wi t1 t2) r2) ∧ (¬ A → TpNo W0 wi mb w w' e) := by
  have q7 : ¬ C = lcap := fun h => hcl h.symm
  unfold sv at *
  obtain ⟨Wa, hWa⟩ : ∃ Wa, w.alloc (.cells #[.int .i64 f, .int .i64 n] 61) = Wa := ⟨_, rfl⟩
  obtain ⟨a0, a1, hFa⟩ := box2p w _ _ _ Wa hWa
  have hmb : mb < w.heap.size := lt_of_cell hM.c0
  have hnil0 : ∀ W, (binOp .eql 23 (.slice none 0 0) (.slice none 0 0)).run Tryd.prog W = .ok (.bool true) W := fun W => Lib.run_eql_slice_nil W _ _ none 0 0 0 0 Tryd.underlying23
  have hnil1 : ∀ W a n c, (binOp .eql 23 (.slice (some a) n c) (.slice none 0 0)).run Tryd.prog W = .ok (.bool false) W := fun W a n c => Lib.run_eql_slice_nil W _ _ (some a) n c 0 0 Tryd.underlying23
  have q0 : ((N : Int) == 0) = false := beq_false_of_ne (by omega)
  have q1 : ¬ N = 0 := by omega
  have q2 : ((n : Int) == 1) = false := beq_false_of_ne (by omega)
  have q4 : (C : Int) ≤ (N : Int) := by omega
  have q5 : (C : Int) ≤ (xc : Int) := by omega
  have q6 : (C : Int) ≤ (lcap : Int) := by omega
  obtain rfl : C = N := by omega
  subst hcx
  have HC := hide (And.intro hhv (And.intro hfind (And.intro h1 (And.intro h2 hnode))))
  have HM := hide (And.intro hM (And.intro hFa hmb))
  clear hhv hfind h1 h2 hnode hM hFa hmb
  go_enter Tryd.func65, Tryd.ntmps65
  go_wp2_with fail
  try rw [hWa]
  clear hWa
  generalize w.heap.size = b at *
  refine ((unhide HC).1 _).mono ?_
  rintro e wA ⟨rfl, hFA⟩
  have HF := hide ((unhide HM).2.1.trans hFA (fun _ _ h => h))
  have hbA : mb < wA.heap.size := Nat.lt_of_lt_of_le (lt_of_cell (unhide HM).1.c0) (unhide HF).size
  clear hFA a0 a1
  go_wp2_with fail
  obtain ⟨W1, hW1⟩ : ∃ W1, (wA.alloc (.cells #[.int .i64 f, .int .i64 K] 61)).alloc (.cells #[.int .i64 F2, .int .i64 N2] 61) = W1 := ⟨_, rfl⟩
  rw [hW1]
  obtain ⟨x0, x1, y0, y1, hF1⟩ := two2 wA _ _ _ _ _ W1 hW1
  have hF01 := (unhide HF).trans hF1 (fun _ _ h => h)
  refine ((unhide HC).2.1 _ ((unhide HM).1.fr.trans hF01 (fun _ _ h => h))).mono ?_
  rintro e wB ⟨bb, rfl, hFB⟩
  have u0 := (hFB.cell (lt_of_cell x0) (fun h => h)).trans x0
  have u1 := (hFB.cell (lt_of_cell x1) (fun h => h)).trans x1
  have v0 := (hFB.cell (lt_of_cell y0) (fun h => h)).trans y0
  have v1 := (hFB.cell (lt_of_cell y1) (fun h => h)).trans y1
  have hFB0 := hF01.trans hFB (fun _ _ h => h)
  have hMB := (unhide HM).1.fr0 hFB0
  clear hF1 hFB hW1 x0 x1 y0 y1 HF hF01
  generalize wA.heap.size = Z at *
  have hS : ∀ w', Fr (fun g => g = mb) wB w' → w'.cell? ⟨Z, 0, none⟩ = some (.int .i64 f) ∧ w'.cell? ⟨Z, 1, none⟩ = some (.int .i64 K) ∧ w'.cell? ⟨Z + 1, 0, none⟩ = some (.int .i64 F2) ∧ w'.cell? ⟨Z + 1, 1, none⟩ = some (.int .i64 N2) := fun w' hf =>
    ⟨(hf.cell (lt_of_cell u0) (fun h => by simp only at h; omega)).trans u0, (hf.cell (lt_of_cell u1) (fun h => by simp only at h; omega)).trans u1, (hf.cell (lt_of_cell v0) (fun h => by simp only at h; omega)).trans v0, (hf.cell (lt_of_cell v1) (fun h => by simp only at h; omega)).trans v1⟩
  have HS := hide hS
  have H2 := hide (And.intro hFB0 hMB)
  clear hS hFB0 hMB
  have T1 : True := trivial
  go_wp2_with fail
  go_region_held3 (fun w' => w'.cell? ⟨Z, 0, none⟩ = some (.int .i64 f) ∧ w'.cell? ⟨Z, 1, none⟩ = some (.int .i64 K) ∧ w'.cell? ⟨Z + 1, 0, none⟩ = some (.int .i64 F2) ∧ w'.cell? ⟨Z + 1, 1, none⟩ = some (.int .i64 N2))
    (first | assumption | exact (unhide HS) _ (Fr.refl _ _).drew | exact (unhide HS) _ fC)
    (first
      | (go_at_call 65; clear T1; refine ((unhide HC).2.2.1 _ ((unhide H2).2.fr0 (Fr.refl _ _).drew)).mono ?_; rintro e wC ⟨yo, yc, rfl, sC, bC, mC, hC⟩; have fC : Fr (fun g => g = mb) wB wC := (Fr.refl _ _).drew.trans hC (fun _ _ h => h)))
  have H3 := hide (And.intro sC (And.intro bC (And.intro mC fC)))
  clear sC bC mC fC hC
  have T2 : True := trivial
  go_wp2_with fail
  by_cases hA : A
  · have HA := hide hA
    clear hA
    go_region_held3 (fun w' => w'.cell? ⟨Z, 0, none⟩ = some (.int .i64 f) ∧ w'.cell? ⟨Z, 1, none⟩ = some (.int .i64 K) ∧ w'.cell? ⟨Z + 1, 0, none⟩ = some (.int .i64 F2) ∧ w'.cell? ⟨Z + 1, 1, none⟩ = some (.int .i64 N2))
      (first | assumption | exact (unhide HS) _ (unhide H3).2.2.2.drew | exact (unhide HS) _ fD)
      (first
        | (go_at_call 65; clear T2; refine ((unhide HC).2.2.2.1 _ ((unhide H3).2.2.1.fr0 (Fr.refl _ _).drew)).mono ?_; rintro e wD ⟨hY, -⟩; obtain ⟨yo2, yc2, rfl, sD, bD, mD, hD⟩ := hY (unhide HA); have fD : Fr (fun g => g = mb) wB wD := (unhide H3).2.2.2.drew.trans hD (fun _ _ h => h)))
    have cD := mD.c0
    have fCD : Fr (fun g => g = mb) wC wD := (Fr.refl _ _).drew.trans hD (fun _ _ h => h)
    have H4 := hide (And.intro sD (And.intro bD (And.intro mD (And.intro fD ((unhide H3).1.frD fCD (.inr (fun g o n c e => (unhide H3).2.1 g o n c e)))))))
    clear sD bD mD fD hD hY fCD
    go_wp2_with fail
    refine ((unhide HC).2.2.2.2 _ _ _ (unhide HA) (unhide H4).2.2.1.fr (unhide H4).2.2.2.2 (unhide H4).1).mono ?_
    rintro e wE ⟨no, rfl, oE⟩
    have HE := hide oE
    clear oE
    go_wp2_with fail
    go_ret
    refine ⟨fun _ => ?_, fun h => absurd (unhide HA) h⟩
    have oE := unhide HE
    have hS : Sl wE (.slice no (nd wi t1 t2).length wi) (nd wi t1 t2) := oE.sl (nd_lt _ _ _)
    obtain ⟨gE, gO, rfl, hgE⟩ := hS.at1 (by omega)
    rw [hnd] at hS
    refine ⟨_, wi, rfl, hS, fun g' o' n' c' e => ?_, (unhide H4).2.2.1.fr0 oE.fr, ((unhide H2).1.mono (fun _ _ h => h.elim)).trans ((unhide H4).2.2.2.1.trans (oE.fr.mono (fun _ _ h => h.elim)) (fun _ _ h => h)) (fun _ _ h => h)⟩
    cases e
    have h1 := (World.ownsRow.lt oE.own gE (by rfl)).1
    have h2 := lt_of_cell cD
    simp only at h2
    omega
  · have HA := hide hA
    clear hA
    go_region_held3 (fun w' => w'.cell? ⟨Z, 0, none⟩ = some (.int .i64 f) ∧ w'.cell? ⟨Z, 1, none⟩ = some (.int .i64 K) ∧ w'.cell? ⟨Z + 1, 0, none⟩ = some (.int .i64 F2) ∧ w'.cell? ⟨Z + 1, 1, none⟩ = some (.int .i64 N2))
      (first | assumption | exact (unhide HS) _ (unhide H3).2.2.2.drew | exact (unhide HS) _ fD)
      (first
        | (go_at_call 65; clear T2; refine ((unhide HC).2.2.2.1 _ ((unhide H3).2.2.1.fr0 (Fr.refl _ _).drew)).mono ?_; rintro e wD ⟨-, hN⟩; obtain ⟨rfl, mD, hD⟩ := hN (unhide HA); have fD : Fr (fun g => g = mb) wB wD := (unhide H3).2.2.2.drew.trans hD (fun _ _ h => h)))
    have H4 := hide (And.intro mD fD)
    clear mD fD hD hN
    go_wp2_with fail
    go_ret
    exact ⟨fun h => absurd h (unhide HA), fun _ => ⟨rfl, (unhide H4).1, ((unhide H2).1.mono (fun _ _ h => h.elim)).trans (unhide H4).2 (fun _ _ h => h)⟩⟩
end Go.Proofs.YtocdnomfpgdglabDoor

namespace Go.Proofs.YtocdnomfpgdglabDoor
open Go.RowKit

set_option maxRecDepth 100000 in
set_option maxHeartbeats 2000000 in
/-- The walk down both halves, both end there. -/
theorem mtop_god (W0 : World) (wi mb f n K F2 N2 C N : Nat) (lg lo lcap g o xc : Nat) (w : World) (hs : List (List Nat)) (t1 t2 : List Nat) (r1 r2 : List (List Nat)) (A : Prop) (hw1 : 1 ≤ wi) (hnd : (nd wi t1 t2).length = wi) (hN : 0 < N) (hn1 : ¬ n = 1) (hCN : C ≤ N) (hNl : N ≤ lcap) (hNx : N ≤ xc) (hM : McAt W0 w mb wi hs) (hcl : lcap = C) (hcx : xc = C)
    (hhv : ∀ w', Calls Tryd.prog 95 #[sv f n] w' fun e w'' => e = .returned (.tuple #[sv f K, sv F2 N2]) ∧ Fr (fun _ => False) w' w'')
    (hfind : ∀ w', Fr (fun _ => False) W0 w' → Calls Tryd.prog 100 #[.slice (some ⟨g, o, none⟩) N xc, .int .i64 (F2 : Int)] w' fun e w'' => ∃ bb, e = .returned (.tuple #[.int .i64 (C : Nat), .bool bb]) ∧ Fr (fun _ => False) w' w'')
    (h1 : ∀ w', McAt W0 w' mb wi hs → Calls Tryd.prog 65 #[.pointer (some ⟨mb, 0, none⟩), sv f K, .slice (some ⟨lg, lo, none⟩) C lcap, .slice (some ⟨g, o, none⟩) C xc] w' fun e w'' => TpYes W0 wi mb w' w'' e t1 r1)
    (h2 : ∀ w', McAt W0 w' mb wi r1 → Calls Tryd.prog 65 #[.pointer (some ⟨mb, 0, none⟩), sv F2 N2, .slice (some ⟨lg, lo, none⟩) 0 0, .slice (some ⟨g, o, none⟩) 0 0] w' fun e w'' => (A → TpYes W0 wi mb w' w'' e t2 r2) ∧ (¬ A → TpNo W0 wi mb w' w'' e))
    (hnode : ∀ w' x y, A → Fr (fun _ => False) W0 w' → Sl w' x t1 → Sl w' y t2 → Calls Tryd.prog 33 #[.int .i64 wi, x, y] w' fun e w'' => ∃ yo, e = .returned (.slice yo wi wi) ∧ OB w' w'' yo wi (nd wi t1 t2)) :
    Calls Tryd.prog 65 #[.pointer (some ⟨mb, 0, none⟩), sv f n, .slice (some ⟨lg, lo, none⟩) N lcap, .slice (some ⟨g, o, none⟩) N xc] w fun e w' => (A → TpYes W0 wi mb w w' e (nd wi t1 t2) r2) ∧ (¬ A → TpNo W0 wi mb w w' e) := by
  unfold sv at *
  obtain ⟨Wa, hWa⟩ : ∃ Wa, w.alloc (.cells #[.int .i64 f, .int .i64 n] 61) = Wa := ⟨_, rfl⟩
  obtain ⟨a0, a1, hFa⟩ := box2p w _ _ _ Wa hWa
  have hmb : mb < w.heap.size := lt_of_cell hM.c0
  have hnil0 : ∀ W, (binOp .eql 23 (.slice none 0 0) (.slice none 0 0)).run Tryd.prog W = .ok (.bool true) W := fun W => Lib.run_eql_slice_nil W _ _ none 0 0 0 0 Tryd.underlying23
  have hnil1 : ∀ W a n c, (binOp .eql 23 (.slice (some a) n c) (.slice none 0 0)).run Tryd.prog W = .ok (.bool false) W := fun W a n c => Lib.run_eql_slice_nil W _ _ (some a) n c 0 0 Tryd.underlying23
  have q0 : ((N : Int) == 0) = false := beq_false_of_ne (by omega)
  have q1 : ¬ N = 0 := by omega
  have q2 : ((n : Int) == 1) = false := beq_false_of_ne (by omega)
  have q4 : (C : Int) ≤ (N : Int) := by omega
  have q5 : (C : Int) ≤ (xc : Int) := by omega
  have q6 : (C : Int) ≤ (lcap : Int) := by omega
  obtain rfl : C = N := by omega
  subst hcl
  subst hcx
  have HC := hide (And.intro hhv (And.intro hfind (And.intro h1 (And.intro h2 hnode))))
  have HM := hide (And.intro hM (And.intro hFa hmb))
  clear hhv hfind h1 h2 hnode hM hFa hmb
  go_enter Tryd.func65, Tryd.ntmps65
  go_wp2_with fail
  try rw [hWa]
  clear hWa
  generalize w.heap.size = b at *
  refine ((unhide HC).1 _).mono ?_
  rintro e wA ⟨rfl, hFA⟩
  have HF := hide ((unhide HM).2.1.trans hFA (fun _ _ h => h))
  have hbA : mb < wA.heap.size := Nat.lt_of_lt_of_le (lt_of_cell (unhide HM).1.c0) (unhide HF).size
  clear hFA a0 a1
  go_wp2_with fail
  obtain ⟨W1, hW1⟩ : ∃ W1, (wA.alloc (.cells #[.int .i64 f, .int .i64 K] 61)).alloc (.cells #[.int .i64 F2, .int .i64 N2] 61) = W1 := ⟨_, rfl⟩
  rw [hW1]
  obtain ⟨x0, x1, y0, y1, hF1⟩ := two2 wA _ _ _ _ _ W1 hW1
  have hF01 := (unhide HF).trans hF1 (fun _ _ h => h)
  refine ((unhide HC).2.1 _ ((unhide HM).1.fr.trans hF01 (fun _ _ h => h))).mono ?_
  rintro e wB ⟨bb, rfl, hFB⟩
  have u0 := (hFB.cell (lt_of_cell x0) (fun h => h)).trans x0
  have u1 := (hFB.cell (lt_of_cell x1) (fun h => h)).trans x1
  have v0 := (hFB.cell (lt_of_cell y0) (fun h => h)).trans y0
  have v1 := (hFB.cell (lt_of_cell y1) (fun h => h)).trans y1
  have hFB0 := hF01.trans hFB (fun _ _ h => h)
  have hMB := (unhide HM).1.fr0 hFB0
  clear hF1 hFB hW1 x0 x1 y0 y1 HF hF01
  generalize wA.heap.size = Z at *
  have hS : ∀ w', Fr (fun g => g = mb) wB w' → w'.cell? ⟨Z, 0, none⟩ = some (.int .i64 f) ∧ w'.cell? ⟨Z, 1, none⟩ = some (.int .i64 K) ∧ w'.cell? ⟨Z + 1, 0, none⟩ = some (.int .i64 F2) ∧ w'.cell? ⟨Z + 1, 1, none⟩ = some (.int .i64 N2) := fun w' hf =>
    ⟨(hf.cell (lt_of_cell u0) (fun h => by simp only at h; omega)).trans u0, (hf.cell (lt_of_cell u1) (fun h => by simp only at h; omega)).trans u1, (hf.cell (lt_of_cell v0) (fun h => by simp only at h; omega)).trans v0, (hf.cell (lt_of_cell v1) (fun h => by simp only at h; omega)).trans v1⟩
  have HS := hide hS
  have H2 := hide (And.intro hFB0 hMB)
  clear hS hFB0 hMB
  have T1 : True := trivial
  go_wp2_with fail
  go_region_held3 (fun w' => w'.cell? ⟨Z, 0, none⟩ = some (.int .i64 f) ∧ w'.cell? ⟨Z, 1, none⟩ = some (.int .i64 K) ∧ w'.cell? ⟨Z + 1, 0, none⟩ = some (.int .i64 F2) ∧ w'.cell? ⟨Z + 1, 1, none⟩ = some (.int .i64 N2))
    (first | assumption | exact (unhide HS) _ (Fr.refl _ _).drew | exact (unhide HS) _ fC)
    (first
      | (go_at_call 65; clear T1; refine ((unhide HC).2.2.1 _ ((unhide H2).2.fr0 (Fr.refl _ _).drew)).mono ?_; rintro e wC ⟨yo, yc, rfl, sC, bC, mC, hC⟩; have fC : Fr (fun g => g = mb) wB wC := (Fr.refl _ _).drew.trans hC (fun _ _ h => h)))
  have H3 := hide (And.intro sC (And.intro bC (And.intro mC fC)))
  clear sC bC mC fC hC
  have T2 : True := trivial
  go_wp2_with fail
  by_cases hA : A
  · have HA := hide hA
    clear hA
    go_region_held3 (fun w' => w'.cell? ⟨Z, 0, none⟩ = some (.int .i64 f) ∧ w'.cell? ⟨Z, 1, none⟩ = some (.int .i64 K) ∧ w'.cell? ⟨Z + 1, 0, none⟩ = some (.int .i64 F2) ∧ w'.cell? ⟨Z + 1, 1, none⟩ = some (.int .i64 N2))
      (first | assumption | exact (unhide HS) _ (unhide H3).2.2.2.drew | exact (unhide HS) _ fD)
      (first
        | (go_at_call 65; clear T2; refine ((unhide HC).2.2.2.1 _ ((unhide H3).2.2.1.fr0 (Fr.refl _ _).drew)).mono ?_; rintro e wD ⟨hY, -⟩; obtain ⟨yo2, yc2, rfl, sD, bD, mD, hD⟩ := hY (unhide HA); have fD : Fr (fun g => g = mb) wB wD := (unhide H3).2.2.2.drew.trans hD (fun _ _ h => h)))
    have cD := mD.c0
    have fCD : Fr (fun g => g = mb) wC wD := (Fr.refl _ _).drew.trans hD (fun _ _ h => h)
    have H4 := hide (And.intro sD (And.intro bD (And.intro mD (And.intro fD ((unhide H3).1.frD fCD (.inr (fun g o n c e => (unhide H3).2.1 g o n c e)))))))
    clear sD bD mD fD hD hY fCD
    go_wp2_with fail
    refine ((unhide HC).2.2.2.2 _ _ _ (unhide HA) (unhide H4).2.2.1.fr (unhide H4).2.2.2.2 (unhide H4).1).mono ?_
    rintro e wE ⟨no, rfl, oE⟩
    have HE := hide oE
    clear oE
    go_wp2_with fail
    go_ret
    refine ⟨fun _ => ?_, fun h => absurd (unhide HA) h⟩
    have oE := unhide HE
    have hS : Sl wE (.slice no (nd wi t1 t2).length wi) (nd wi t1 t2) := oE.sl (nd_lt _ _ _)
    obtain ⟨gE, gO, rfl, hgE⟩ := hS.at1 (by omega)
    rw [hnd] at hS
    refine ⟨_, wi, rfl, hS, fun g' o' n' c' e => ?_, (unhide H4).2.2.1.fr0 oE.fr, ((unhide H2).1.mono (fun _ _ h => h.elim)).trans ((unhide H4).2.2.2.1.trans (oE.fr.mono (fun _ _ h => h.elim)) (fun _ _ h => h)) (fun _ _ h => h)⟩
    cases e
    have h1 := (World.ownsRow.lt oE.own gE (by rfl)).1
    have h2 := lt_of_cell cD
    simp only at h2
    omega
  · have HA := hide hA
    clear hA
    go_region_held3 (fun w' => w'.cell? ⟨Z, 0, none⟩ = some (.int .i64 f) ∧ w'.cell? ⟨Z, 1, none⟩ = some (.int .i64 K) ∧ w'.cell? ⟨Z + 1, 0, none⟩ = some (.int .i64 F2) ∧ w'.cell? ⟨Z + 1, 1, none⟩ = some (.int .i64 N2))
      (first | assumption | exact (unhide HS) _ (unhide H3).2.2.2.drew | exact (unhide HS) _ fD)
      (first
        | (go_at_call 65; clear T2; refine ((unhide HC).2.2.2.1 _ ((unhide H3).2.2.1.fr0 (Fr.refl _ _).drew)).mono ?_; rintro e wD ⟨-, hN⟩; obtain ⟨rfl, mD, hD⟩ := hN (unhide HA); have fD : Fr (fun g => g = mb) wB wD := (unhide H3).2.2.2.drew.trans hD (fun _ _ h => h)))
    have H4 := hide (And.intro mD fD)
    clear mD fD hD hN
    go_wp2_with fail
    go_ret
    exact ⟨fun h => absurd h (unhide HA), fun _ => ⟨rfl, (unhide H4).1, ((unhide H2).1.mono (fun _ _ h => h.elim)).trans (unhide H4).2 (fun _ _ h => h)⟩⟩
end Go.Proofs.YtocdnomfpgdglabDoor

namespace Go.Proofs.YtocdnomfpgdglabDoor
open Go.RowKit

theorem TpYes.of {W0 : World} {wi mb : Nat} {w w' : World} {e : Ending} {f n : Nat} {zs : List Int} {ls hs : List (List Nat)} {t : List Nat} {r : List (List Nat)} (hG : gth wi f n zs ls hs = some (t, r)) (h : TpYes W0 wi mb w w' e t r) :
    (∀ t r, gth wi f n zs ls hs = some (t, r) → ∃ yo yc, e = .returned (.slice (some yo) wi yc) ∧ Sl w' (.slice (some yo) wi yc) t ∧ Bk (.slice (some yo) wi yc) (fun g => g ≠ mb) ∧ McAt W0 w' mb wi r) ∧ (gth wi f n zs ls hs = none → e = .returned (.slice none 0 0) ∧ ∃ r, McAt W0 w' mb wi r) ∧ Fr (fun g => g = mb) w w' := by
  obtain ⟨yo, yc, h1, h2, h3, h4, h5⟩ := h
  refine ⟨fun t' r' h => ?_, (fun h => by rw [hG] at h; cases h), h5⟩
  rw [hG] at h
  cases h
  exact ⟨yo, yc, h1, h2, h3, h4⟩
theorem TpNo.of {W0 : World} {wi mb : Nat} {w w' : World} {e : Ending} {f n : Nat} {zs : List Int} {ls hs : List (List Nat)} (hG : gth wi f n zs ls hs = none) (h : TpNo W0 wi mb w w' e) :
    (∀ t r, gth wi f n zs ls hs = some (t, r) → ∃ yo yc, e = .returned (.slice (some yo) wi yc) ∧ Sl w' (.slice (some yo) wi yc) t ∧ Bk (.slice (some yo) wi yc) (fun g => g ≠ mb) ∧ McAt W0 w' mb wi r) ∧ (gth wi f n zs ls hs = none → e = .returned (.slice none 0 0) ∧ ∃ r, McAt W0 w' mb wi r) ∧ Fr (fun g => g = mb) w w' := by
  obtain ⟨h1, h2, h3⟩ := h
  exact ⟨(fun t r h => by rw [hG] at h; cases h), (fun _ => ⟨h1, h2⟩), h3⟩
/-- A part of two halves. -/
theorem mtop_two (W0 : World) (wi mb : Nat) (hw1 : 1 ≤ wi) (hw32 : wi ≤ 32) (hg : GS W0) (f n : Nat) (zs : List Int) (ls : List (List Nat)) (us : List Value) (lv pv : Value) (hb : f + n < 9223372036854775808) (h2 : 2 ≤ n) (hz : zs ≠ []) (hs1 : zs.Pairwise (· < ·)) (hzl : zs.length ≤ 8000000) (hll : ls.length = zs.length) (hlw : ∀ p ∈ ls, p.length = wi) (hl : Pcs W0 lv us ls) (hlc : Cp lv) (hx : Ints W0 pv zs)
    (ih1 : ∀ lv pv us, Pcs W0 lv us (ls.take (zs.countP (· < ((f + hf n : Nat) : Int)))) → Cp lv → Ints W0 pv (zs.take (zs.countP (· < ((f + hf n : Nat) : Int)))) → TpSays W0 wi mb f (hf n) (zs.take (zs.countP (· < ((f + hf n : Nat) : Int)))) (ls.take (zs.countP (· < ((f + hf n : Nat) : Int)))) lv pv)
    (ih2 : ∀ lv pv us, Pcs W0 lv us (ls.drop (zs.countP (· < ((f + hf n : Nat) : Int)))) → Cp lv → Ints W0 pv (zs.drop (zs.countP (· < ((f + hf n : Nat) : Int)))) → TpSays W0 wi mb (f + hf n) (n - hf n) (zs.drop (zs.countP (· < ((f + hf n : Nat) : Int)))) (ls.drop (zs.countP (· < ((f + hf n : Nat) : Int)))) lv pv) : TpSays W0 wi mb f n zs ls lv pv := by
  have h0 : 0 < zs.length := List.length_pos_iff.2 hz
  have h3 := hf_lt n h2
  have h4 := hf_pos n
  obtain ⟨po, pc, rfl⟩ := hx.form
  obtain ⟨g, o, rfl, -, hc, hgl, hcells⟩ := hx.at_ h0
  obtain ⟨lo', lcap, rfl⟩ := hl.form
  obtain ⟨lg, lo, v, rfl, -⟩ := hl.cell (Fr.refl _ _) 0 (by omega)
  have hlcap : ls.length ≤ lcap := hlc _ _ _ rfl
  have hCl := cnt_le ((f + hf n : Nat) : Int) zs
  have hhv := fun w => halves_any f n w hb h2
  have hfind : ∀ w', Fr (fun _ => False) W0 w' → Calls Tryd.prog 100 #[.slice (some ⟨g, o, none⟩) zs.length pc, .int .i64 ((f + hf n : Nat) : Int)] w' fun e w'' => ∃ bb, e = .returned (.tuple #[.int .i64 (zs.countP (· < ((f + hf n : Nat) : Int)) : Nat), .bool bb]) ∧ Fr (fun _ => False) w' w'' := fun w' hf' => by
    refine (find_any g o zs.length pc zs ((f + hf n : Nat) : Int) w' (Nat.le_refl _) (by omega) (fun j hj => (hf'.cell (p := ⟨g, o + j, none⟩) hgl (fun h => h)).trans (hcells j hj)) (by rw [List.take_length]; exact hs1.imp (fun h => by omega))).mono ?_
    rintro e w'' ⟨rfl, q, rfl⟩
    rw [List.take_length]
    exact ⟨_, rfl, (Fr.refl _ _).drewN q⟩
  intro hs w hM hhw
  have hgt := gth_two (wi := wi) (f := f) (n := n) (zs := zs) (ls := ls) (hs := hs) hz h2
  have hg1w := fun t r => gth_wid wi hw1 hw32 (hf n) f (hf n) (zs.take (zs.countP (· < ((f + hf n : Nat) : Int)))) (ls.take (zs.countP (· < ((f + hf n : Nat) : Int)))) hs t r (Nat.le_refl _) (by rw [List.length_take, List.length_take, hll]) (fun p hp => hlw p (List.mem_of_mem_take hp)) hhw
  generalize hC : zs.countP (· < ((f + hf n : Nat) : Int)) = C at *
  have r1 := ih1 _ _ _ (hl.take C (by omega)) (fun _ _ _ e => by cases e; omega) (Ints.take hc hgl hcells hCl)
  have hP := hl.rest rfl C (by omega)
  have hI := Ints.drop hc hgl hcells hCl
  have hPn : C = zs.length → ls.drop C = [] := fun h => List.drop_eq_nil_of_le (by omega)
  have hIn : C = zs.length → zs.drop C = [] := fun h => List.drop_eq_nil_of_le (by omega)
  rw [hll] at hP hl hlcap hlc ⊢
  have r2 : ∀ lv' pv' , (lv' = Value.slice (some ⟨lg, lo + C, none⟩) (zs.length - C) (lcap - C) ∨ (C = zs.length ∧ lv' = .slice (some ⟨lg, lo, none⟩) 0 0)) → (pv' = Value.slice (some ⟨g, o + C, none⟩) (zs.length - C) (pc - C) ∨ (C = zs.length ∧ pv' = .slice (some ⟨g, o, none⟩) 0 0)) → TpSays W0 wi mb (f + hf n) (n - hf n) (zs.drop C) (ls.drop C) lv' pv' := fun lv' pv' k1 k2 => by
    have a1 : ∃ us', Pcs W0 lv' us' (ls.drop C) ∧ Cp lv' := by
      rcases k1 with rfl | ⟨k, rfl⟩
      · exact ⟨_, hP, fun _ _ _ e => by cases e; omega⟩
      · rw [hPn k]; exact ⟨[], Pcs.zero _ _, fun _ _ _ e => by cases e; exact Nat.le_refl _⟩
    have a2 : Ints W0 pv' (zs.drop C) := by
      rcases k2 with rfl | ⟨k, rfl⟩
      · exact hI
      · rw [hIn k]; exact .inr (.inl ⟨_, _, rfl, rfl⟩)
    obtain ⟨us', a1, a3⟩ := a1
    exact ih2 lv' pv' us' a1 a3 a2
  clear ih1 ih2
  cases hG1 : gth wi f (hf n) (zs.take C) (ls.take C) hs with
  | none =>
    have hG : gth wi f n zs ls hs = none := by rw [hgt, hG1]; rfl
    refine (mtop_left W0 wi mb f n (hf n) (f + hf n) (n - hf n) C zs.length lg lo lcap g o pc w hs h0 (by omega) hCl hlcap hc hM hhv hfind (fun w' hM' => (r1 hs w' hM' hhw).mono (fun e w'' ⟨_, b, c⟩ => ⟨(b hG1).1, (b hG1).2, c⟩))).mono ?_
    intro e w' h
    exact TpNo.of hG h
  | some a =>
    obtain ⟨t1, r1'⟩ := a
    obtain ⟨ht1, j, -, er1⟩ := hg1w t1 r1' hG1
    have hr1 : ∀ p ∈ r1', p.length = wi := fun p hp => by rw [er1] at hp; exact hhw p (List.mem_of_mem_drop hp)
    have hh1 : ∀ w', McAt W0 w' mb wi hs → Calls Tryd.prog 65 #[.pointer (some ⟨mb, 0, none⟩), sv f (hf n), .slice (some ⟨lg, lo, none⟩) C lcap, .slice (some ⟨g, o, none⟩) C pc] w' fun e w'' => TpYes W0 wi mb w' w'' e t1 r1' := fun w' hM' => (r1 hs w' hM' hhw).mono (fun e w'' ⟨a, _, c⟩ => by
      obtain ⟨yo, yc, b1, b2, b3, b4⟩ := a t1 r1' hG1
      exact ⟨yo, yc, b1, b2, b3, b4, c⟩)
    obtain ⟨A, t2, r2', hA, ht2, hG⟩ : ∃ (A : Prop) (t2 : List Nat) (r2' : List (List Nat)), ((A ∧ gth wi (f + hf n) (n - hf n) (zs.drop C) (ls.drop C) r1' = some (t2, r2')) ∨ (¬ A ∧ gth wi (f + hf n) (n - hf n) (zs.drop C) (ls.drop C) r1' = none)) ∧ (A → t2.length = wi) ∧ ((A ∧ gth wi f n zs ls hs = some (nd wi t1 t2, r2')) ∨ (¬ A ∧ gth wi f n zs ls hs = none)) := by
      cases hG2 : gth wi (f + hf n) (n - hf n) (zs.drop C) (ls.drop C) r1' with
      | none => exact ⟨False, [], [], .inr ⟨fun h => h, rfl⟩, fun h => h.elim, .inr ⟨fun h => h, by rw [hgt, hG1, Option.bind_some]; simp only; rw [hG2]; rfl⟩⟩
      | some b =>
        obtain ⟨t2, r2'⟩ := b
        obtain ⟨ht2, -⟩ := gth_wid wi hw1 hw32 _ (f + hf n) (n - hf n) (zs.drop C) (ls.drop C) r1' t2 r2' (Nat.le_refl _) (by rw [List.length_drop, List.length_drop, hll]) (fun p hp => hlw p (List.mem_of_mem_drop hp)) hr1 hG2
        exact ⟨True, t2, r2', .inl ⟨trivial, rfl⟩, fun _ => ht2, .inl ⟨trivial, by rw [hgt, hG1, Option.bind_some]; simp only; rw [hG2, Option.bind_some]⟩⟩
    have hnd := nd_len wi hw1 hw32 t1 t2
    have hh2 : ∀ lv' pv' , (lv' = Value.slice (some ⟨lg, lo + C, none⟩) (zs.length - C) (lcap - C) ∨ (C = zs.length ∧ lv' = .slice (some ⟨lg, lo, none⟩) 0 0)) → (pv' = Value.slice (some ⟨g, o + C, none⟩) (zs.length - C) (pc - C) ∨ (C = zs.length ∧ pv' = .slice (some ⟨g, o, none⟩) 0 0)) → ∀ w', McAt W0 w' mb wi r1' → Calls Tryd.prog 65 #[.pointer (some ⟨mb, 0, none⟩), sv (f + hf n) (n - hf n), lv', pv'] w' fun e w'' => (A → TpYes W0 wi mb w' w'' e t2 r2') ∧ (¬ A → TpNo W0 wi mb w' w'' e) := fun lv' pv' k1 k2 w' hM' => (r2 lv' pv' k1 k2 r1' w' hM' hr1).mono (fun e w'' ⟨a, b, c⟩ => by
      rcases hA with ⟨hA, hG2⟩ | ⟨hA, hG2⟩
      · obtain ⟨yo, yc, b1, b2, b3, b4⟩ := a t2 r2' hG2
        exact ⟨fun _ => ⟨yo, yc, b1, b2, b3, b4, c⟩, fun h => absurd hA h⟩
      · exact ⟨fun h => absurd h hA, fun _ => ⟨(b hG2).1, (b hG2).2, c⟩⟩)
    have hnode : ∀ w' x y, A → Fr (fun _ => False) W0 w' → Sl w' x t1 → Sl w' y t2 → Calls Tryd.prog 33 #[.int .i64 wi, x, y] w' fun e w'' => ∃ yo, e = .returned (.slice yo wi wi) ∧ OB w' w'' yo wi (nd wi t1 t2) := fun w' x y hA' hF k1 k2 => by
      have := node_any (wi : Int) x y t1 t2 w' (hg.fr0 hF) k1 k2 (by omega) (by have := ht2 hA'; omega)
      rw [hnd] at this
      exact this
    have hend : ∀ e w', (A → TpYes W0 wi mb w w' e (nd wi t1 t2) r2') ∧ (¬ A → TpNo W0 wi mb w w' e) → _ := fun e w' h => (show (∀ t r, gth wi f n zs ls hs = some (t, r) → ∃ yo yc, e = .returned (.slice (some yo) wi yc) ∧ Sl w' (.slice (some yo) wi yc) t ∧ Bk (.slice (some yo) wi yc) (fun g => g ≠ mb) ∧ McAt W0 w' mb wi r) ∧ (gth wi f n zs ls hs = none → e = .returned (.slice none 0 0) ∧ ∃ r, McAt W0 w' mb wi r) ∧ Fr (fun g => g = mb) w w' from by
      rcases hG with ⟨hA', hG⟩ | ⟨hA', hG⟩
      · exact TpYes.of hG (h.1 hA')
      · exact TpNo.of hG (h.2 hA'))
    by_cases k1 : lcap = C
    · have k0 : C = zs.length := by omega
      by_cases k2 : pc = C
      · exact (mtop_god W0 wi mb f n (hf n) (f + hf n) (n - hf n) C zs.length lg lo lcap g o pc w hs t1 t2 r1' r2' A hw1 hnd h0 (by omega) hCl hlcap hc hM k1 k2 hhv hfind hh1 (hh2 _ _ (.inr ⟨k0, rfl⟩) (.inr ⟨k0, rfl⟩)) hnode).mono (fun e w' h => hend e w' h)
      · exact (mtop_gob W0 wi mb f n (hf n) (f + hf n) (n - hf n) C zs.length lg lo lcap g o pc w hs t1 t2 r1' r2' A hw1 hnd h0 (by omega) hCl hlcap hc hM k1 k2 hhv hfind hh1 (hh2 _ _ (.inr ⟨k0, rfl⟩) (.inl (by rw [show zs.length - C = 0 by omega]))) hnode).mono (fun e w' h => hend e w' h)
    · by_cases k2 : pc = C
      · have k0 : C = zs.length := by omega
        exact (mtop_goc W0 wi mb f n (hf n) (f + hf n) (n - hf n) C zs.length lg lo lcap g o pc w hs t1 t2 r1' r2' A hw1 hnd h0 (by omega) hCl hlcap hc hM k1 k2 hhv hfind hh1 (hh2 _ _ (.inl (by rw [show zs.length - C = 0 by omega])) (.inr ⟨k0, rfl⟩)) hnode).mono (fun e w' h => hend e w' h)
      · exact (mtop_goa W0 wi mb f n (hf n) (f + hf n) (n - hf n) C zs.length lg lo lcap g o pc w hs t1 t2 r1' r2' A hw1 hnd h0 (by omega) hCl hlcap hc hM k1 k2 hhv hfind hh1 (hh2 _ _ (.inl rfl) (.inl rfl)) hnode).mono (fun e w' h => hend e w' h)
/-- merkle's manyClaim.top. -/
theorem mtop_any (W0 : World) (wi mb : Nat) (hw1 : 1 ≤ wi) (hw32 : wi ≤ 32) (hg : GS W0) (m : Nat) : ∀ (f n : Nat) (zs : List Int) (ls : List (List Nat)) (us : List Value) (lv pv : Value), n ≤ m → f + n < 9223372036854775808 → zs.Pairwise (· < ·) → (∀ z ∈ zs, (f : Int) ≤ z ∧ z < ((f + n : Nat) : Int)) → zs.length ≤ 8000000 → ls.length = zs.length → (∀ p ∈ ls, p.length = wi) → Pcs W0 lv us ls → Cp lv → Ints W0 pv zs → TpSays W0 wi mb f n zs ls lv pv := by
  induction m with
  | zero =>
    intro f n zs ls us lv pv h hb hs1 hzb hzl hll hlw hl hlc hx
    have hz : zs = [] := by
      rcases zs with _ | ⟨a, r⟩
      · rfl
      · have := hzb a (by simp); omega
    subst hz
    obtain ⟨lo, lc, rfl⟩ := hl.form
    exact mtop_nil W0 wi mb f n hw1 ls _ pv hx ⟨_, _, _, rfl⟩
  | succ m ih =>
    intro f n zs ls us lv pv h hb hs1 hzb hzl hll hlw hl hlc hx
    by_cases hz : zs = []
    · subst hz
      obtain ⟨lo, lc, rfl⟩ := hl.form
      exact mtop_nil W0 wi mb f n hw1 ls _ pv hx ⟨_, _, _, rfl⟩
    · by_cases h1 : n < 2
      · have hn : n = 1 := by
          rcases zs with _ | ⟨a, r⟩
          · exact absurd rfl hz
          · have := hzb a (by simp); omega
        subst hn
        exact mtop_one W0 wi mb f hw1 zs ls us lv pv hz hll hlw hl hx
      · have h3 := hf_lt n (by omega)
        have h4 := hf_pos n
        obtain ⟨s1, s2⟩ := count_split ((f + hf n : Nat) : Int) zs hs1
        have hCl := cnt_le ((f + hf n : Nat) : Int) zs
        exact mtop_two W0 wi mb hw1 hw32 hg f n zs ls us lv pv hb (by omega) hz hs1 hzl hll hlw hl hlc hx
          (fun lv pv us k1 k2 k3 => ih f (hf n) _ _ us lv pv (by omega) (by omega) (hs1.sublist (List.take_sublist _ _)) (fun z hz => ⟨(hzb z (List.mem_of_mem_take hz)).1, s1 z hz⟩) (by rw [List.length_take]; omega) (by rw [List.length_take, List.length_take, hll]) (fun p hp => hlw p (List.mem_of_mem_take hp)) k1 k2 k3)
          (fun lv pv us k1 k2 k3 => ih (f + hf n) (n - hf n) _ _ us lv pv (by omega) (by omega) (hs1.sublist (List.drop_sublist _ _)) (fun z hz => ⟨s2 z hz, by have := (hzb z (List.mem_of_mem_drop hz)).2; omega⟩) (by rw [List.length_drop]; omega) (by rw [List.length_drop, List.length_drop, hll]) (fun p hp => hlw p (List.mem_of_mem_drop hp)) k1 k2 k3)
end Go.Proofs.YtocdnomfpgdglabDoor

namespace Go.Proofs.YtocdnomfpgdglabDoor
open Go.RowKit

theorem pcs1 {w : World} {a : List Nat} {ao : Option Addr} {ac : Nat} (ha : Sl w (.slice ao a.length ac) a) (W : World) (hW : w.alloc (.cells #[.slice ao a.length ac] 23) = W) : Pcs W (.slice (some ⟨w.heap.size, 0, none⟩) 1 1) [.slice ao a.length ac] [a] := by
  have hF : Fr (fun _ => False) w W := by rw [← hW]; exact (Fr.refl _ _).alloc _
  refine ⟨rfl, .inr (.inr ⟨w.heap.size, 0, 1, rfl, by rw [← hW]; simp, fun j v hv => ?_⟩), fun j v p hv hp => ?_, fun p hp => ?_⟩
  · rw [← hW, World.cell?_alloc_at _ _ _ _ rfl, Nat.zero_add, ← hv]
    simp
  · match j with
    | 0 =>
      simp at hv hp
      subst hv hp
      have := ha.fr0 hF
      exact ⟨this.s, this.cap, this.lt⟩
    | j + 1 => simp at hv
  · simp at hp
    subst hp
    exact ha.b
set_option maxRecDepth 100000 in
set_option maxHeartbeats 2000000 in
/-- merkle.CheckMany: the guards. -/
theorem pcm_no (j n : Int) (lv pv xv rv : Value) (ls hs : List (List Nat)) (zs : List Int) (root : List Nat) (us vs : List Value) (w : World) (hl : Pcs w lv us ls) (hx : Ints w pv zs) (hh : Pcs w xv vs hs) (hr : Sl w rv root) (hzl : zs.length ≤ 8000000) (hzb : ∀ z ∈ zs, -9223372036854775808 ≤ z) (hln : ls.length ≤ 8000000) (hhn : hs.length ≤ 8000000) (hn : n < 9223372036854775808)
    (h : ¬ (1 ≤ j ∧ j ≤ 32 ∧ 0 ≤ n ∧ rsF n 0 zs = true ∧ ls.length = zs.length ∧ (root.length : Int) = j ∧ wdq j ls = true ∧ wdq j hs = true)) :
    Calls Tryd.prog 26 #[.int .i64 j, lv, pv, .int .i64 n, xv, rv] w fun e w' => e = .returned (.bool false) ∧ Fr (fun _ => False) w w' := by
  have hri := rising_any pv zs n w hx hn (by omega) hzb
  obtain ⟨rr, rc, rfl⟩ := hr.form
  obtain ⟨W1, hW1⟩ : ∃ W1, w.alloc (.cells #[.slice rr root.length rc] 23) = W1 := ⟨_, rfl⟩
  have hF1 : Fr (fun _ => False) w W1 := by rw [← hW1]; exact (Fr.refl _ _).alloc _
  have hw0 := wide_any j _ _ [root] W1 (pcs1 hr W1 hW1) (by simp)
  have hw1 := wide_any j lv us ls W1 (hl.fr0 hF1) (by omega)
  have hw2 := wide_any j xv vs hs W1 (hh.fr0 hF1) (by omega)
  have hwr : wdq j [root] = decide ((root.length : Int) = j) := by simp [wdq]
  rw [hwr] at hw0
  obtain ⟨lo, lc, rfl⟩ := hl.form
  obtain ⟨po, pc, rfl⟩ := hx.form
  obtain ⟨ho, hc, rfl⟩ := hh.form
  have HW := hide (And.intro hri (And.intro hw0 (And.intro hw1 (And.intro hw2 hF1))))
  clear hl hx hh hr hzl hzb hln hhn hri hw0 hw1 hw2 hF1 hwr hn
  by_cases h1 : j < 1 ∨ 32 < j
  · have h1' : ¬ (1 ≤ j ∧ j ≤ 32) := by omega
    have HM := hide h1'
    clear h h1 h1' HW
    generalize hLN : ls.length = LN at *
    generalize hZN : zs.length = ZN at *
    generalize hHN : hs.length = HN at *
    generalize hRN : root.length = RN at *
    go_enter Tryd.func26, Tryd.ntmps26
    go_wp2_with (go_at_call 52; refine (maybe_any j _).mono ?_; rintro e' w' ⟨rfl, hw'⟩; rw [hw', decide_eq_false (unhide HM)])
    go_ret
    exact ⟨rfl, Fr.refl _ _⟩
  · have h1' : 1 ≤ j ∧ j ≤ 32 := by omega
    have HM := hide h1'
    by_cases h2 : n < 0
    · clear h h1 HW h1'
      generalize hLN : ls.length = LN at *
      generalize hZN : zs.length = ZN at *
      generalize hHN : hs.length = HN at *
      generalize hRN : root.length = RN at *
      go_enter Tryd.func26, Tryd.ntmps26
      go_wp2_with (go_at_call 52; refine (maybe_any j _).mono ?_; rintro e' w' ⟨rfl, hw'⟩; rw [hw', decide_eq_true (unhide HM)])
      go_ret
      exact ⟨rfl, Fr.refl _ _⟩
    · cases h4 : rsF n 0 zs with
      | false =>
        clear h h1 h1'
        generalize hLN : ls.length = LN at *
        generalize hZN : zs.length = ZN at *
        generalize hHN : hs.length = HN at *
        generalize hRN : root.length = RN at *
        go_enter Tryd.func26, Tryd.ntmps26
        go_wp2_with (go_at_call 52; refine (maybe_any j _).mono ?_; rintro e' w' ⟨rfl, hw'⟩; rw [hw', decide_eq_true (unhide HM)])
        refine (unhide HW).1.mono ?_
        rintro e' w1 ⟨rfl, rfl⟩
        rw [h4]
        go_wp2_with fail
        go_ret
        exact ⟨rfl, Fr.refl _ _⟩
      | true =>
        by_cases h5 : ls.length = zs.length
        · have q5 : ((ls.length : Int) == (zs.length : Int)) = true := by rw [h5]; simp
          by_cases h6 : (root.length : Int) = j
          · cases h7 : wdq j ls with
            | false =>
              clear h h1 h1'
              generalize hLN : ls.length = LN at *
              generalize hZN : zs.length = ZN at *
              generalize hHN : hs.length = HN at *
              generalize hRN : root.length = RN at *
              subst h5
              go_enter Tryd.func26, Tryd.ntmps26
              go_wp2_with (go_at_call 52; refine (maybe_any j _).mono ?_; rintro e' w' ⟨rfl, hw'⟩; rw [hw', decide_eq_true (unhide HM)])
              refine (unhide HW).1.mono ?_
              rintro e' w1 ⟨rfl, rfl⟩
              rw [h4]
              go_wp2_with fail
              try rw [hW1]
              refine (unhide HW).2.1.mono ?_
              rintro e' w2 ⟨rfl, rfl⟩
              rw [decide_eq_true h6]
              go_wp2_with fail
              refine (unhide HW).2.2.1.mono ?_
              rintro e' w3 ⟨rfl, rfl⟩
              rw [h7]
              go_wp2_with fail
              go_ret
              exact ⟨rfl, (unhide HW).2.2.2.2⟩
            | true =>
              have h8 : wdq j hs = false := by
                cases hq : wdq j hs with
                | false => rfl
                | true => exact absurd ⟨h1'.1, h1'.2, by omega, h4, h5, h6, h7, hq⟩ h
              clear h h1 h1'
              generalize hLN : ls.length = LN at *
              generalize hZN : zs.length = ZN at *
              generalize hHN : hs.length = HN at *
              generalize hRN : root.length = RN at *
              subst h5
              go_enter Tryd.func26, Tryd.ntmps26
              go_wp2_with (go_at_call 52; refine (maybe_any j _).mono ?_; rintro e' w' ⟨rfl, hw'⟩; rw [hw', decide_eq_true (unhide HM)])
              refine (unhide HW).1.mono ?_
              rintro e' w1 ⟨rfl, rfl⟩
              rw [h4]
              go_wp2_with fail
              try rw [hW1]
              refine (unhide HW).2.1.mono ?_
              rintro e' w2 ⟨rfl, rfl⟩
              rw [decide_eq_true h6]
              go_wp2_with fail
              refine (unhide HW).2.2.1.mono ?_
              rintro e' w3 ⟨rfl, rfl⟩
              rw [h7]
              go_wp2_with fail
              refine (unhide HW).2.2.2.1.mono ?_
              rintro e' w4 ⟨rfl, rfl⟩
              rw [h8]
              go_wp2_with fail
              go_ret
              exact ⟨rfl, (unhide HW).2.2.2.2⟩
          · clear h h1 h1'
            generalize hLN : ls.length = LN at *
            generalize hZN : zs.length = ZN at *
            generalize hHN : hs.length = HN at *
            generalize hRN : root.length = RN at *
            subst h5
            go_enter Tryd.func26, Tryd.ntmps26
            go_wp2_with (go_at_call 52; refine (maybe_any j _).mono ?_; rintro e' w' ⟨rfl, hw'⟩; rw [hw', decide_eq_true (unhide HM)])
            refine (unhide HW).1.mono ?_
            rintro e' w1 ⟨rfl, rfl⟩
            rw [h4]
            go_wp2_with fail
            try rw [hW1]
            refine (unhide HW).2.1.mono ?_
            rintro e' w2 ⟨rfl, rfl⟩
            rw [decide_eq_false h6]
            go_wp2_with fail
            go_ret
            exact ⟨rfl, (unhide HW).2.2.2.2⟩
        · have q5 : ((ls.length : Int) == (zs.length : Int)) = false := beq_false_of_ne (by omega)
          have q2 : decide (n < 0) = false := decide_eq_false h2
          clear h h1 h1' h2
          generalize hLN : ls.length = LN at *
          generalize hZN : zs.length = ZN at *
          generalize hHN : hs.length = HN at *
          generalize hRN : root.length = RN at *
          go_enter Tryd.func26, Tryd.ntmps26
          go_wp2_with (go_at_call 52; refine (maybe_any j _).mono ?_; rintro e' w' ⟨rfl, hw'⟩; rw [hw', decide_eq_true (unhide HM)])
          refine (unhide HW).1.mono ?_
          rintro e' w1 ⟨rfl, rfl⟩
          rw [h4]
          go_wp2_with fail
          go_ret
          exact ⟨rfl, Fr.refl _ _⟩
set_option maxRecDepth 100000 in
set_option maxHeartbeats 2000000 in
/-- merkle.CheckMany behind its guards. -/
theorem pcm_yes (wi N : Nat) (hw1 : 1 ≤ wi) (hw32 : wi ≤ 32) (lo : Option Addr) (ZN lc : Nat) (po : Option Addr) (pc : Nat) (ho : Option Addr) (HN hc : Nat) (rr : Option Addr) (rc : Nat) (root : List Nat) (hrw : root.length = wi) (G : Option (List Nat × List (List Nat))) (w W1 : World) (hW1 : w.alloc (.cells #[.slice rr wi rc] 23) = W1) (hr : Sl w (.slice rr wi rc) root)
    (hri : Calls Tryd.prog 64 #[.slice po ZN pc, .int .i64 N] w fun e w' => e = .returned (.bool true) ∧ w' = w)
    (hwr : Calls Tryd.prog 53 #[.int .i64 wi, .slice (some ⟨w.heap.size, 0, none⟩) 1 1] W1 fun e w' => e = .returned (.bool true) ∧ w' = W1)
    (hwl : Calls Tryd.prog 53 #[.int .i64 wi, .slice lo ZN lc] W1 fun e w' => e = .returned (.bool true) ∧ w' = W1)
    (hwh : Calls Tryd.prog 53 #[.int .i64 wi, .slice ho HN hc] W1 fun e w' => e = .returned (.bool true) ∧ w' = W1)
    (htp : ∀ W2, W1.alloc (.cells #[.int .i64 wi, .slice ho HN hc] 103) = W2 → Calls Tryd.prog 65 #[.pointer (some ⟨W1.heap.size, 0, none⟩), sv 0 N, .slice lo ZN lc, .slice po ZN pc] W2 fun e w' => (∀ t r, G = some (t, r) → ∃ yo yc, e = .returned (.slice (some yo) wi yc) ∧ Sl w' (.slice (some yo) wi yc) t ∧ McAt W1 w' W1.heap.size wi r) ∧ (G = none → e = .returned (.slice none 0 0) ∧ ∃ r, McAt W1 w' W1.heap.size wi r)) :
    Calls Tryd.prog 26 #[.int .i64 wi, .slice lo ZN lc, .slice po ZN pc, .int .i64 N, .slice ho HN hc, .slice rr wi rc] w fun e w' => e = .returned (.bool (gEnd G root)) ∧ Fr (fun _ => False) w w' := by
  have h1' : 1 ≤ (wi : Int) ∧ (wi : Int) ≤ 32 := by omega
  have HM := hide h1'
  have hF1 : Fr (fun _ => False) w W1 := by rw [← hW1]; exact (Fr.refl _ _).alloc _
  have q2 : ¬ (N : Int) < 0 := by omega
  have q5 : ((ZN : Int) == (ZN : Int)) = true := by simp
  have HC := hide (And.intro hri (And.intro hwr (And.intro hwl (And.intro hwh (And.intro htp (And.intro hr (And.intro hF1 (And.intro hw1 hrw))))))))
  clear hri hwr hwl hwh htp hr hF1 h1' hw1 hw32 hrw
  unfold sv at *
  have e0 : ((0 : Nat) : Int) = 0 := rfl
  simp only [e0] at *
  go_enter Tryd.func26, Tryd.ntmps26
  go_wp2_with (go_at_call 52; refine (maybe_any wi _).mono ?_; rintro e' w' ⟨rfl, hw'⟩; rw [hw', decide_eq_true (unhide HM)])
  refine (unhide HC).1.mono ?_
  rintro e' w1 ⟨rfl, rfl⟩
  go_wp2_with fail
  try rw [hW1]
  refine (unhide HC).2.1.mono ?_
  rintro e' w2 ⟨rfl, rfl⟩
  go_wp2_with fail
  refine (unhide HC).2.2.1.mono ?_
  rintro e' w3 ⟨rfl, rfl⟩
  go_wp2_with fail
  refine (unhide HC).2.2.2.1.mono ?_
  rintro e' w4 ⟨rfl, rfl⟩
  go_wp2_with fail
  refine ((unhide HC).2.2.2.2.1 _ rfl).mono ?_
  rintro e' w5 ⟨hY, hN⟩
  rcases G with _ | ⟨t, r⟩
  · obtain ⟨rfl, r, hM⟩ := hN rfl
    clear hY hN
    obtain ⟨x, ts, c1, hp, -⟩ := hM.c1
    obtain ⟨xo, xc, rfl⟩ := hp.form
    have HF := hide ((unhide HC).2.2.2.2.2.2.1.trans hM.fr (fun _ _ h => h))
    clear hM hp
    generalize w1.heap.size = mb at *
    rcases r with _ | ⟨p, q⟩
    · simp only [List.length_nil] at c1
      go_wp2_with fail
      refine (beq_sl _ _ [] root w5 (sl_nil _) ((unhide HC).2.2.2.2.2.1.fr0 (unhide HF))).mono ?_
      rintro e' w6 ⟨rfl, rfl⟩
      have hne : ¬ ([] : List Nat) = root := fun e => by have h1 := (unhide HC).2.2.2.2.2.2.2; rw [← e] at h1; simp at h1; omega
      rw [decide_eq_false hne]
      go_wp2_with fail
      go_ret
      exact ⟨rfl, unhide HF⟩
    · simp only [List.length_cons] at c1
      have q8 : ¬ (q.length : Int) + 1 = 0 := by omega
      generalize q.length = QN at *
      go_wp2_with fail
      go_ret
      exact ⟨rfl, unhide HF⟩
  · obtain ⟨yo, yc, rfl, hS, hM⟩ := hY t r rfl
    clear hY hN
    obtain ⟨x, ts, c1, hp, -⟩ := hM.c1
    obtain ⟨xo, xc, rfl⟩ := hp.form
    have HF := hide (And.intro ((unhide HC).2.2.2.2.2.2.1.trans hM.fr (fun _ _ h => h)) hS)
    clear hM hp hS
    generalize w1.heap.size = mb at *
    rcases r with _ | ⟨p, q⟩
    · simp only [List.length_nil] at c1
      go_wp2_with fail
      refine (beq_sl _ _ t root w5 (unhide HF).2 ((unhide HC).2.2.2.2.2.1.fr0 (unhide HF).1)).mono ?_
      rintro e' w6 ⟨rfl, rfl⟩
      go_wp2_with fail
      go_ret
      exact ⟨rfl, (unhide HF).1⟩
    · simp only [List.length_cons] at c1
      have q8 : ¬ (q.length : Int) + 1 = 0 := by omega
      generalize q.length = QN at *
      go_wp2_with fail
      go_ret
      exact ⟨rfl, (unhide HF).1⟩
/-- merkle.CheckMany. -/
theorem checkMany_any (j n : Int) (lv pv xv rv : Value) (ls hs : List (List Nat)) (zs : List Int) (root : List Nat) (us vs : List Value) (w : World) (hg : GS w) (hl : Pcs w lv us ls) (hlc : Cp lv) (hx : Ints w pv zs) (hh : Pcs w xv vs hs) (hhc : Cp xv) (hr : Sl w rv root) (hzl : zs.length ≤ 8000000) (hzb : ∀ z ∈ zs, -9223372036854775808 ≤ z) (hln : ls.length ≤ 8000000) (hhn : hs.length ≤ 8000000) (hn : n < 9223372036854775808) :
    Calls Tryd.prog 26 #[.int .i64 j, lv, pv, .int .i64 n, xv, rv] w fun e w' => e = .returned (.bool (chkM j n ls zs hs root)) ∧ Fr (fun _ => False) w w' := by
  by_cases h : 1 ≤ j ∧ j ≤ 32 ∧ 0 ≤ n ∧ rsF n 0 zs = true ∧ ls.length = zs.length ∧ (root.length : Int) = j ∧ wdq j ls = true ∧ wdq j hs = true
  · obtain ⟨h1, h2, h3, h4, h5, h6, h7, h8⟩ := h
    have hri := rising_any pv zs n w hx hn (by omega) hzb
    rw [chkM_true h1 h2 h3 h4 h5 h6 h7 h8]
    rw [h4] at hri
    obtain ⟨s1, s2⟩ := rsF_ok n zs 0 h4
    obtain ⟨rr, rc, rfl⟩ := hr.form
    obtain ⟨W1, hW1⟩ : ∃ W1, w.alloc (.cells #[.slice rr root.length rc] 23) = W1 := ⟨_, rfl⟩
    have hF1 : Fr (fun _ => False) w W1 := by rw [← hW1]; exact (Fr.refl _ _).alloc _
    have hw0 := wide_any j _ _ [root] W1 (pcs1 hr W1 hW1) (by simp)
    have hw1 := wide_any j lv us ls W1 (hl.fr0 hF1) (by omega)
    have hw2 := wide_any j xv vs hs W1 (hh.fr0 hF1) (by omega)
    have hwr : wdq j [root] = true := by simp [wdq, h6]
    rw [hwr] at hw0
    rw [h7] at hw1
    rw [h8] at hw2
    obtain ⟨wi, rfl⟩ : ∃ k : Nat, j = (k : Int) := ⟨j.toNat, by omega⟩
    obtain ⟨N, rfl⟩ : ∃ k : Nat, n = (k : Int) := ⟨n.toNat, by omega⟩
    simp only [Int.toNat_natCast]
    have hlw : ∀ p ∈ ls, p.length = wi := fun p hp => by have := wdq_true h7 p hp; omega
    have hhw : ∀ p ∈ hs, p.length = wi := fun p hp => by have := wdq_true h8 p hp; omega
    have htp := fun mb => mtop_any W1 wi mb (by omega) (by omega) (hg.fr0 hF1) N 0 N zs ls us lv pv (Nat.le_refl _) (by omega) s1 (fun z hz => ⟨by have := s2 z hz; omega, by have := s2 z hz; omega⟩) (by omega) h5 hlw (hl.fr0 hF1) hlc (hx.fr0 hF1)
    unfold TpSays at htp
    obtain ⟨lo, lc, rfl⟩ := hl.form
    obtain ⟨po, pc, rfl⟩ := hx.form
    obtain ⟨ho, hc, rfl⟩ := hh.form
    have hrw : root.length = wi := by omega
    rw [hrw] at hr hW1 ⊢
    rw [h5] at hw1 htp ⊢
    refine pcm_yes wi N (by omega) (by omega) lo _ lc po pc ho _ hc rr rc root hrw _ w W1 hW1 hr hri hw0 hw1 hw2 (fun W2 hW2 => ?_)
    have hM : McAt W1 W2 W1.heap.size wi hs := by
      subst hW2
      have hc' : ∀ j, (W1.alloc (.cells #[.int .i64 wi, .slice ho hs.length hc] 103)).cell? ⟨W1.heap.size, j, none⟩ = (#[.int .i64 wi, .slice ho hs.length hc] : Array Value)[j]? := fun j => World.cell?_alloc_at _ _ _ _ rfl
      exact ⟨(Fr.refl _ _).alloc _, Nat.le_refl _, hc' 0, World.frozen?_alloc_at _ _ _ _ rfl, _, vs, hc' 1, hh.fr0 hF1, hhc⟩
    refine (htp W1.heap.size hs W2 hM hhw).mono ?_
    rintro e w' ⟨hY, hN, -⟩
    refine ⟨fun t r h => ?_, hN⟩
    obtain ⟨yo, yc, rfl, q1, -, q2⟩ := hY t r h
    exact ⟨yo, yc, rfl, q1, q2⟩
  · rw [chkM_false h]
    exact pcm_no j n lv pv xv rv ls hs zs root us vs w hl hx hh hr hzl hzb hln hhn hn h
end Go.Proofs.YtocdnomfpgdglabDoor

namespace Go.Proofs.YtocdnomfpgdglabDoor
open Go.RowKit

/-- The root of what does not lie behind the part, as it comes out of a claim. -/
def olderv (wi : Nat) (r : List Nat) (f n tf tn : Nat) (path : List (List Nat)) : List Nat :=
  if _h : (f = tf ∧ n = tn) ∨ n < 2 then r
  else if tf < f + hf n then olderv wi r f (hf n) tf tn path.dropLast
  else nd wi (path.getLastD []) (olderv wi r (f + hf n) (n - hf n) tf tn path.dropLast)
termination_by n
decreasing_by
  · exact hf_lt n (by omega)
  · have := hf_pos n; omega
theorem olderv_eq (wi : Nat) (r : List Nat) (f n : Nat) (p : List (List Nat)) : olderv wi r f n f n p = r := by rw [olderv, dif_pos (.inl ⟨rfl, rfl⟩)]
theorem olderv_l {wi : Nat} {r : List Nat} {f n tf tn : Nat} {p : List (List Nat)} (h2 : 2 ≤ n) (hne : ¬ (f = tf ∧ n = tn)) (hlt : tf < f + hf n) : olderv wi r f n tf tn p = olderv wi r f (hf n) tf tn p.dropLast := by
  conv => lhs; rw [olderv, dif_neg (by omega), if_pos hlt]
theorem olderv_r {wi : Nat} {r : List Nat} {f n tf tn : Nat} {p : List (List Nat)} (h2 : 2 ≤ n) (hne : ¬ (f = tf ∧ n = tn)) (hlt : ¬ tf < f + hf n) : olderv wi r f n tf tn p = nd wi (p.getLastD []) (olderv wi r (f + hf n) (n - hf n) tf tn p.dropLast) := by
  conv => lhs; rw [olderv, dif_neg (by omega), if_neg hlt]
theorem olderv_wid (wi : Nat) (hw1 : 1 ≤ wi) (hw32 : wi ≤ 32) (r : List Nat) (hr : r.length = wi) (m : Nat) : ∀ f n tf tn (ps : List (List Nat)), n ≤ m → (olderv wi r f n tf tn ps).length = wi := by
  induction m with
  | zero => intro f n tf tn ps h; rw [olderv, dif_pos (by omega)]; exact hr
  | succ m ih =>
    intro f n tf tn ps h
    by_cases e : (f = tf ∧ n = tn) ∨ n < 2
    · rw [olderv, dif_pos e]; exact hr
    · have h3 := hf_lt n (by omega)
      by_cases hl : tf < f + hf n
      · rw [olderv_l (by omega) (by omega) hl]; exact ih _ _ _ _ _ (by omega)
      · rw [olderv_r (by omega) (by omega) hl]; exact nd_len wi hw1 hw32 _ _
set_option maxRecDepth 100000 in
set_option maxHeartbeats 1000000 in
theorem older_l (wi tf tn f n N xc g o : Nat) (ro : Option Addr) (rn rc : Nat) (v : Value) (w : World) (hc : w.cell? ⟨g, o + N, none⟩ = some v) (hcp : N + 1 ≤ xc) (hN : N < 9223372036854775807) (hv : ∃ a n c, v = .slice a n c) (h2 : 2 ≤ n) (hb : f + n < 9223372036854775808) (hne : ¬ (f = tf ∧ n = tn)) (hl : tf < f + hf n) (M : List Nat)
    (ht : ∀ w', Fr (fun _ => False) w w' → Calls Tryd.prog 60 #[cv wi tf tn (.slice ro rn rc) (.slice (some ⟨g, o, none⟩) N xc), sv f (hf n)] w' fun e w'' => ∃ uo un uc, e = .returned (.slice uo un uc) ∧ Sl w'' (.slice uo un uc) M ∧ Fr (fun _ => False) w' w'') :
    Calls Tryd.prog 60 #[cv wi tf tn (.slice ro rn rc) (.slice (some ⟨g, o, none⟩) (N + 1) xc), sv f n] w fun e w' => ∃ uo un uc, e = .returned (.slice uo un uc) ∧ Sl w' (.slice uo un uc) M ∧ Fr (fun _ => False) w w' := by
  obtain ⟨va, vn, vc, rfl⟩ := hv
  have hin := fun (w' : World) (hf : Fr (fun _ => False) w w') => inner_any wi tf tn N xc g o ro rn rc (.slice va vn vc) w' ((hf.cell (lt_of_cell hc) (fun h => h)).trans hc) hcp hN ⟨_, _, _, rfl⟩
  have eqs := fun w => eq_span f n tf tn w
  rw [decide_eq_false hne] at eqs
  have eg := Tryd.guard_span
  clear hne
  have hhv := fun w => halves_any f n w hb h2
  have hbf := fun w => before_any tf tn (f + hf n) (n - hf n) w
  rw [decide_eq_true hl] at hbf
  clear hl hc hcp hN hb h2
  generalize f + hf n = F2 at *
  generalize n - hf n = N2 at *
  generalize hf n = K at *
  have HC := hide (And.intro hhv (And.intro hbf (And.intro hin ht)))
  clear hhv hbf hin ht
  unfold sv cv at *
  go_enter Tryd.func60, Tryd.ntmps60
  go_wp2_with fail
  obtain ⟨W0, hW0⟩ : ∃ W0, (w.alloc (.cells #[.int .i64 wi, .int .i64 tf, .int .i64 tn, .slice ro rn rc, .slice (some ⟨g, o, none⟩) (N + 1) xc] 67)).alloc (.cells #[.int .i64 f, .int .i64 n] 61) = W0 := ⟨_, rfl⟩
  rw [hW0]
  obtain ⟨⟨a0, a1, a2, a3, a4⟩, -, -, hF0⟩ := box52 w _ _ _ _ _ _ _ _ _ W0 hW0
  refine ((unhide HC).1 _).mono ?_
  rintro e' wA ⟨rfl, hFA⟩
  have b0 := (hFA.cell (lt_of_cell a0) (fun h => h)).trans a0
  have b1 := (hFA.cell (lt_of_cell a1) (fun h => h)).trans a1
  have b2 := (hFA.cell (lt_of_cell a2) (fun h => h)).trans a2
  have b3 := (hFA.cell (lt_of_cell a3) (fun h => h)).trans a3
  have b4 := (hFA.cell (lt_of_cell a4) (fun h => h)).trans a4
  have HF := hide (hF0.trans hFA (fun _ _ h => h))
  clear hFA hF0 a0 a1 a2 a3 a4 hW0
  generalize w.heap.size = P at *
  have l0 : P < wA.heap.size := lt_of_cell b0
  have l1 : P < wA.heap.size + 1 := Nat.lt_succ_of_lt l0
  go_wp2_with fail
  obtain ⟨W1, hW1⟩ : ∃ W1, (wA.alloc (.cells #[.int .i64 f, .int .i64 K] 61)).alloc (.cells #[.int .i64 F2, .int .i64 N2] 61) = W1 := ⟨_, rfl⟩
  rw [hW1]
  obtain ⟨x0, x1, y0, y1, hF1⟩ := two2 wA _ _ _ _ _ W1 hW1
  refine ((unhide HC).2.2.1 _ ((unhide HF).trans hF1 (fun _ _ h => h))).mono ?_
  rintro e' wB ⟨rfl, hFB⟩
  have hF1B := hF1.trans hFB (fun _ _ h => h)
  have c1 := (hF1B.cell (lt_of_cell b1) (fun h => h)).trans b1
  have c2 := (hF1B.cell (lt_of_cell b2) (fun h => h)).trans b2
  have u0 := (hFB.cell (lt_of_cell x0) (fun h => h)).trans x0
  have u1 := (hFB.cell (lt_of_cell x1) (fun h => h)).trans x1
  have v0 := (hFB.cell (lt_of_cell y0) (fun h => h)).trans y0
  have v1 := (hFB.cell (lt_of_cell y1) (fun h => h)).trans y1
  have HF2 := hide ((unhide HF).trans hF1B (fun _ _ h => h))
  clear hF1 hFB hF1B hW1 x0 x1 y0 y1 b0 b1 b2 b3 b4 HF l0 l1
  generalize wA.heap.size = Z at *
  have k0 : P < wB.heap.size := lt_of_cell c1
  have k1 : Z < wB.heap.size := lt_of_cell u0
  have k2 : Z + 1 < wB.heap.size := lt_of_cell v0
  go_wp2_with fail
  obtain ⟨W2, hW2⟩ : ∃ W2, wB.alloc (.cells #[.int .i64 wi, .int .i64 tf, .int .i64 tn, .slice ro rn rc, .slice (some ⟨g, o, none⟩) N xc] 67) = W2 := ⟨_, rfl⟩
  rw [hW2]
  obtain ⟨⟨p0, p1, p2, p3, p4⟩, hF3⟩ := box5 wB _ _ _ _ _ _ W2 hW2
  refine ((unhide HC).2.1 _).mono ?_
  rintro e' wC ⟨rfl, hFC⟩
  have hF3C := hF3.trans hFC (fun _ _ h => h)
  have q0 := (hFC.cell (lt_of_cell p0) (fun h => h)).trans p0
  have q1 := (hFC.cell (lt_of_cell p1) (fun h => h)).trans p1
  have q2 := (hFC.cell (lt_of_cell p2) (fun h => h)).trans p2
  have q3 := (hFC.cell (lt_of_cell p3) (fun h => h)).trans p3
  have q4 := (hFC.cell (lt_of_cell p4) (fun h => h)).trans p4
  have m0 := (hF3C.cell (lt_of_cell u0) (fun h => h)).trans u0
  have m1 := (hF3C.cell (lt_of_cell u1) (fun h => h)).trans u1
  have HF4 := hide ((unhide HF2).trans hF3C (fun _ _ h => h))
  clear hF3 hFC hF3C hW2 p0 p1 p2 p3 p4 HF2 u0 u1 v0 v1 c1 c2 k0 k1 k2
  generalize wB.heap.size = Y at *
  go_wp2_with fail
  refine ((unhide HC).2.2.2 _ (unhide HF4)).mono ?_
  rintro e' wD ⟨uo, un, uc, rfl, hS, hFD⟩
  have HD := hide (And.intro hS ((unhide HF4).trans hFD (fun _ _ h => h)))
  clear hS hFD
  go_wp2_with fail
  go_ret
  exact ⟨uo, un, uc, rfl, (unhide HD).1, (unhide HD).2⟩
set_option maxRecDepth 100000 in
set_option maxHeartbeats 2000000 in
theorem older_r (wi tf tn f n N xc g o : Nat) (ro : Option Addr) (rn rc : Nat) (v : Value) (w : World) (hc : w.cell? ⟨g, o + N, none⟩ = some v) (hcp : N + 1 ≤ xc) (hN : N < 9223372036854775807) (hv : ∃ a n c, v = .slice a n c) (h2 : 2 ≤ n) (hb : f + n < 9223372036854775808) (hne : ¬ (f = tf ∧ n = tn)) (hl : ¬ tf < f + hf n) (M B : List Nat) (hg : GS w) (hnode : ∀ w' x, GS w' → Fr (fun _ => False) w w' → Sl w' x M → Calls Tryd.prog 33 #[.int .i64 wi, v, x] w' fun e w'' => ∃ yo, e = .returned (.slice yo wi wi) ∧ Sl w'' (.slice yo wi wi) B ∧ Fr (fun _ => False) w' w'')
    (ht : ∀ w', Fr (fun _ => False) w w' → Calls Tryd.prog 60 #[cv wi tf tn (.slice ro rn rc) (.slice (some ⟨g, o, none⟩) N xc), sv (f + hf n) (n - hf n)] w' fun e w'' => ∃ uo un uc, e = .returned (.slice uo un uc) ∧ Sl w'' (.slice uo un uc) M ∧ Fr (fun _ => False) w' w'') :
    Calls Tryd.prog 60 #[cv wi tf tn (.slice ro rn rc) (.slice (some ⟨g, o, none⟩) (N + 1) xc), sv f n] w fun e w' => ∃ uo un uc, e = .returned (.slice uo un uc) ∧ Sl w' (.slice uo un uc) B ∧ Fr (fun _ => False) w w' := by
  obtain ⟨va, vn, vc, rfl⟩ := hv
  have hin := fun (w' : World) (hf : Fr (fun _ => False) w w') => inner_any wi tf tn N xc g o ro rn rc (.slice va vn vc) w' ((hf.cell (lt_of_cell hc) (fun h => h)).trans hc) hcp hN ⟨_, _, _, rfl⟩
  have eqs := fun w => eq_span f n tf tn w
  rw [decide_eq_false hne] at eqs
  have eg := Tryd.guard_span
  clear hne
  have hhv := fun w => halves_any f n w hb h2
  have hbf := fun w => before_any tf tn (f + hf n) (n - hf n) w
  rw [decide_eq_false hl] at hbf
  clear hl hc hcp hN hb h2
  generalize f + hf n = F2 at *
  generalize n - hf n = N2 at *
  generalize hf n = K at *
  have HC := hide (And.intro hhv (And.intro hbf (And.intro hin (And.intro ht (And.intro hg hnode)))))
  clear hhv hbf hin ht hg hnode
  unfold sv cv at *
  go_enter Tryd.func60, Tryd.ntmps60
  go_wp2_with fail
  obtain ⟨W0, hW0⟩ : ∃ W0, (w.alloc (.cells #[.int .i64 wi, .int .i64 tf, .int .i64 tn, .slice ro rn rc, .slice (some ⟨g, o, none⟩) (N + 1) xc] 67)).alloc (.cells #[.int .i64 f, .int .i64 n] 61) = W0 := ⟨_, rfl⟩
  rw [hW0]
  obtain ⟨⟨a0, a1, a2, a3, a4⟩, -, -, hF0⟩ := box52 w _ _ _ _ _ _ _ _ _ W0 hW0
  refine ((unhide HC).1 _).mono ?_
  rintro e' wA ⟨rfl, hFA⟩
  have b0 := (hFA.cell (lt_of_cell a0) (fun h => h)).trans a0
  have b1 := (hFA.cell (lt_of_cell a1) (fun h => h)).trans a1
  have b2 := (hFA.cell (lt_of_cell a2) (fun h => h)).trans a2
  have b3 := (hFA.cell (lt_of_cell a3) (fun h => h)).trans a3
  have b4 := (hFA.cell (lt_of_cell a4) (fun h => h)).trans a4
  have HF := hide (hF0.trans hFA (fun _ _ h => h))
  clear hFA hF0 a0 a1 a2 a3 a4 hW0
  generalize w.heap.size = P at *
  have l0 : P < wA.heap.size := lt_of_cell b0
  have l1 : P < wA.heap.size + 1 := Nat.lt_succ_of_lt l0
  go_wp2_with fail
  obtain ⟨W1, hW1⟩ : ∃ W1, (wA.alloc (.cells #[.int .i64 f, .int .i64 K] 61)).alloc (.cells #[.int .i64 F2, .int .i64 N2] 61) = W1 := ⟨_, rfl⟩
  rw [hW1]
  obtain ⟨x0, x1, y0, y1, hF1⟩ := two2 wA _ _ _ _ _ W1 hW1
  refine ((unhide HC).2.2.1 _ ((unhide HF).trans hF1 (fun _ _ h => h))).mono ?_
  rintro e' wB ⟨rfl, hFB⟩
  have hF1B := hF1.trans hFB (fun _ _ h => h)
  have c0 := (hF1B.cell (lt_of_cell b0) (fun h => h)).trans b0
  have c1 := (hF1B.cell (lt_of_cell b1) (fun h => h)).trans b1
  have c2 := (hF1B.cell (lt_of_cell b2) (fun h => h)).trans b2
  have u0 := (hFB.cell (lt_of_cell x0) (fun h => h)).trans x0
  have u1 := (hFB.cell (lt_of_cell x1) (fun h => h)).trans x1
  have v0 := (hFB.cell (lt_of_cell y0) (fun h => h)).trans y0
  have v1 := (hFB.cell (lt_of_cell y1) (fun h => h)).trans y1
  have HF2 := hide ((unhide HF).trans hF1B (fun _ _ h => h))
  clear hF1 hFB hF1B hW1 x0 x1 y0 y1 b0 b1 b2 b3 b4 HF l0 l1
  generalize wA.heap.size = Z at *
  have k0 : P < wB.heap.size := lt_of_cell c1
  have k1 : Z < wB.heap.size := lt_of_cell u0
  have k2 : Z + 1 < wB.heap.size := lt_of_cell v0
  go_wp2_with fail
  obtain ⟨W2, hW2⟩ : ∃ W2, wB.alloc (.cells #[.int .i64 wi, .int .i64 tf, .int .i64 tn, .slice ro rn rc, .slice (some ⟨g, o, none⟩) N xc] 67) = W2 := ⟨_, rfl⟩
  rw [hW2]
  obtain ⟨⟨p0, p1, p2, p3, p4⟩, hF3⟩ := box5 wB _ _ _ _ _ _ W2 hW2
  refine ((unhide HC).2.1 _).mono ?_
  rintro e' wC ⟨rfl, hFC⟩
  have hF3C := hF3.trans hFC (fun _ _ h => h)
  have q0 := (hFC.cell (lt_of_cell p0) (fun h => h)).trans p0
  have q1 := (hFC.cell (lt_of_cell p1) (fun h => h)).trans p1
  have q2 := (hFC.cell (lt_of_cell p2) (fun h => h)).trans p2
  have q3 := (hFC.cell (lt_of_cell p3) (fun h => h)).trans p3
  have q4 := (hFC.cell (lt_of_cell p4) (fun h => h)).trans p4
  have d0 := (hF3C.cell (lt_of_cell c0) (fun h => h)).trans c0
  have m0 := (hF3C.cell (lt_of_cell v0) (fun h => h)).trans v0
  have m1 := (hF3C.cell (lt_of_cell v1) (fun h => h)).trans v1
  have HF4 := hide ((unhide HF2).trans hF3C (fun _ _ h => h))
  clear hF3 hFC hF3C hW2 p0 p1 p2 p3 p4 HF2 u0 u1 v0 v1 c0 c1 c2 k0 k1 k2
  generalize wB.heap.size = Y at *
  have hS : ∀ w', Fr (fun _ => False) wC w' → w'.cell? ⟨P, 0, none⟩ = some (.int .i64 wi) ∧ w'.cell? ⟨Y, 0, none⟩ = some (.int .i64 wi) ∧ w'.cell? ⟨Y, 1, none⟩ = some (.int .i64 tf) ∧ w'.cell? ⟨Y, 2, none⟩ = some (.int .i64 tn) ∧ w'.cell? ⟨Y, 3, none⟩ = some (.slice ro rn rc) ∧ w'.cell? ⟨Y, 4, none⟩ = some (.slice (some ⟨g, o, none⟩) N xc) ∧ w'.cell? ⟨Z + 1, 0, none⟩ = some (.int .i64 F2) ∧ w'.cell? ⟨Z + 1, 1, none⟩ = some (.int .i64 N2) := fun w' hf =>
    ⟨(hf.cell (lt_of_cell d0) (fun h => h)).trans d0, (hf.cell (lt_of_cell q0) (fun h => h)).trans q0, (hf.cell (lt_of_cell q1) (fun h => h)).trans q1, (hf.cell (lt_of_cell q2) (fun h => h)).trans q2, (hf.cell (lt_of_cell q3) (fun h => h)).trans q3, (hf.cell (lt_of_cell q4) (fun h => h)).trans q4, (hf.cell (lt_of_cell m0) (fun h => h)).trans m0, (hf.cell (lt_of_cell m1) (fun h => h)).trans m1⟩
  have HS := hide hS
  clear hS
  go_wp2_with fail
  go_region_held3 (fun w' => w'.cell? ⟨P, 0, none⟩ = some (.int .i64 wi) ∧ w'.cell? ⟨Y, 0, none⟩ = some (.int .i64 wi) ∧ w'.cell? ⟨Y, 1, none⟩ = some (.int .i64 tf) ∧ w'.cell? ⟨Y, 2, none⟩ = some (.int .i64 tn) ∧ w'.cell? ⟨Y, 3, none⟩ = some (.slice ro rn rc) ∧ w'.cell? ⟨Y, 4, none⟩ = some (.slice (some ⟨g, o, none⟩) N xc) ∧ w'.cell? ⟨Z + 1, 0, none⟩ = some (.int .i64 F2) ∧ w'.cell? ⟨Z + 1, 1, none⟩ = some (.int .i64 N2))
    (first | assumption | exact (unhide HS) _ (Fr.refl _ _).drew | exact (unhide HS) _ fE | exact (unhide HS) _ fD)
    (first
      | (go_at_call 60; refine ((unhide HC).2.2.2.1 _ (by first | exact unhide HF4 | exact (unhide HF4).drew)).mono ?_; rintro e' wD ⟨uo, un, uc, rfl, sD, fD0⟩; have fD : Fr (fun _ => False) wC wD := by first | exact fD0 | exact (Fr.refl _ _).drew.trans fD0 (fun _ _ h => h))
      | (go_at_call 33; refine ((unhide HC).2.2.2.2.2 wD _ ((unhide HC).2.2.2.2.1.fr0 ((unhide HF4).trans fD (fun _ _ h => h))) ((unhide HF4).trans fD (fun _ _ h => h)) sD).mono ?_; rintro e' wE ⟨zo, rfl, sE, fE0⟩; have fE : Fr (fun _ => False) wC wE := fD.trans fE0 (fun _ _ h => h)))
  have HD := hide (And.intro sE ((unhide HF4).trans fE (fun _ _ h => h)))
  clear sE fE sD fD fE0 fD0
  go_wp2_with fail
  go_ret
  exact ⟨zo, wi, wi, rfl, (unhide HD).1, (unhide HD).2⟩
end Go.Proofs.YtocdnomfpgdglabDoor

namespace Go.Proofs.YtocdnomfpgdglabDoor
open Go.RowKit

set_option maxRecDepth 100000 in
set_option maxHeartbeats 2000000 in
/-- The older root as it comes out of a claim. -/
theorem older_any (wi : Nat) (hw1 : 1 ≤ wi) (hw32 : wi ≤ 32) (m : Nat) : ∀ (f n tf tn : Nat) (w : World) (ro : Option Addr) (rn rc : Nat) (r : List Nat) (x : Value) (vs : List Value) (ps : List (List Nat)), n ≤ m → f + n < 9223372036854775808 → Rch f n tf tn → GS w → Sl w (.slice ro rn rc) r → r.length = wi → Pcs w x vs ps → Cp x → ps.length = dep f n tf tn → (∀ p ∈ ps, p.length = wi) →
    Calls Tryd.prog 60 #[cv wi tf tn (.slice ro rn rc) x, sv f n] w fun e w' => ∃ uo un uc, e = .returned (.slice uo un uc) ∧ Sl w' (.slice uo un uc) (olderv wi r f n tf tn ps) ∧ Fr (fun _ => False) w w' := by
  induction m with
  | zero =>
    intro f n tf tn w ro rn rc r x vs ps hm hb hr hg hs hrw hp hcx hpd hpw
    by_cases e : f = tf ∧ n = tn
    · obtain ⟨rfl, rfl⟩ := e
      rw [olderv_eq]
      have eqs := fun w => eq_span f n f n w
      simp only [decide_true, and_self] at eqs
      have eg := Tryd.guard_span
      obtain ⟨xo, xc, rfl⟩ := hp.form
      have HS := hide hs
      clear hs hg hp hcx hpd hpw hrw
      generalize ps.length = N at *
      unfold sv cv
      go_enter Tryd.func60, Tryd.ntmps60
      go_wp2_with fail
      go_ret
      exact ⟨ro, rn, rc, rfl, (unhide HS).fr0 (((Fr.refl _ _).alloc _).alloc _), ((Fr.refl _ _).alloc _).alloc _⟩
    · have := (rch_ne hr e).1; omega
  | succ m ih =>
    intro f n tf tn w ro rn rc r x vs ps hm hb hr hg hs hrw hp hcx hpd hpw
    by_cases e : f = tf ∧ n = tn
    · obtain ⟨rfl, rfl⟩ := e
      rw [olderv_eq]
      have eqs := fun w => eq_span f n f n w
      simp only [decide_true, and_self] at eqs
      have eg := Tryd.guard_span
      obtain ⟨xo, xc, rfl⟩ := hp.form
      have HS := hide hs
      clear hs hg hp hcx hpd hpw hrw
      generalize ps.length = N at *
      unfold sv cv
      go_enter Tryd.func60, Tryd.ntmps60
      go_wp2_with fail
      go_ret
      exact ⟨ro, rn, rc, rfl, (unhide HS).fr0 (((Fr.refl _ _).alloc _).alloc _), ((Fr.refl _ _).alloc _).alloc _⟩
    · obtain ⟨h2, r1, r2⟩ := rch_ne hr e
      have hlt := hf_lt n h2
      have hpos := hf_pos n
      have eqs := fun w => eq_span f n tf tn w
      rw [decide_eq_false e] at eqs
      have eg := Tryd.guard_span
      by_cases hl : tf < f + hf n
      · have hdp := dep_l h2 e hl
        obtain ⟨D, hD⟩ : ∃ D, dep f (hf n) tf tn = D := ⟨_, rfl⟩
        rw [hD] at hdp
        have hlen : ps.length = D + 1 := by rw [hpd, hdp]
        obtain ⟨xo, xc, rfl⟩ := hp.form
        rw [hlen] at hp hcx ⊢
        obtain ⟨g, o, v, rfl, hcell, -⟩ := hp.cell (Fr.refl _ _) D (by omega)
        have hDb : D ≤ n := by rw [← hD]; have := dep_le _ f (hf n) tf tn (Nat.le_refl _); omega
        have hDc : D < 9223372036854775807 := by have h1 := dep_le _ f n tf tn (Nat.le_refl _); omega
        have hcap : D + 1 ≤ xc := hcx _ _ _ rfl
        have hvD : vs[D]? = some v := by
          have hvl : D < vs.length := by rw [hp.len]; omega
          rcases hp.at_ with ⟨e', _⟩ | ⟨_, _, e', _⟩ | ⟨g', o', c', e', _, hc'⟩
          · simp at e'
          · simp at e'
          · simp only [Value.slice.injEq, Option.some.injEq, Addr.mk.injEq, and_true] at e'
            obtain ⟨⟨rfl, rfl⟩, _⟩ := e'
            have h1 := hc' D _ (List.getElem?_eq_getElem hvl)
            rw [h1] at hcell
            rw [List.getElem?_eq_getElem hvl, Option.some.inj hcell]
        have hsv : Sl w v ps[D] := hp.sl D v _ hvD (List.getElem?_eq_getElem (by omega))
        have hdl : ps.dropLast = ps.take D := by rw [List.dropLast_eq_take, hlen]; rfl
        have hp' := hp.take D (by omega)
        have htop : ∀ w', Fr (fun _ => False) w w' → _ := fun w' hf' => ih f (hf n) tf tn w' ro rn rc r _ _ (ps.take D) (by omega) (by omega) (r1 hl) (hg.fr0 hf') (hs.fr0 hf') hrw (hp'.fr0 hf') (fun _ _ _ e => by cases e; omega) (by rw [List.length_take]; omega) (fun p hp => hpw p (List.mem_of_mem_take hp))
        rw [olderv_l h2 e hl, hdl]
        obtain ⟨va, vn, vc, rfl⟩ : ∃ a n c, v = .slice a n c := by
          obtain ⟨a, c, e⟩ := hsv.form
          exact ⟨_, _, _, e⟩
        exact older_l wi tf tn f n D xc g o ro rn rc (.slice va vn vc) w hcell hcap hDc ⟨_, _, _, rfl⟩ h2 hb e hl _ htop
      · have hdp := dep_r h2 e hl
        obtain ⟨D, hD⟩ : ∃ D, dep (f + hf n) (n - hf n) tf tn = D := ⟨_, rfl⟩
        rw [hD] at hdp
        have hlen : ps.length = D + 1 := by rw [hpd, hdp]
        obtain ⟨xo, xc, rfl⟩ := hp.form
        rw [hlen] at hp hcx ⊢
        obtain ⟨g, o, v, rfl, hcell, -⟩ := hp.cell (Fr.refl _ _) D (by omega)
        have hDb : D ≤ n := by rw [← hD]; have := dep_le _ (f + hf n) (n - hf n) tf tn (Nat.le_refl _); omega
        have hDc : D < 9223372036854775807 := by have h1 := dep_le _ f n tf tn (Nat.le_refl _); omega
        have hcap : D + 1 ≤ xc := hcx _ _ _ rfl
        have hvD : vs[D]? = some v := by
          have hvl : D < vs.length := by rw [hp.len]; omega
          rcases hp.at_ with ⟨e', _⟩ | ⟨_, _, e', _⟩ | ⟨g', o', c', e', _, hc'⟩
          · simp at e'
          · simp at e'
          · simp only [Value.slice.injEq, Option.some.injEq, Addr.mk.injEq, and_true] at e'
            obtain ⟨⟨rfl, rfl⟩, _⟩ := e'
            have h1 := hc' D _ (List.getElem?_eq_getElem hvl)
            rw [h1] at hcell
            rw [List.getElem?_eq_getElem hvl, Option.some.inj hcell]
        have hsv : Sl w v ps[D] := hp.sl D v _ hvD (List.getElem?_eq_getElem (by omega))
        have hdl : ps.dropLast = ps.take D := by rw [List.dropLast_eq_take, hlen]; rfl
        have hgl : ps.getLastD [] = ps[D] := getLastD_at ps D hlen
        have hp' := hp.take D (by omega)
        have htop : ∀ w', Fr (fun _ => False) w w' → _ := fun w' hf' => ih (f + hf n) (n - hf n) tf tn w' ro rn rc r _ _ (ps.take D) (by omega) (by omega) (r2 hl) (hg.fr0 hf') (hs.fr0 hf') hrw (hp'.fr0 hf') (fun _ _ _ e => by cases e; omega) (by rw [List.length_take]; omega) (fun p hp => hpw p (List.mem_of_mem_take hp))
        rw [olderv_r h2 e hl, hdl, hgl]
        have hTw := olderv_wid wi hw1 hw32 r hrw _ (f + hf n) (n - hf n) tf tn (ps.take D) (Nat.le_refl _)
        have hAw := hpw ps[D] (List.getElem_mem _)
        obtain ⟨va, vn, vc, rfl⟩ : ∃ a n c, v = .slice a n c := by
          obtain ⟨a, c, e⟩ := hsv.form
          exact ⟨_, _, _, e⟩
        have hnl := nd_len wi hw1 hw32 ps[D] (olderv wi r (f + hf n) (n - hf n) tf tn (ps.take D))
        refine older_r wi tf tn f n D xc g o ro rn rc (.slice va vn vc) w hcell hcap hDc ⟨_, _, _, rfl⟩ h2 hb e hl _ _ hg (fun w' x hg' hf' hx => ?_) htop
        refine (node_any (wi : Int) (.slice va vn vc) x ps[D] _ w' hg' (hsv.fr0 hf') hx (by omega) (by omega)).mono ?_
        rintro e' w'' ⟨yo, rfl, hO⟩
        have hsl := hO.sl (nd_lt _ _ _)
        rw [hnl] at hsl ⊢
        exact ⟨yo, rfl, hsl, hO.fr⟩
end Go.Proofs.YtocdnomfpgdglabDoor

namespace Go.Proofs.YtocdnomfpgdglabDoor
open Go.RowKit

theorem set5 (w : World) (b : Nat) (x0 x1 x2 x3 x4 : Value) (h : ∀ j : Nat, j < 5 → (w.cell? ⟨b, j, none⟩).isSome = true) (W : World) (hW : ((((w.setCell ⟨b, 0, none⟩ x0).setCell ⟨b, 1, none⟩ x1).setCell ⟨b, 2, none⟩ x2).setCell ⟨b, 3, none⟩ x3).setCell ⟨b, 4, none⟩ x4 = W) : W.cell? ⟨b, 0, none⟩ = some x0 ∧ W.cell? ⟨b, 1, none⟩ = some x1 ∧ W.cell? ⟨b, 2, none⟩ = some x2 ∧ W.cell? ⟨b, 3, none⟩ = some x3 ∧ W.cell? ⟨b, 4, none⟩ = some x4 := by
  subst hW
  have o : ∀ (v : World) (i j : Nat) (u : Value), i ≠ j → (v.setCell ⟨b, i, none⟩ u).cell? ⟨b, j, none⟩ = v.cell? ⟨b, j, none⟩ := fun v i j u h => World.cell?_setCell_other _ _ _ _ (by intro e; injection e with e1 e2; omega)
  refine ⟨?_, ?_, ?_, ?_, ?_⟩
  · rw [o _ 4 0 _ (by decide), o _ 3 0 _ (by decide), o _ 2 0 _ (by decide), o _ 1 0 _ (by decide), World.cell?_setCell_same' _ _ _ (h 0 (by decide))]
  · rw [o _ 4 1 _ (by decide), o _ 3 1 _ (by decide), o _ 2 1 _ (by decide), World.cell?_setCell_same' _ _ _ (by rw [o _ 0 1 _ (by decide)]; exact h 1 (by decide))]
  · rw [o _ 4 2 _ (by decide), o _ 3 2 _ (by decide), World.cell?_setCell_same' _ _ _ (by rw [o _ 1 2 _ (by decide), o _ 0 2 _ (by decide)]; exact h 2 (by decide))]
  · rw [o _ 4 3 _ (by decide), World.cell?_setCell_same' _ _ _ (by rw [o _ 2 3 _ (by decide), o _ 1 3 _ (by decide), o _ 0 3 _ (by decide)]; exact h 3 (by decide))]
  · rw [World.cell?_setCell_same' _ _ _ (by rw [o _ 3 4 _ (by decide), o _ 2 4 _ (by decide), o _ 1 4 _ (by decide), o _ 0 4 _ (by decide)]; exact h 4 (by decide))]
theorem nil5 (w : World) (W : World) (hW : w.alloc (.cells #[.int .i64 0, .int .i64 0, .int .i64 0, .slice none 0 0, .slice none 0 0] 67) = W) : (W.cell? ⟨w.heap.size, 0, none⟩ = some (.int .i64 0) ∧ W.cell? ⟨w.heap.size, 1, none⟩ = some (.int .i64 0) ∧ W.cell? ⟨w.heap.size, 2, none⟩ = some (.int .i64 0) ∧ W.cell? ⟨w.heap.size, 3, none⟩ = some (.slice none 0 0) ∧ W.cell? ⟨w.heap.size, 4, none⟩ = some (.slice none 0 0)) ∧ (∀ j : Nat, j < 5 → W.frozen? ⟨w.heap.size, j, none⟩ = false) ∧ Fr (fun _ => False) w W := by
  subst hW
  refine ⟨⟨?_, ?_, ?_, ?_, ?_⟩, fun j hj => ?_, (Fr.refl _ _).alloc _⟩
  iterate 5 (rw [World.cell?_alloc_at _ _ _ _ rfl] <;> rfl)
  rw [World.frozen?_alloc_at _ _ _ _ rfl] <;> first | rfl | skip
set_option maxRecDepth 100000 in
set_option maxHeartbeats 1000000 in
/-- What a proof says, where SUB never left the first entries. -/
theorem ofProof_l (wi m n : Nat) (h0 : 0 < m) (hm : m ≤ n) (hn : n < 9223372036854775808) (he : (endF 0 n m).1 = 0) (ro : Option Addr) (rn rc : Nat) (xo : Option Addr) (xn xc : Nat) (w : World) :
    Calls Tryd.prog 47 #[.int .i64 wi, .int .i64 m, .int .i64 n, .slice ro rn rc, .slice xo xn xc] w fun e w' => e = .returned (.tuple #[cv wi (endF 0 n m).1 (endF 0 n m).2 (.slice ro rn rc) (.slice xo xn xc), .bool true]) ∧ Fr (fun _ => False) w w' := by
  have hend := fun w' => end_any n 0 n m w' (Nat.le_refl _) (by omega) h0 (by omega)
  unfold EndSays at hend
  rw [he] at hend ⊢
  generalize (endF 0 n m).2 = EN at *
  have HE := hide hend
  clear hend he h0 hm hn
  unfold sv cv at *
  have e0 : ((0 : Nat) : Int) = 0 := rfl
  simp only [e0] at HE ⊢
  clear e0
  go_enter Tryd.func47, Tryd.ntmps47
  go_wp2_with fail
  obtain ⟨W0, hW0⟩ : ∃ W0, w.alloc (.cells #[.int .i64 0, .int .i64 0, .int .i64 0, .slice none 0 0, .slice none 0 0] 67) = W0 := ⟨_, rfl⟩
  rw [hW0]
  obtain ⟨⟨a0, a1, a2, a3, a4⟩, hz, hF0⟩ := nil5 w W0 hW0
  refine ((unhide HE) _).mono ?_
  rintro e w1 ⟨rfl, hF⟩
  have c0 := (hF.cell (lt_of_cell a0) (fun h => h)).trans a0
  have c1 := (hF.cell (lt_of_cell a1) (fun h => h)).trans a1
  have c2 := (hF.cell (lt_of_cell a2) (fun h => h)).trans a2
  have c3 := (hF.cell (lt_of_cell a3) (fun h => h)).trans a3
  have c4 := (hF.cell (lt_of_cell a4) (fun h => h)).trans a4
  have y0 := (hF.frozen (p := ⟨w.heap.size, 0, none⟩) (lt_of_cell a0) (fun h => h)).trans (hz 0 (by decide))
  have y1 := (hF.frozen (p := ⟨w.heap.size, 1, none⟩) (lt_of_cell a1) (fun h => h)).trans (hz 1 (by decide))
  have y2 := (hF.frozen (p := ⟨w.heap.size, 2, none⟩) (lt_of_cell a2) (fun h => h)).trans (hz 2 (by decide))
  have y3 := (hF.frozen (p := ⟨w.heap.size, 3, none⟩) (lt_of_cell a3) (fun h => h)).trans (hz 3 (by decide))
  have y4 := (hF.frozen (p := ⟨w.heap.size, 4, none⟩) (lt_of_cell a4) (fun h => h)).trans (hz 4 (by decide))
  have HF := hide (hF0.trans hF (fun _ _ h => h))
  have hP : w.heap.size ≤ w.heap.size := Nat.le_refl _
  clear hF hF0 a0 a1 a2 a3 a4 hz hW0
  generalize hPe : w.heap.size = P at *
  have HP := hide hPe
  clear hPe
  have l0 : P < w1.heap.size := lt_of_cell c0
  have l1 : P < w1.heap.size + 1 := Nat.lt_succ_of_lt l0
  go_wp2_with fail
  obtain ⟨W2, hW2⟩ : ∃ W2, ((((w1.setCell ⟨P, 0, none⟩ (.int .i64 (wi : Int))).setCell ⟨P, 1, none⟩ (.int .i64 0)).setCell ⟨P, 2, none⟩ (.int .i64 (EN : Int))).setCell ⟨P, 3, none⟩ (.slice ro rn rc)).setCell ⟨P, 4, none⟩ (.slice xo xn xc) = W2 := ⟨_, rfl⟩
  obtain ⟨k0, k1, k2, k3, k4⟩ := set5 w1 P _ _ _ _ _ (fun j hj => by
    match j, hj with
    | 0, _ => rw [c0]; rfl
    | 1, _ => rw [c1]; rfl
    | 2, _ => rw [c2]; rfl
    | 3, _ => rw [c3]; rfl
    | 4, _ => rw [c4]; rfl) W2 hW2
  have hPw : w.heap.size ≤ P := Nat.le_of_eq (unhide HP)
  have hF2 : Fr (fun _ => False) w W2 := by
    rw [← hW2]
    exact (((((unhide HF).setCell (p := ⟨P, 0, none⟩) (.inr hPw) _).setCell (p := ⟨P, 1, none⟩) (.inr hPw) _).setCell (p := ⟨P, 2, none⟩) (.inr hPw) _).setCell (p := ⟨P, 3, none⟩) (.inr hPw) _).setCell (p := ⟨P, 4, none⟩) (.inr hPw) _
  rw [hW2]
  obtain ⟨W3, hW3⟩ : ∃ W3, W2.alloc (.cells #[.int .i64 0, .int .i64 (EN : Int)] 61) = W3 := ⟨_, rfl⟩
  have hF3 : Fr (fun _ => False) W2 W3 := by rw [← hW3]; exact (Fr.refl _ _).alloc _
  rw [hW3]
  have j0 := (hF3.cell (lt_of_cell k0) (fun h => h)).trans k0
  have j1 := (hF3.cell (lt_of_cell k1) (fun h => h)).trans k1
  have j2 := (hF3.cell (lt_of_cell k2) (fun h => h)).trans k2
  have j3 := (hF3.cell (lt_of_cell k3) (fun h => h)).trans k3
  have j4 := (hF3.cell (lt_of_cell k4) (fun h => h)).trans k4
  refine bodyPost_ret (by simp [results, Tryd.results47, go_sem, j0, j1, j2, j3, j4]; try rfl) rfl ?_
  exact ⟨rfl, hF2.trans hF3 (fun _ _ h => h)⟩
end Go.Proofs.YtocdnomfpgdglabDoor

namespace Go.Proofs.YtocdnomfpgdglabDoor
open Go.RowKit

set_option maxRecDepth 100000 in
set_option maxHeartbeats 1000000 in
/-- A proof without the root of the part where SUB ends. -/
theorem ofProof_no (wi m n : Nat) (h0 : 0 < m) (hm : m ≤ n) (hn : n < 9223372036854775808) (he : ¬ (endF 0 n m).1 = 0) (ro : Option Addr) (rn rc : Nat) (xo : Option Addr) (xc : Nat) (w : World) :
    Calls Tryd.prog 47 #[.int .i64 wi, .int .i64 m, .int .i64 n, .slice ro rn rc, .slice xo 0 xc] w fun e w' => e = .returned (.tuple #[cv 0 0 0 (.slice none 0 0) (.slice none 0 0), .bool false]) ∧ Fr (fun _ => False) w w' := by
  have hend := fun w' => end_any n 0 n m w' (Nat.le_refl _) (by omega) h0 (by omega)
  unfold EndSays at hend
  generalize (endF 0 n m).2 = EN at *
  generalize (endF 0 n m).1 = E1 at *
  have q1 : ((E1 : Int) == 0) = false := beq_false_of_ne (by omega)
  have q2 := he
  have HE := hide hend
  clear hend he h0 hm hn
  unfold sv cv at *
  have e0 : ((0 : Nat) : Int) = 0 := rfl
  simp only [e0] at HE ⊢
  clear e0
  go_enter Tryd.func47, Tryd.ntmps47
  go_wp2_with fail
  obtain ⟨W0, hW0⟩ : ∃ W0, w.alloc (.cells #[.int .i64 0, .int .i64 0, .int .i64 0, .slice none 0 0, .slice none 0 0] 67) = W0 := ⟨_, rfl⟩
  rw [hW0]
  obtain ⟨⟨a0, a1, a2, a3, a4⟩, hz, hF0⟩ := nil5 w W0 hW0
  refine ((unhide HE) _).mono ?_
  rintro e w1 ⟨rfl, hF⟩
  have c0 := (hF.cell (lt_of_cell a0) (fun h => h)).trans a0
  have c1 := (hF.cell (lt_of_cell a1) (fun h => h)).trans a1
  have c2 := (hF.cell (lt_of_cell a2) (fun h => h)).trans a2
  have c3 := (hF.cell (lt_of_cell a3) (fun h => h)).trans a3
  have c4 := (hF.cell (lt_of_cell a4) (fun h => h)).trans a4
  have y0 := (hF.frozen (p := ⟨w.heap.size, 0, none⟩) (lt_of_cell a0) (fun h => h)).trans (hz 0 (by decide))
  have y1 := (hF.frozen (p := ⟨w.heap.size, 1, none⟩) (lt_of_cell a1) (fun h => h)).trans (hz 1 (by decide))
  have y2 := (hF.frozen (p := ⟨w.heap.size, 2, none⟩) (lt_of_cell a2) (fun h => h)).trans (hz 2 (by decide))
  have y3 := (hF.frozen (p := ⟨w.heap.size, 3, none⟩) (lt_of_cell a3) (fun h => h)).trans (hz 3 (by decide))
  have y4 := (hF.frozen (p := ⟨w.heap.size, 4, none⟩) (lt_of_cell a4) (fun h => h)).trans (hz 4 (by decide))
  have HF := hide (hF0.trans hF (fun _ _ h => h))
  have hP : w.heap.size ≤ w.heap.size := Nat.le_refl _
  clear hF hF0 a0 a1 a2 a3 a4 hz hW0
  generalize hPe : w.heap.size = P at *
  have HP := hide hPe
  clear hPe
  have l0 : P < w1.heap.size := lt_of_cell c0
  have l1 : P < w1.heap.size + 1 := Nat.lt_succ_of_lt l0
  go_wp2_with fail
  obtain ⟨W2, hW2⟩ : ∃ W2, ((((w1.setCell ⟨P, 0, none⟩ (.int .i64 0)).setCell ⟨P, 1, none⟩ (.int .i64 0)).setCell ⟨P, 2, none⟩ (.int .i64 0)).setCell ⟨P, 3, none⟩ (.slice none 0 0)).setCell ⟨P, 4, none⟩ (.slice none 0 0) = W2 := ⟨_, rfl⟩
  obtain ⟨k0, k1, k2, k3, k4⟩ := set5 w1 P _ _ _ _ _ (fun j hj => by
    match j, hj with
    | 0, _ => rw [c0]; rfl
    | 1, _ => rw [c1]; rfl
    | 2, _ => rw [c2]; rfl
    | 3, _ => rw [c3]; rfl
    | 4, _ => rw [c4]; rfl) W2 hW2
  have hPw : w.heap.size ≤ P := Nat.le_of_eq (unhide HP)
  have hF2 : Fr (fun _ => False) w W2 := by
    rw [← hW2]
    exact (((((unhide HF).setCell (p := ⟨P, 0, none⟩) (.inr hPw) _).setCell (p := ⟨P, 1, none⟩) (.inr hPw) _).setCell (p := ⟨P, 2, none⟩) (.inr hPw) _).setCell (p := ⟨P, 3, none⟩) (.inr hPw) _).setCell (p := ⟨P, 4, none⟩) (.inr hPw) _
  rw [hW2]
  obtain ⟨W3, hW3⟩ : ∃ W3, W2.alloc (.cells #[.int .i64 (E1 : Int), .int .i64 (EN : Int)] 61) = W3 := ⟨_, rfl⟩
  have hF3 : Fr (fun _ => False) W2 W3 := by rw [← hW3]; exact (Fr.refl _ _).alloc _
  rw [hW3]
  have j0 := (hF3.cell (lt_of_cell k0) (fun h => h)).trans k0
  have j1 := (hF3.cell (lt_of_cell k1) (fun h => h)).trans k1
  have j2 := (hF3.cell (lt_of_cell k2) (fun h => h)).trans k2
  have j3 := (hF3.cell (lt_of_cell k3) (fun h => h)).trans k3
  have j4 := (hF3.cell (lt_of_cell k4) (fun h => h)).trans k4
  refine bodyPost_ret (by simp [results, Tryd.results47, go_sem, j0, j1, j2, j3, j4]; try rfl) rfl ?_
  exact ⟨rfl, hF2.trans hF3 (fun _ _ h => h)⟩
end Go.Proofs.YtocdnomfpgdglabDoor

namespace Go.Proofs.YtocdnomfpgdglabDoor
open Go.RowKit

set_option maxRecDepth 100000 in
set_option maxHeartbeats 2000000 in
/-- What a proof says, its first hash the root of the part where SUB ends. -/
theorem ofProof_r (wi m n : Nat) (h0 : 0 < m) (hm : m ≤ n) (hn : n < 9223372036854775808) (he : ¬ (endF 0 n m).1 = 0) (ro : Option Addr) (rn rc : Nat) (g o xn xc : Nat) (vo : Option Addr) (vn vc : Nat) (w : World) (hc : w.cell? ⟨g, o, none⟩ = some (.slice vo vn vc)) (hxc : xn + 1 ≤ xc) (hx1 : ¬ xc = 1) :
    Calls Tryd.prog 47 #[.int .i64 wi, .int .i64 m, .int .i64 n, .slice ro rn rc, .slice (some ⟨g, o, none⟩) (xn + 1) xc] w fun e w' => e = .returned (.tuple #[cv wi (endF 0 n m).1 (endF 0 n m).2 (.slice vo vn vc) (.slice (some ⟨g, o + 1, none⟩) xn (xc - 1)), .bool true]) ∧ Fr (fun _ => False) w w' := by
  have hend := fun w' => end_any n 0 n m w' (Nat.le_refl _) (by omega) h0 (by omega)
  unfold EndSays at hend
  generalize (endF 0 n m).2 = EN at *
  generalize (endF 0 n m).1 = E1 at *
  have q1 : ((E1 : Int) == 0) = false := beq_false_of_ne (by omega)
  have q2 := he
  have q3 : (((xn : Int) + 1) == 0) = false := beq_false_of_ne (by omega)
  have q4 : ¬ (xn : Int) + 1 = 0 := by omega
  have q5 : (0 : Int) < (xn : Int) + 1 := by omega
  have q6 : (1 : Int) ≤ (xn : Int) + 1 := by omega
  have q7 : (1 : Int) ≤ (xc : Int) := by omega
  have q8 : (xn : Int) + 1 ≤ (xc : Int) := by omega
  have q9 : ¬ 1 = xc := fun h => hx1 h.symm
  have HE := hide hend
  clear hend he h0 hm hn
  unfold sv cv at *
  have e0 : ((0 : Nat) : Int) = 0 := rfl
  simp only [e0] at HE ⊢
  clear e0
  go_enter Tryd.func47, Tryd.ntmps47
  go_wp2_with fail
  obtain ⟨W0, hW0⟩ : ∃ W0, w.alloc (.cells #[.int .i64 0, .int .i64 0, .int .i64 0, .slice none 0 0, .slice none 0 0] 67) = W0 := ⟨_, rfl⟩
  rw [hW0]
  obtain ⟨⟨a0, a1, a2, a3, a4⟩, hz, hF0⟩ := nil5 w W0 hW0
  refine ((unhide HE) _).mono ?_
  rintro e w1 ⟨rfl, hF⟩
  have hc1 := ((hF0.trans hF (fun _ _ h => h)).cell (lt_of_cell hc) (fun h => h)).trans hc
  have hgl : g < w1.heap.size := lt_of_cell hc1
  have hgl1 : g < w1.heap.size + 1 := Nat.lt_succ_of_lt hgl
  have hgne : ¬ g = w.heap.size := by have := lt_of_cell hc; exact fun h => by simp at this; omega
  clear hc
  have c0 := (hF.cell (lt_of_cell a0) (fun h => h)).trans a0
  have c1 := (hF.cell (lt_of_cell a1) (fun h => h)).trans a1
  have c2 := (hF.cell (lt_of_cell a2) (fun h => h)).trans a2
  have c3 := (hF.cell (lt_of_cell a3) (fun h => h)).trans a3
  have c4 := (hF.cell (lt_of_cell a4) (fun h => h)).trans a4
  have y0 := (hF.frozen (p := ⟨w.heap.size, 0, none⟩) (lt_of_cell a0) (fun h => h)).trans (hz 0 (by decide))
  have y1 := (hF.frozen (p := ⟨w.heap.size, 1, none⟩) (lt_of_cell a1) (fun h => h)).trans (hz 1 (by decide))
  have y2 := (hF.frozen (p := ⟨w.heap.size, 2, none⟩) (lt_of_cell a2) (fun h => h)).trans (hz 2 (by decide))
  have y3 := (hF.frozen (p := ⟨w.heap.size, 3, none⟩) (lt_of_cell a3) (fun h => h)).trans (hz 3 (by decide))
  have y4 := (hF.frozen (p := ⟨w.heap.size, 4, none⟩) (lt_of_cell a4) (fun h => h)).trans (hz 4 (by decide))
  have HF := hide (hF0.trans hF (fun _ _ h => h))
  have hP : w.heap.size ≤ w.heap.size := Nat.le_refl _
  clear hF hF0 a0 a1 a2 a3 a4 hz hW0
  generalize hPe : w.heap.size = P at *
  have HP := hide hPe
  clear hPe
  have l0 : P < w1.heap.size := lt_of_cell c0
  have l1 : P < w1.heap.size + 1 := Nat.lt_succ_of_lt l0
  go_wp2_with fail
  go_region
  go_wp2_with fail
  obtain ⟨W2, hW2⟩ : ∃ W2, ((((w1.setCell ⟨P, 0, none⟩ (.int .i64 (wi : Int))).setCell ⟨P, 1, none⟩ (.int .i64 (E1 : Int))).setCell ⟨P, 2, none⟩ (.int .i64 (EN : Int))).setCell ⟨P, 3, none⟩ (.slice vo vn vc)).setCell ⟨P, 4, none⟩ (.slice (some ⟨g, o + 1, none⟩) xn (xc - 1)) = W2 := ⟨_, rfl⟩
  obtain ⟨k0, k1, k2, k3, k4⟩ := set5 w1 P _ _ _ _ _ (fun j hj => by
    match j, hj with
    | 0, _ => rw [c0]; rfl
    | 1, _ => rw [c1]; rfl
    | 2, _ => rw [c2]; rfl
    | 3, _ => rw [c3]; rfl
    | 4, _ => rw [c4]; rfl) W2 hW2
  have hPw : w.heap.size ≤ P := Nat.le_of_eq (unhide HP)
  have hF2 : Fr (fun _ => False) w W2 := by
    rw [← hW2]
    exact (((((unhide HF).setCell (p := ⟨P, 0, none⟩) (.inr hPw) _).setCell (p := ⟨P, 1, none⟩) (.inr hPw) _).setCell (p := ⟨P, 2, none⟩) (.inr hPw) _).setCell (p := ⟨P, 3, none⟩) (.inr hPw) _).setCell (p := ⟨P, 4, none⟩) (.inr hPw) _
  rw [hW2]
  obtain ⟨W3, hW3⟩ : ∃ W3, (W2.alloc (.cells #[.int .i64 (E1 : Int), .int .i64 (EN : Int)] 61)).drew = W3 := ⟨_, rfl⟩
  have hF3 : Fr (fun _ => False) W2 W3 := by rw [← hW3]; exact ((Fr.refl _ _).alloc _).drew
  rw [hW3]
  have j0 := (hF3.cell (lt_of_cell k0) (fun h => h)).trans k0
  have j1 := (hF3.cell (lt_of_cell k1) (fun h => h)).trans k1
  have j2 := (hF3.cell (lt_of_cell k2) (fun h => h)).trans k2
  have j3 := (hF3.cell (lt_of_cell k3) (fun h => h)).trans k3
  have j4 := (hF3.cell (lt_of_cell k4) (fun h => h)).trans k4
  refine bodyPost_ret (by simp [results, Tryd.results47, go_sem, j0, j1, j2, j3, j4]; try rfl) rfl ?_
  exact ⟨rfl, hF2.trans hF3 (fun _ _ h => h)⟩
end Go.Proofs.YtocdnomfpgdglabDoor

namespace Go.Proofs.YtocdnomfpgdglabDoor
open Go.RowKit

set_option maxRecDepth 100000 in
set_option maxHeartbeats 2000000 in
/-- What a proof says, its one hash the root of the part where SUB ends, in a slice of capacity 1. -/
theorem ofProof_r1 (wi m n : Nat) (h0 : 0 < m) (hm : m ≤ n) (hn : n < 9223372036854775808) (he : ¬ (endF 0 n m).1 = 0) (ro : Option Addr) (rn rc : Nat) (g o : Nat) (vo : Option Addr) (vn vc : Nat) (w : World) (hc : w.cell? ⟨g, o, none⟩ = some (.slice vo vn vc)) :
    Calls Tryd.prog 47 #[.int .i64 wi, .int .i64 m, .int .i64 n, .slice ro rn rc, .slice (some ⟨g, o, none⟩) 1 1] w fun e w' => e = .returned (.tuple #[cv wi (endF 0 n m).1 (endF 0 n m).2 (.slice vo vn vc) (.slice (some ⟨g, o, none⟩) 0 0), .bool true]) ∧ Fr (fun _ => False) w w' := by
  have hend := fun w' => end_any n 0 n m w' (Nat.le_refl _) (by omega) h0 (by omega)
  unfold EndSays at hend
  generalize (endF 0 n m).2 = EN at *
  generalize (endF 0 n m).1 = E1 at *
  have q1 : ((E1 : Int) == 0) = false := beq_false_of_ne (by omega)
  have q2 := he
  have HE := hide hend
  clear hend he h0 hm hn
  unfold sv cv at *
  have e0 : ((0 : Nat) : Int) = 0 := rfl
  simp only [e0] at HE ⊢
  clear e0
  go_enter Tryd.func47, Tryd.ntmps47
  go_wp2_with fail
  obtain ⟨W0, hW0⟩ : ∃ W0, w.alloc (.cells #[.int .i64 0, .int .i64 0, .int .i64 0, .slice none 0 0, .slice none 0 0] 67) = W0 := ⟨_, rfl⟩
  rw [hW0]
  obtain ⟨⟨a0, a1, a2, a3, a4⟩, hz, hF0⟩ := nil5 w W0 hW0
  refine ((unhide HE) _).mono ?_
  rintro e w1 ⟨rfl, hF⟩
  have hc1 := ((hF0.trans hF (fun _ _ h => h)).cell (lt_of_cell hc) (fun h => h)).trans hc
  have hgl : g < w1.heap.size := lt_of_cell hc1
  have hgl1 : g < w1.heap.size + 1 := Nat.lt_succ_of_lt hgl
  have hgne : ¬ g = w.heap.size := by have := lt_of_cell hc; exact fun h => by simp at this; omega
  clear hc
  have c0 := (hF.cell (lt_of_cell a0) (fun h => h)).trans a0
  have c1 := (hF.cell (lt_of_cell a1) (fun h => h)).trans a1
  have c2 := (hF.cell (lt_of_cell a2) (fun h => h)).trans a2
  have c3 := (hF.cell (lt_of_cell a3) (fun h => h)).trans a3
  have c4 := (hF.cell (lt_of_cell a4) (fun h => h)).trans a4
  have y0 := (hF.frozen (p := ⟨w.heap.size, 0, none⟩) (lt_of_cell a0) (fun h => h)).trans (hz 0 (by decide))
  have y1 := (hF.frozen (p := ⟨w.heap.size, 1, none⟩) (lt_of_cell a1) (fun h => h)).trans (hz 1 (by decide))
  have y2 := (hF.frozen (p := ⟨w.heap.size, 2, none⟩) (lt_of_cell a2) (fun h => h)).trans (hz 2 (by decide))
  have y3 := (hF.frozen (p := ⟨w.heap.size, 3, none⟩) (lt_of_cell a3) (fun h => h)).trans (hz 3 (by decide))
  have y4 := (hF.frozen (p := ⟨w.heap.size, 4, none⟩) (lt_of_cell a4) (fun h => h)).trans (hz 4 (by decide))
  have HF := hide (hF0.trans hF (fun _ _ h => h))
  have hP : w.heap.size ≤ w.heap.size := Nat.le_refl _
  clear hF hF0 a0 a1 a2 a3 a4 hz hW0
  generalize hPe : w.heap.size = P at *
  have HP := hide hPe
  clear hPe
  have l0 : P < w1.heap.size := lt_of_cell c0
  have l1 : P < w1.heap.size + 1 := Nat.lt_succ_of_lt l0
  go_wp2_with fail
  go_region
  go_wp2_with fail
  obtain ⟨W2, hW2⟩ : ∃ W2, ((((w1.setCell ⟨P, 0, none⟩ (.int .i64 (wi : Int))).setCell ⟨P, 1, none⟩ (.int .i64 (E1 : Int))).setCell ⟨P, 2, none⟩ (.int .i64 (EN : Int))).setCell ⟨P, 3, none⟩ (.slice vo vn vc)).setCell ⟨P, 4, none⟩ (.slice (some ⟨g, o, none⟩) 0 0) = W2 := ⟨_, rfl⟩
  obtain ⟨k0, k1, k2, k3, k4⟩ := set5 w1 P _ _ _ _ _ (fun j hj => by
    match j, hj with
    | 0, _ => rw [c0]; rfl
    | 1, _ => rw [c1]; rfl
    | 2, _ => rw [c2]; rfl
    | 3, _ => rw [c3]; rfl
    | 4, _ => rw [c4]; rfl) W2 hW2
  have hPw : w.heap.size ≤ P := Nat.le_of_eq (unhide HP)
  have hF2 : Fr (fun _ => False) w W2 := by
    rw [← hW2]
    exact (((((unhide HF).setCell (p := ⟨P, 0, none⟩) (.inr hPw) _).setCell (p := ⟨P, 1, none⟩) (.inr hPw) _).setCell (p := ⟨P, 2, none⟩) (.inr hPw) _).setCell (p := ⟨P, 3, none⟩) (.inr hPw) _).setCell (p := ⟨P, 4, none⟩) (.inr hPw) _
  rw [hW2]
  obtain ⟨W3, hW3⟩ : ∃ W3, (W2.alloc (.cells #[.int .i64 (E1 : Int), .int .i64 (EN : Int)] 61)).drew = W3 := ⟨_, rfl⟩
  have hF3 : Fr (fun _ => False) W2 W3 := by rw [← hW3]; exact ((Fr.refl _ _).alloc _).drew
  rw [hW3]
  have j0 := (hF3.cell (lt_of_cell k0) (fun h => h)).trans k0
  have j1 := (hF3.cell (lt_of_cell k1) (fun h => h)).trans k1
  have j2 := (hF3.cell (lt_of_cell k2) (fun h => h)).trans k2
  have j3 := (hF3.cell (lt_of_cell k3) (fun h => h)).trans k3
  have j4 := (hF3.cell (lt_of_cell k4) (fun h => h)).trans k4
  refine bodyPost_ret (by simp [results, Tryd.results47, go_sem, j0, j1, j2, j3, j4]; try rfl) rfl ?_
  exact ⟨rfl, hF2.trans hF3 (fun _ _ h => h)⟩
end Go.Proofs.YtocdnomfpgdglabDoor

namespace Go.Proofs.YtocdnomfpgdglabDoor
open Go.RowKit

/-- Whether hashes say of a part that the older root and the root come out of them. -/
def bodyQ (wi n ef en : Nat) (r : List Nat) (qs : List (List Nat)) (old root : List Nat) : Bool :=
  decide (qs.length = dep 0 n ef en) && (decide (olderv wi r 0 n ef en qs = old) && decide (topv wi r 0 n ef en qs = root))
def prfQ (wi n m : Nat) (old root : List Nat) (ps : List (List Nat)) : Bool :=
  if (endF 0 n m).1 = 0 then bodyQ wi n (endF 0 n m).1 (endF 0 n m).2 old ps old root
  else match ps with
    | [] => false
    | p :: q => bodyQ wi n (endF 0 n m).1 (endF 0 n m).2 p q old root
/-- Whether CheckProof takes a proof. -/
def chkQ (j m n : Int) (old root : List Nat) (ps : List (List Nat)) : Bool :=
  decide (1 ≤ j ∧ j ≤ 32) && (decide (0 ≤ m) && (decide (m ≤ n) && (wdq j [old, root] && (wdq j ps &&
    (if m = 0 then decide (ps = []) && (decide (old = sm j []) && (decide (0 < n) || decide (root = sm j []))) else prfQ j.toNat n.toNat m.toNat old root ps)))))
/-- The claim that a proof makes. -/
theorem ofProof_any (wi m n : Nat) (h0 : 0 < m) (hm : m ≤ n) (hn : n < 9223372036854775808) (ov x : Value) (old root : List Nat) (vs : List Value) (ps : List (List Nat)) (w : World) (ho : Sl w ov old) (hp : Pcs w x vs ps) (hcx : Cp x) (how : old.length = wi) (hpw : ∀ p ∈ ps, p.length = wi) (h : (endF 0 n m).1 = 0 ∨ ps ≠ []) :
    ∃ (ro : Option Addr) (rn rc : Nat) (yo : Option Addr) (yc : Nat) (r : List Nat) (us : List Value) (qs : List (List Nat)), Sl w (.slice ro rn rc) r ∧ r.length = wi ∧ Pcs w (.slice yo qs.length yc) us qs ∧ Cp (.slice yo qs.length yc) ∧ (∀ p ∈ qs, p.length = wi) ∧ prfQ wi n m old root ps = bodyQ wi n (endF 0 n m).1 (endF 0 n m).2 r qs old root ∧
      ∀ w', Fr (fun _ => False) w w' → Calls Tryd.prog 47 #[.int .i64 wi, .int .i64 m, .int .i64 n, ov, x] w' fun e w'' => e = .returned (.tuple #[cv wi (endF 0 n m).1 (endF 0 n m).2 (.slice ro rn rc) (.slice yo qs.length yc), .bool true]) ∧ Fr (fun _ => False) w' w'' := by
  obtain ⟨oo, oc, rfl⟩ := ho.form
  obtain ⟨xo, xc, rfl⟩ := hp.form
  by_cases he : (endF 0 n m).1 = 0
  · exact ⟨oo, old.length, oc, xo, xc, old, vs, ps, ho, how, hp, hcx, hpw, by unfold prfQ; rw [if_pos he], fun w' _ => ofProof_l wi m n h0 hm hn he oo _ oc xo _ xc w'⟩
  · have hne := h.resolve_left he
    match ps, hne with
    | p :: q, _ =>
      obtain ⟨g, o, vo, vc, rfl, hc, hs⟩ := hp.nth (Fr.refl _ _) 0 (by simp)
      have hcap : q.length + 1 ≤ xc := hcx _ _ _ rfl
      simp only [List.getElem_cons_zero, Nat.add_zero] at hc hs
      have e : prfQ wi n m old root (p :: q) = bodyQ wi n (endF 0 n m).1 (endF 0 n m).2 p q old root := by unfold prfQ; rw [if_neg he]
      by_cases h1 : xc = 1
      · have hq : q = [] := List.length_eq_zero_iff.1 (by omega)
        subst h1 hq
        refine ⟨vo, p.length, vc, some ⟨g, o, none⟩, 0, p, [], [], hs, hpw p (by simp), ⟨rfl, .inr (.inl ⟨_, _, rfl, rfl⟩), (fun j v p h => by simp at h), (fun p h => by cases h)⟩, (fun _ _ _ e => by cases e; exact Nat.le_refl _), (fun p h => by cases h), e, fun w' hf => ?_⟩
        exact ofProof_r1 wi m n h0 hm hn he oo _ oc g o vo _ vc w' ((hf.cell (lt_of_cell hc) (fun h => h)).trans hc)
      · have hP : Pcs w (.slice (some ⟨g, o + 1, none⟩) q.length (xc - 1)) (vs.drop 1) q := by
          by_cases hq : q.length = 0
          · have hq0 : q = [] := List.length_eq_zero_iff.1 hq
            subst hq0
            have hv : vs.drop 1 = [] := List.length_eq_zero_iff.1 (by rw [List.length_drop, hp.len]; rfl)
            rw [hv]
            exact ⟨rfl, .inr (.inl ⟨_, _, rfl, rfl⟩), (fun j v p h => by simp at h), (fun p h => by cases h)⟩
          · exact hp.drop 1 (by simp; omega)
        refine ⟨vo, p.length, vc, some ⟨g, o + 1, none⟩, xc - 1, p, vs.drop 1, q, hs, hpw p (by simp), hP, fun _ _ _ e => by cases e; omega, fun p' h => hpw p' (by simp [h]), e, fun w' hf => ?_⟩
        exact ofProof_r wi m n h0 hm hn he oo _ oc g o q.length xc vo _ vc w' ((hf.cell (lt_of_cell hc) (fun h => h)).trans hc) hcap h1
end Go.Proofs.YtocdnomfpgdglabDoor

namespace Go.Proofs.YtocdnomfpgdglabDoor
open Go.RowKit

theorem hf_mid {n k : Nat} (h1 : hf n < k) (h2 : k ≤ n) : hf k = hf n := by
  have hp := hf_pos n
  have hge := hf_ge n (by omega)
  exact hf_uniq k _ (by unfold hf at h1; exact h1) (by unfold hf at hge; omega)
/-- The older root that a proof's hashes give. -/
theorem olderv_bes (wi : Nat) (L : List (List Nat)) (k : Nat) : ∀ f n m, n ≤ k → f + n ≤ L.length → f < m → m ≤ f + n → olderv wi (mth wi (blk L (endF f n m).1 (endF f n m).2)) f n (endF f n m).1 (endF f n m).2 (bes wi L f n (endF f n m).1 (endF f n m).2) = mth wi (blk L f (m - f)) := by
  induction k with
  | zero => intro f n m h _ h1 h2; omega
  | succ k ih =>
    intro f n m h hL h1 h2
    by_cases e : m = f + n
    · rw [endF_eq e]
      simp only [olderv_eq]
      rw [show m - f = n by omega]
    · have hn2 : 2 ≤ n := by omega
      have hlt := hf_lt n hn2
      have hp := hf_pos n
      by_cases hl : m ≤ f + hf n
      · rw [endF_l hn2 e hl]
        obtain ⟨e1, e2, e3, -, -⟩ := endF_ok _ f (hf n) m (Nat.le_refl _) h1 hl
        have hne : ¬ (f = (endF f (hf n) m).1 ∧ n = (endF f (hf n) m).2) := by omega
        have hlt2 : (endF f (hf n) m).1 < f + hf n := by omega
        rw [olderv_l hn2 hne hlt2, bes_l hn2 hne hlt2]
        simp only [List.dropLast_concat]
        exact ih f (hf n) m (by omega) (by omega) h1 hl
      · rw [endF_r hn2 e hl]
        obtain ⟨e1, e2, e3, -, -⟩ := endF_ok _ (f + hf n) (n - hf n) m (Nat.le_refl _) (by omega) (by omega)
        have hne : ¬ (f = (endF (f + hf n) (n - hf n) m).1 ∧ n = (endF (f + hf n) (n - hf n) m).2) := by omega
        have hlt2 : ¬ (endF (f + hf n) (n - hf n) m).1 < f + hf n := by omega
        rw [olderv_r hn2 hne hlt2, bes_r hn2 hne hlt2]
        simp only [List.dropLast_concat, List.getLastD_concat]
        rw [ih (f + hf n) (n - hf n) m (by omega) (by omega) (by omega) (by omega)]
        have hm : hf (m - f) = hf n := hf_mid (by omega) (by omega)
        rw [blk_halves L f (m - f) (by omega) (by omega) wi, hm]
        rw [show m - f - hf n = m - (f + hf n) by omega]
theorem prf_wid (wi : Nat) (hw1 : 1 ≤ wi) (hw32 : wi ≤ 32) (L : List (List Nat)) (hL : ∀ p ∈ L, p.length = wi) (n m : Nat) : ∀ p ∈ prf wi L n m, p.length = wi := by
  intro p hp
  unfold prf at hp
  split at hp
  · cases hp
  · split at hp
    · exact bes_wid wi hw1 hw32 L hL _ _ _ _ _ (Nat.le_refl _) p hp
    · rcases List.mem_cons.1 hp with rfl | hp
      · exact mth_wid wi hw1 hw32 _ (fun p hp => hL p (blk_mem _ _ _ p hp))
      · exact bes_wid wi hw1 hw32 L hL _ _ _ _ _ (Nat.le_refl _) p hp
theorem wdq_two {j : Int} {a b : List Nat} (ha : (a.length : Int) = j) (hb : (b.length : Int) = j) : wdq j [a, b] = true := by simp [wdq, ha, hb]
/-- A proof that the tree tells is taken. -/
theorem chkQ_prf (wi : Nat) (hw1 : 1 ≤ wi) (hw32 : wi ≤ 32) (L : List (List Nat)) (hL : ∀ p ∈ L, p.length = wi) (m : Nat) (hm : m ≤ L.length) : chkQ wi m L.length (mth wi (L.take m)) (mth wi L) (prf wi L L.length m) = true := by
  have hwd := wdq_of (j := (wi : Int)) (fun p hp => by have := prf_wid wi hw1 hw32 L hL L.length m p hp; omega)
  have h1 := mth_wid wi hw1 hw32 L hL
  have h2 := mth_wid wi hw1 hw32 (L.take m) (fun p hp => hL p (List.mem_of_mem_take hp))
  rw [chkQ, decide_eq_true (by omega), decide_eq_true (by omega), decide_eq_true (by omega), wdq_two (by omega) (by omega), hwd]
  simp only [Bool.true_and, Int.toNat_natCast]
  by_cases h0 : m = 0
  · subst h0
    rw [if_pos (by rfl), prf, if_pos rfl]
    simp only [decide_true, Bool.true_and, List.take_zero, mth_nil]
    rcases L with _ | ⟨a, r⟩
    · simp [mth_nil]
    · simp
  · rw [if_neg (by omega)]
    have hb0 : blk L 0 m = L.take m := by rw [blk, List.drop_zero]
    obtain ⟨e1, e2, e3, e4, -⟩ := endF_ok _ 0 L.length m (Nat.le_refl _) (by omega) (by omega)
    have ho := olderv_bes wi L _ 0 L.length m (Nat.le_refl _) (by omega) (by omega) (by omega)
    have ht := topv_bes wi L _ 0 L.length _ _ (Nat.le_refl _) (by omega) e4
    rw [Nat.sub_zero, hb0] at ho
    rw [blk_all] at ht
    have hl := bes_len wi L _ 0 L.length (endF 0 L.length m).1 (endF 0 L.length m).2 (Nat.le_refl _)
    unfold prfQ prf
    rw [if_neg h0]
    by_cases he : (endF 0 L.length m).1 = 0
    · rw [if_pos he, if_pos he]
      have hb : blk L (endF 0 L.length m).1 (endF 0 L.length m).2 = L.take m := by rw [← hb0, he]; congr 1; omega
      rw [hb] at ho ht
      unfold bodyQ
      rw [hl, ho, ht]
      simp
    · rw [if_neg he, if_neg he]
      simp only
      unfold bodyQ
      rw [hl, ho, ht]
      simp
/-- With a hash more it is not. -/
theorem chkQ_more (wi : Nat) (L : List (List Nat)) (n m : Nat) (old root x : List Nat) : chkQ wi m n old root (prf wi L n m ++ [x]) = false := by
  cases hq : chkQ wi m n old root (prf wi L n m ++ [x]) with
  | false => rfl
  | true =>
    exfalso
    unfold chkQ at hq
    simp only [Bool.and_eq_true, Int.toNat_natCast] at hq
    obtain ⟨-, -, -, -, -, hq⟩ := hq
    by_cases h0 : m = 0
    · subst h0
      rw [if_pos (by rfl)] at hq
      simp at hq
    · rw [if_neg (by omega)] at hq
      have hl := bes_len wi L _ 0 n (endF 0 n m).1 (endF 0 n m).2 (Nat.le_refl _)
      unfold prfQ prf at hq
      rw [if_neg h0] at hq
      by_cases he : (endF 0 n m).1 = 0
      · rw [if_pos he, if_pos he] at hq
        unfold bodyQ at hq
        simp only [Bool.and_eq_true, decide_eq_true_eq, List.length_append, List.length_singleton] at hq
        omega
      · rw [if_neg he, if_neg he] at hq
        simp only [List.cons_append] at hq
        unfold bodyQ at hq
        simp only [Bool.and_eq_true, decide_eq_true_eq, List.length_append, List.length_singleton] at hq
        omega
theorem chkP_more (wi : Nat) (L : List (List Nat)) (n i : Nat) (leaf root x : List Nat) : chkP wi leaf i n (bes wi L 0 n i 1 ++ [x]) root = false := by
  cases hq : chkP wi leaf i n (bes wi L 0 n i 1 ++ [x]) root with
  | false => rfl
  | true =>
    exfalso
    unfold chkP at hq
    simp only [Bool.and_eq_true, Int.toNat_natCast, decide_eq_true_eq, List.length_append, List.length_singleton] at hq
    have hl := bes_len wi L _ 0 n i 1 (Nat.le_refl _)
    omega
end Go.Proofs.YtocdnomfpgdglabDoor

namespace Go.Proofs.YtocdnomfpgdglabDoor
open Go.RowKit

theorem OB.fr0 {w wr wq : World} {xo : Option Addr} {cp : Nat} {l : List Nat} (h : OB w wr xo cp l) (hf : Fr (fun _ => False) wr wq) : OB w wq xo cp l := ⟨h.ow.fr0 hf, h.fr.trans hf (fun _ _ h => h)⟩
/-- One hash ahead of hashes that were made behind it. -/
theorem OL.front {w w1 w2 W : World} {yo bo : Option Addr} {yc bc wi : Nat} {us : List Value} {qs : List (List Nat)} {l : List Nat} (hO : OB w w1 yo yc l) (k : OL w1 w2 bo bc us qs) (hb : ∀ v ∈ l, v < 256) (hl : l.length = wi) (hW : w2.alloc (.cells #[.slice yo wi yc] 23) = W) (hn : us.length < 16000000) :
    ∃ ao' cp' w3, (Builtin.append_ #[22, 22] 22 #[.slice (some ⟨w2.heap.size, 0, none⟩) 1 1, .slice bo us.length bc]).run Tryd.prog W = .ok (.slice ao' (1 + us.length) cp') w3 ∧ OL w w3 ao' cp' ([.slice yo wi yc] ++ us) ([l] ++ qs) := by
  have hF : Fr (fun _ => False) w2 W := by rw [← hW]; exact (Fr.refl _ _).alloc _
  have hA := ol_lit1 (hO.fr0 k.own.fr) hb wi hl W hW
  have hB := (k.fr0 hF).base hO.fr
  refine hA.add _ us qs hB.ss hB.len hB.row hB.apart (fun v hv u hu g hg hg' => ?_) hB.byt (by simp; omega)
  simp at hv
  subst hv
  have h2 := (k.inner_lt u hu g hg').1
  have h3 := (World.ownsRow.lt hO.own g (by rw [hl]; exact hg)).2
  omega
/-- The roots of the whole trees. -/
def pks (wi : Nat) (L : List (List Nat)) (f n : Nat) : List (List Nat) :=
  if _h : oc n = 1 ∨ n < 2 then [mth wi (blk L f n)]
  else mth wi (blk L f (hf n)) :: pks wi L (f + hf n) (n - hf n)
termination_by n
decreasing_by
  have := hf_pos n; omega
theorem pks_one {wi : Nat} {L : List (List Nat)} {f n : Nat} (h : oc n = 1) : pks wi L f n = [mth wi (blk L f n)] := by rw [pks, dif_pos (.inl h)]
theorem pks_two {wi : Nat} {L : List (List Nat)} {f n : Nat} (h : ¬ oc n = 1) (h2 : 2 ≤ n) : pks wi L f n = mth wi (blk L f (hf n)) :: pks wi L (f + hf n) (n - hf n) := by
  conv => lhs; rw [pks, dif_neg (by omega)]
theorem pks_le (wi : Nat) (L : List (List Nat)) (k : Nat) : ∀ f n, n ≤ k → (pks wi L f n).length ≤ n + 1 := by
  induction k with
  | zero => intro f n h; rw [pks, dif_pos (by omega)]; simp
  | succ k ih =>
    intro f n h
    by_cases h1 : oc n = 1 ∨ n < 2
    · rw [pks, dif_pos h1]; simp
    · have h3 := hf_lt n (by omega)
      have h4 := hf_pos n
      rw [pks_two (by omega) (by omega)]
      have := ih (f + hf n) (n - hf n) (by omega)
      simp; omega
def PeaksSays (tb wi : Nat) (L : List (List Nat)) (f n : Nat) (w : World) : Prop :=
  Calls Tryd.prog 74 #[pv (.pointer (some ⟨tb, 0, none⟩)) f n] w fun e w' => ∃ ao cp vs, e = .returned (.slice ao vs.length cp) ∧ OL w w' ao cp vs (pks wi L f n)
set_option maxRecDepth 100000 in
set_option maxHeartbeats 2000000 in
theorem peaks_any (tb wi : Nat) (hw1 : 1 ≤ wi) (hw32 : wi ≤ 32) (L : List (List Nat)) (k : Nat) : ∀ (f n : Nat) (w : World), n ≤ k → 1 ≤ n → Tk w tb wi L → Al f n → f + n ≤ L.length → PeaksSays tb wi L f n w := by
  induction k with
  | zero => intro f n w h h1; omega
  | succ k ih =>
    intro f n w hk h1 hT hA hL
    have hle := hT.len
    have hwh := fun w' => whole_any (some ⟨tb, 0, none⟩) f n w' (by omega)
    by_cases hoc : oc n = 1
    · rw [decide_eq_true hoc] at hwh
      have hroot := fun w' (hf : Fr (fun _ => False) w w') => root_any tb wi hw1 hw32 L _ f n w' (Nat.le_refl _) (hT.fr0 hf) hA hL
      have hMw := hT.mw hw1 hw32 f n
      have hMb := hT.mb f n
      unfold PeaksSays
      unfold RootSays at hroot
      rw [pks_one hoc]
      generalize mth wi (blk L f n) = M at *
      have HC := hide (And.intro hwh (And.intro hroot (And.intro hMw hMb)))
      clear hwh hroot hMw hMb hT hA hL ih hoc hk h1 hle
      unfold pv at *
      go_enter Tryd.func74, Tryd.ntmps74
      go_wp2_with fail
      refine ((unhide HC).1 _).mono ?_
      rintro e wA ⟨rfl, hFA⟩
      obtain ⟨b0, b1, b2, hFw⟩ := box3 hFA
      have HFA := hide hFw
      clear hFA hFw
      generalize w.heap.size = P at *
      go_wp2_with fail
      refine ((unhide HC).2.1 _ (unhide HFA)).mono ?_
      rintro e w1 ⟨yo, yc, rfl, hO⟩
      obtain ⟨W, hW⟩ : ∃ W, w1.alloc (.cells #[.slice yo wi yc] 23) = W := ⟨_, rfl⟩
      have hL1 := (ol_lit1 hO (unhide HC).2.2.2 wi (unhide HC).2.2.1 W hW).base (unhide HFA)
      have H1 := hide hL1
      clear hL1 hO
      go_wp2_with fail
      go_ret
      exact ⟨_, 1, _, rfl, unhide H1⟩
    · rw [decide_eq_false hoc] at hwh
      have h3 : 3 ≤ n := by
        have e1 : n ≠ 1 := fun e => hoc (by rw [e]; exact oc_pow 0 (by decide))
        have e2 : n ≠ 2 := fun e => hoc (by rw [e]; exact oc_pow 1 (by decide))
        omega
      have hlt := hf_lt n (by omega)
      have hpos := hf_pos n
      obtain ⟨hA1, hA2⟩ := hA.halves (by omega)
      have hpt := fun w' => parts_any (some ⟨tb, 0, none⟩) f n w' (by omega) (by omega)
      have hroot := fun w' (hf' : Fr (fun _ => False) w w') => root_any tb wi hw1 hw32 L _ f (hf n) w' (Nat.le_refl _) (hT.fr0 hf') hA1 (by omega)
      have hrec := fun w' (hf' : Fr (fun _ => False) w w') => ih (f + hf n) (n - hf n) w' (by omega) (by omega) (hT.fr0 hf') hA2 (by omega)
      have hMw := hT.mw hw1 hw32 f (hf n)
      have hMb := hT.mb f (hf n)
      have hpl := pks_le wi L _ (f + hf n) (n - hf n) (Nat.le_refl _)
      have hpl2 : (pks wi L (f + hf n) (n - hf n)).length < 16000000 := by omega
      unfold PeaksSays at *
      unfold RootSays at hroot
      rw [pks_two hoc (by omega)]
      generalize mth wi (blk L f (hf n)) = M at *
      generalize pks wi L (f + hf n) (n - hf n) = PS at *
      generalize f + hf n = F2 at *
      generalize n - hf n = N2 at *
      generalize hf n = K at *
      have HC := hide (And.intro hwh (And.intro hpt (And.intro hroot (And.intro hrec (And.intro hMw (And.intro hMb hpl2))))))
      clear hwh hpt hroot hrec hMw hMb hpl hpl2 hT hA hL ih hoc hk h1 hle hA1 hA2 h3 hlt hpos
      unfold pv at *
      go_enter Tryd.func74, Tryd.ntmps74
      go_wp2_with fail
      refine ((unhide HC).1 _).mono ?_
      rintro e wA ⟨rfl, hFA⟩
      obtain ⟨b0, b1, b2, hFw⟩ := box3 hFA
      have HFA := hide hFw
      clear hFA hFw
      generalize w.heap.size = P at *
      go_wp2_with fail
      refine ((unhide HC).2.1 _).mono ?_
      rintro e wB ⟨rfl, hFB⟩
      have HFB := hide ((unhide HFA).trans hFB (fun _ _ h => h))
      clear hFB b0 b1 b2 HFA
      go_wp2_with fail
      obtain ⟨W, hW⟩ : ∃ W, (wB.alloc (.cells #[.pointer (some ⟨tb, 0, none⟩), .int .i64 f, .int .i64 K] 63)).alloc (.cells #[.pointer (some ⟨tb, 0, none⟩), .int .i64 F2, .int .i64 N2] 63) = W := ⟨_, rfl⟩
      rw [hW]
      obtain ⟨x0, x1, x2, y0, y1, y2, hFW⟩ := two3 wB _ _ _ _ _ _ _ W hW
      have HFW := hide ((unhide HFB).trans hFW (fun _ _ h => h))
      clear hW hFW
      generalize wB.heap.size = Z at *
      have hS : ∀ w', Fr (fun _ => False) W w' → w'.cell? ⟨Z, 0, none⟩ = some (.pointer (some ⟨tb, 0, none⟩)) ∧ w'.cell? ⟨Z, 1, none⟩ = some (.int .i64 f) ∧ w'.cell? ⟨Z, 2, none⟩ = some (.int .i64 K) ∧ w'.cell? ⟨Z + 1, 0, none⟩ = some (.pointer (some ⟨tb, 0, none⟩)) ∧ w'.cell? ⟨Z + 1, 1, none⟩ = some (.int .i64 F2) ∧ w'.cell? ⟨Z + 1, 2, none⟩ = some (.int .i64 N2) := fun w' hf =>
        ⟨(hf.cell (lt_of_cell x0) (fun h => h)).trans x0, (hf.cell (lt_of_cell x1) (fun h => h)).trans x1, (hf.cell (lt_of_cell x2) (fun h => h)).trans x2, (hf.cell (lt_of_cell y0) (fun h => h)).trans y0, (hf.cell (lt_of_cell y1) (fun h => h)).trans y1, (hf.cell (lt_of_cell y2) (fun h => h)).trans y2⟩
      have HS := hide hS
      clear hS
      go_region_held3 (fun w' => w'.cell? ⟨Z, 0, none⟩ = some (.pointer (some ⟨tb, 0, none⟩)) ∧ w'.cell? ⟨Z, 1, none⟩ = some (.int .i64 f) ∧ w'.cell? ⟨Z, 2, none⟩ = some (.int .i64 K) ∧ w'.cell? ⟨Z + 1, 0, none⟩ = some (.pointer (some ⟨tb, 0, none⟩)) ∧ w'.cell? ⟨Z + 1, 1, none⟩ = some (.int .i64 F2) ∧ w'.cell? ⟨Z + 1, 2, none⟩ = some (.int .i64 N2))
        (first | assumption | exact (unhide HS) _ (Fr.refl _ _).drew | exact (unhide HS) _ fE | exact (unhide HS) _ (fD.alloc _) | exact (unhide HS) _ fD | exact (unhide HS) _ (fC.alloc _) | exact (unhide HS) _ fC)
        (first
          | (go_at_call 75; refine ((unhide HC).2.2.1 _ (by exact (unhide HFW).drew)).mono ?_; rintro e wC ⟨zo, zc, rfl, oC⟩; have fC : Fr (fun _ => False) W wC := (Fr.refl _ _).drew.trans oC.fr (fun _ _ h => h))
          | (go_at_call 74; refine ((unhide HC).2.2.2.1 _ (by first | exact (unhide HFW).trans fC (fun _ _ h => h) | exact ((unhide HFW).trans fC (fun _ _ h => h)).alloc _)).mono ?_; rintro e wD ⟨bo, bc, us, rfl, oD⟩; have fD : Fr (fun _ => False) W wD := by first | exact fC.trans oD.own.fr (fun _ _ h => h) | exact (fC.alloc _).trans oD.own.fr (fun _ _ h => h))
          | (refine Exists.elim ((ol_lit1 oC (unhide HC).2.2.2.2.2.1 wi (unhide HC).2.2.2.2.1 _ rfl).cat oD (by rw [oD.len]; have := (unhide HC).2.2.2.2.2.2; simp; omega)) fun ao2 h => Exists.elim h fun cp2 h => Exists.elim h fun wE h => ?_; have hr2 := h.1; have hO2 := h.2; clear h; have fE : Fr (fun _ => False) W wE := (Fr.refl _ _).drew.trans hO2.own.fr (fun _ _ h => h); refine step_app rfl (.tmp 17) (.tmp 19) 22 22 rfl _ _ _ (by simp [Act.eval]) (by simp [Act.eval]) hr2 ?_)
          | (refine Exists.elim (OL.front oC oD (unhide HC).2.2.2.2.2.1 (unhide HC).2.2.2.2.1 rfl (by rw [oD.len]; exact (unhide HC).2.2.2.2.2.2)) fun ao2 h => Exists.elim h fun cp2 h => Exists.elim h fun wE h => ?_; have hr2 := h.1; have hO2 := h.2; clear h; have fE : Fr (fun _ => False) W wE := (Fr.refl _ _).drew.trans hO2.own.fr (fun _ _ h => h); refine step_app rfl (.tmp 17) (.tmp 19) 22 22 rfl _ _ _ (by simp [Act.eval]) (by simp [Act.eval]) hr2 ?_))
      all_goals
        have HE := hide (hO2.base ((unhide HFW).drew))
        clear oC oD hO2 hr2 fC fD fE
        go_wp2_with fail
        go_ret
        first | exact ⟨ao2, cp2, _, by rw [List.length_append]; rfl, unhide HE⟩ | exact ⟨ao2, cp2, _, by simp, unhide HE⟩
set_option maxRecDepth 100000 in
set_option maxHeartbeats 1000000 in
/-- Tree.Peaks. -/
theorem tpeaks_in (tb wi : Nat) (hw1 : 1 ≤ wi) (hw32 : wi ≤ 32) (L : List (List Nat)) (w : World) (hT : Tk w tb wi L) (h0 : 0 < L.length) :
    Calls Tryd.prog 31 #[.pointer (some ⟨tb, 0, none⟩)] w fun e w' => ∃ ao cp vs, e = .returned (.slice ao vs.length cp) ∧ OL w w' ao cp vs (pks wi L 0 L.length) := by
  obtain ⟨c0, c1, htb⟩ := hT.c0
  have hhas : Calls Tryd.prog 73 #[.pointer (some ⟨tb, 0, none⟩), .int .i64 L.length] w fun e w' => e = .returned (.bool true) ∧ w' = w := by
    have := has_any tb L.length wi L.length w c0 c1
    rw [decide_eq_true (by omega)] at this
    exact this
  have hpk := fun w' (hf : Fr (fun _ => False) w w') => peaks_any tb wi hw1 hw32 L _ 0 L.length w' (Nat.le_refl _) h0 (hT.fr0 hf) (al_zero _) (by omega)
  unfold PeaksSays at hpk
  have HG := hide (And.intro hhas hpk)
  have q1 : ¬ L.length = 0 := by omega
  have q2 : ((L.length : Int) == 0) = false := beq_false_of_ne (by omega)
  clear hhas hpk hT htb c0
  generalize pks wi L 0 L.length = PS at *
  have q3 : ¬ L = [] := fun h => q1 (by rw [h]; rfl)
  generalize L.length = N at *
  go_enter Tryd.func31, Tryd.ntmps31
  go_wp2_with fail
  refine (unhide HG).1.mono ?_
  rintro e w0 ⟨rfl, rfl⟩
  go_wp2_with fail
  refine (first_any _ _ _).mono ?_
  rintro e w1 ⟨rfl, hF1⟩
  have H1 := hide hF1
  clear hF1
  go_wp2_with fail
  refine ((unhide HG).2 w1 (unhide H1)).mono ?_
  rintro e w2 ⟨ao, cp, vs, rfl, hO⟩
  have H2 := hide (hO.base (unhide H1))
  clear hO
  go_wp2_with fail
  go_ret
  exact ⟨ao, cp, vs, rfl, unhide H2⟩
set_option maxRecDepth 100000 in
set_option maxHeartbeats 1000000 in
theorem tpeaks_no (tb n : Nat) (wi : Int) (w : World) (c0 : w.cell? ⟨tb, 0, none⟩ = some (.int .i64 wi)) (c1 : w.cell? ⟨tb, 1, none⟩ = some (.int .i64 n)) (h : ¬ (1 ≤ wi ∧ wi ≤ 32) ∨ n = 0) :
    Calls Tryd.prog 31 #[.pointer (some ⟨tb, 0, none⟩)] w fun e w' => e = .returned (.slice none 0 0) ∧ w' = w := by
  have hhas := has_any tb n wi n w c0 c1
  by_cases hh : 1 ≤ wi ∧ wi ≤ 32
  · rw [decide_eq_true (by omega)] at hhas
    have h0 : n = 0 := by
      rcases h with h | h
      · exact absurd hh h
      · exact h
    subst h0
    have e0 : ((0 : Nat) : Int) = 0 := rfl
    simp only [e0] at hhas c1
    have HG := hide hhas
    clear hhas h hh c0 e0
    go_enter Tryd.func31, Tryd.ntmps31
    go_wp2_with fail
    refine (unhide HG).mono ?_
    rintro e w0 ⟨rfl, rfl⟩
    go_wp2_with fail
    go_ret
    exact ⟨rfl, rfl⟩
  · rw [decide_eq_false (by omega)] at hhas
    have HG := hide hhas
    clear hhas h hh c0
    go_enter Tryd.func31, Tryd.ntmps31
    go_wp2_with fail
    refine (unhide HG).mono ?_
    rintro e w0 ⟨rfl, rfl⟩
    go_wp2_with fail
    go_ret
    exact ⟨rfl, rfl⟩
end Go.Proofs.YtocdnomfpgdglabDoor

namespace Go.Proofs.YtocdnomfpgdglabDoor
open Go.RowKit

/-- A root out of peaks, from the last on. -/
def fpk (wi : Int) : List (List Nat) → List Nat
  | [] => []
  | [a] => a
  | a :: b :: r => nd wi a (fpk wi (b :: r))
theorem fpk_cons {wi : Int} {a : List Nat} {r : List (List Nat)} (h : r ≠ []) : fpk wi (a :: r) = nd wi a (fpk wi r) := by
  match r, h with
  | b :: r, _ => rw [fpk]
theorem pks_ne (wi : Nat) (L : List (List Nat)) (f n : Nat) : pks wi L f n ≠ [] := by
  rw [pks]
  split <;> simp
theorem fpk_pks (wi : Nat) (L : List (List Nat)) (k : Nat) : ∀ f n, n ≤ k → 1 ≤ n → f + n ≤ L.length → fpk wi (pks wi L f n) = mth wi (blk L f n) := by
  induction k with
  | zero => intro f n h h1; omega
  | succ k ih =>
    intro f n h h1 hL
    by_cases ho : oc n = 1 ∨ n < 2
    · rw [pks, dif_pos ho, fpk]
    · have h3 := hf_lt n (by omega)
      have h4 := hf_pos n
      rw [pks_two (by omega) (by omega), fpk_cons (pks_ne _ _ _ _), ih _ _ (by omega) (by omega) (by omega), blk_halves L f n (by omega) hL]
theorem pks_wid (wi : Nat) (hw1 : 1 ≤ wi) (hw32 : wi ≤ 32) (L : List (List Nat)) (hL : ∀ p ∈ L, p.length = wi) (k : Nat) : ∀ f n, n ≤ k → ∀ p ∈ pks wi L f n, p.length = wi := by
  have hm : ∀ f n, (mth wi (blk L f n)).length = wi := fun f n => mth_wid wi hw1 hw32 _ (fun p hp => hL p (blk_mem _ _ _ p hp))
  induction k with
  | zero => intro f n h p hp; rw [pks, dif_pos (by omega)] at hp; simp at hp; subst hp; exact hm _ _
  | succ k ih =>
    intro f n h p hp
    by_cases ho : oc n = 1 ∨ n < 2
    · rw [pks, dif_pos ho] at hp; simp at hp; subst hp; exact hm _ _
    · have h3 := hf_lt n (by omega)
      have h4 := hf_pos n
      rw [pks_two (by omega) (by omega)] at hp
      rcases List.mem_cons.1 hp with rfl | hp
      · exact hm _ _
      · exact ih _ _ (by omega) p hp
theorem fpk_wid (wi : Nat) (hw1 : 1 ≤ wi) (hw32 : wi ≤ 32) : ∀ ps : List (List Nat), ps ≠ [] → (∀ p ∈ ps, p.length = wi) → (fpk wi ps).length = wi
  | [], h, _ => absurd rfl h
  | [a], _, h => by rw [fpk]; exact h a (by simp)
  | a :: b :: r, _, _ => by rw [fpk]; exact nd_len wi hw1 hw32 _ _
set_option maxRecDepth 100000 in
theorem width_any (j : Int) (w : World) : ∃ wi : Nat, 1 ≤ wi ∧ wi ≤ 32 ∧ Calls Tryd.prog 22 #[.int .i64 j] w fun e w' => e = .returned (.int .i64 (wi : Int)) ∧ w' = w := by
  by_cases h : 1 ≤ j ∧ j ≤ 32
  · obtain ⟨wi, rfl⟩ : ∃ k : Nat, j = (k : Int) := ⟨j.toNat, by omega⟩
    refine ⟨wi, by omega, by omega, ?_⟩
    have HJ := hide h
    clear h
    go_enter Tryd.func22, Tryd.ntmps22
    go_wp2_with fail
    refine (may_yes _ _ (unhide HJ).1 (unhide HJ).2).mono ?_
    rintro e w0 ⟨rfl, rfl⟩
    go_wp2_with fail
    go_ret
    exact ⟨rfl, rfl⟩
  · refine ⟨8, by decide, by decide, ?_⟩
    have HJ := hide (show j < 1 ∨ 32 < j by omega)
    clear h
    go_enter Tryd.func22, Tryd.ntmps22
    go_wp2_with fail
    refine (may_no _ _ (unhide HJ)).mono ?_
    rintro e w0 ⟨rfl, rfl⟩
    go_wp2_with fail
    go_ret
    exact ⟨rfl, rfl⟩
set_option maxRecDepth 100000 in
set_option maxHeartbeats 4000000 in
theorem peaksLaw_any (j : Int) (x : Value) (vs : List Value) (es : List (List Nat)) (w : World) (hg : GS w) (ht : GT w) (hp : Pcs w x vs es) (hB : ∀ e ∈ es, e.length ≤ 16000000) (hn : es.length ≤ 4000000) :
    Calls Tryd.prog 7 #[.int .i64 j, x] w fun e w' => e = .returned (.bool true) ∧ Fr (fun _ => False) w w' := by
  obtain ⟨wi, hw1, hw32, hwd⟩ := width_any j w
  obtain ⟨xo, xc, rfl⟩ := hp.form
  have hll : (es.map (lf (wi : Int))).length = es.length := List.length_map _
  have hsum : ∀ w', GS w' → Calls Tryd.prog 20 #[.int .i64 wi, .slice none 0 0] w' fun e w'' => ∃ yo, e = .returned (.slice yo wi wi) ∧ OB w' w'' yo wi (sm wi []) := fun w' hg => by
    have := sum_O (wi : Int) [] (.slice none 0 0) w' hg (.inl ⟨rfl, rfl⟩) (fun _ h => by cases h) (by simp) (fun _ _ _ e => by cases e; exact Nat.le_refl _) (fun _ _ _ _ e => by cases e)
    rw [sm_wid wi hw1 hw32] at this
    exact this
  have hro := fun w' (hf : Fr (fun _ => False) w w') => mroot_in wi hw1 hw32 _ vs es w' (hg.fr0 hf) (ht.fr0 hf) (hp.fr0 hf) hB (by omega)
  have htr : ∀ w' tb, Tk w' tb wi (es.map (lf wi)) → Calls Tryd.prog 32 #[.pointer (some ⟨tb, 0, none⟩), .int .i64 es.length] w' fun e w'' => ∃ yo yc, e = .returned (.tuple #[.slice yo wi yc, .int .i64 0]) ∧ OB w' w'' yo yc (mth wi (es.map (lf wi))) := fun w' tb hT => by
    have := troot_in tb wi hw1 hw32 _ es.length w' hT (by omega)
    rw [← hll, blk_all] at this
    rw [hll] at this
    exact this
  have hmb : ∀ v ∈ mth wi (es.map (lf (wi : Int))), v < 256 := mth_lt _ _ _ (Nat.le_refl _) (fun p hp => by obtain ⟨e, _, rfl⟩ := List.mem_map.1 hp; exact lf_lt _ _)
  have hmw : (mth wi (es.map (lf (wi : Int)))).length = wi := mth_wid wi hw1 hw32 _ (map_lf_len wi hw1 hw32 es)
  have HW := hide (And.intro hw1 hw32)
  have HG := hide (And.intro hg (And.intro ht (And.intro hp (And.intro hB hn))))
  have HC := hide (And.intro hsum (And.intro hro (And.intro htr (And.intro hmb hmw))))
  have HX := hide hwd
  clear hsum hro htr hmb hg ht hp hB hn hwd hmw
  generalize hN : es.length = N at *
  go_enter Tryd.func7, Tryd.ntmps7
  go_wp2_with fail
  refine (unhide HX).mono ?_
  rintro e w0 ⟨rfl, rfl⟩
  clear HX
  obtain ⟨TB, hTB⟩ : ∃ TB, w0.heap.size = TB := ⟨_, rfl⟩
  have HTB := hide hTB
  go_wp2_with fail
  refine (mnew_any wi w0).mono ?_
  rintro e w1 ⟨rfl, hT1, hF1⟩
  rw [hTB] at hT1 ⊢
  have H1 := hide (And.intro hT1 hF1)
  clear hT1 hF1 hTB
  go_wp2_with fail
  refine (mlives_any w1 ((unhide HG).1.fr0 (unhide H1).2) ((unhide HG).2.1.fr0 (unhide H1).2)).mono ?_
  rintro e w2 ⟨rfl, hF⟩
  have hT2 := (unhide H1).1.fr hF (fun _ _ h => h)
  have H2 := hide (And.intro hT2 ((unhide H1).2.trans hF (fun _ _ h => h)))
  clear hF hT2 H1
  go_wp2_with fail
  go_loopw [6] (fun iv wr => ∃ (k : Nat) (xo : Option Addr) (cp : Nat) (us : List Value) (rs : List (List Nat)), k ≤ N ∧ iv = .int .i64 (k : Nat) ∧ TrAt wr TB TB wi k xo cp us rs ∧ RowsOf wi ((es.take k).map (lf wi)) 0 rs ∧ Fr (fun _ => False) w0 wr) (fun iv _ => N - (intOf iv).toNat)
  case atStart => exact ⟨0, none, 0, [], [], Nat.zero_le _, rfl, (unhide H2).1, rows_nil wi, (unhide H2).2⟩
  case round =>
    obtain ⟨k, ro, cp, us, rs, hk, rfl, hT, hR, hF⟩ := hrel
    have hN8 := (unhide HG).2.2.2.2
    obtain ⟨hw1, hw32⟩ := unhide HW
    by_cases hlt : k < N
    · have hlt' : (k : Int) < (N : Int) := by omega
      have hke : k < es.length := by omega
      obtain ⟨g, o, v, rfl, hcell, hsrc, hcap, hltv, hgl⟩ := (unhide HG).2.2.1.cell hF k hke
      have hsl : Sl wr v es[k] := ⟨hsrc, hcap, hltv.imp id (fun hh g o n c e => Nat.lt_of_lt_of_le (hh g o n c e) hF.size), (unhide HG).2.2.1.byt es[k] (List.getElem_mem hke)⟩
      have hLk : ((es.take k).map (lf wi)).length = k := by rw [List.length_map, List.length_take]; omega
      obtain ⟨hs1, hs2⟩ := hR.small hw1 hw32 (map_lf_len wi hw1 hw32 _) (by omega)
      have hbase : 6 ≤ TB := by rw [← unhide HTB]; exact (unhide HG).1.1.2
      have hadd := add_in wi hw1 hw32 TB TB k hbase wr ro cp us rs v es[k] hT ((unhide HG).1.fr0 hF) hsl ((unhide HG).2.2.2.1 es[k] (List.getElem_mem hke)) hs1 hs2 (by omega)
      have htk : (es.take (k + 1)).map (lf wi) = (es.take k).map (lf wi) ++ [lf wi es[k]] := by
        rw [List.take_add_one, List.getElem?_eq_getElem hke, Option.toList_some, List.map_append]; rfl
      have hR2 := hR.add hw1 hw32 (lf wi es[k]) (by rw [← htk]; exact map_lf_len wi hw1 hw32 _)
      rw [← htk] at hR2
      have hown : ∀ k, TOwn TB ro us k → TB ≤ k := fun j hj => (hT.lt j hj).1
      obtain ⟨vo, vc, rfl⟩ := hsl.form
      have HI := hide (And.intro hadd (And.intro hR2 (And.intro hF hown)))
      clear hadd hR2 hF hsl hsrc hcap hltv hT hR hs1 hs2 htk hLk hbase hown hw1 hw32
      generalize es[k].length = EL at *
      go_wp2_with fail
      refine (unhide HI).1.mono ?_
      rintro e w3 ⟨rfl, xo', cp', vs', hT2, hF2, hO2⟩
      have hF3 : Fr (fun _ => False) w0 w3 := (unhide HI).2.2.1.trans hF2 (fun j hj hO => by have h1 := (unhide HI).2.2.2 j hO; have h2 := unhide HTB; omega)
      have H3 := hide (And.intro hT2 hF3)
      clear hT2 hF2 hO2 hF3
      go_wp2_with fail
      exact ⟨⟨k + 1, xo', cp', vs', _, by omega, by go_num, (unhide H3).1, (unhide HI).2.1, (unhide H3).2⟩, by simp [intOf]; omega⟩
    · have hkN : k = N := by omega
      have hlt' : ¬ (k : Int) < (N : Int) := by omega
      have htk : es.take k = es := List.take_of_length_le (by omega)
      rw [htk] at hR
      subst hkN
      rw [← hN] at hT
      have hTk : Tk wr TB wi (es.map (lf wi)) := tk_of hw1 hw32 hT hR (unhide HG).1 (unhide HG).2.1 hF (by omega)
      rw [hN] at hT
      by_cases h0 : k = 0
      · have hes : es = [] := List.length_eq_zero_iff.1 (by omega)
        have hpk := tpeaks_no TB k wi wr hT.cells.1 hT.cells.2.1 (.inr h0)
        have hmt : mth wi (es.map (lf (wi : Int))) = sm wi [] := by rw [hes]; exact mth_nil _
        have hrt := (unhide HC).2.2.1 wr TB hTk
        have hmb := (unhide HC).2.2.2.1
        have hmw := (unhide HC).2.2.2.2
        have hsu := (unhide HC).1
        rw [hmt] at hrt hmb hmw
        subst h0
        have e0 : ((0 : Nat) : Int) = 0 := rfl
        simp only [e0] at hrt
        generalize sm (wi : Int) [] = M at *
        have HK := hide (And.intro hpk (And.intro hrt (And.intro hF (And.intro hsu (And.intro hmb hmw)))))
        clear hpk hTk hT hR hF htk hw1 hw32 hes hmt hrt hsu hmb e0 hmw hlt hlt' hk
        go_wp2_with fail
        refine (unhide HK).1.mono ?_
        rintro e w3 ⟨rfl, rfl⟩
        go_wp2_with fail
        refine (unhide HK).2.1.mono ?_
        rintro e w4 ⟨yo, yc, rfl, hO⟩
        have H3 := hide (And.intro (hO.sl (unhide HK).2.2.2.2.1) ((unhide HK).2.2.1.trans hO.fr (fun _ _ h => h)))
        clear hO
        go_wp2_with fail
        refine ((unhide HK).2.2.2.1 w4 ((unhide HG).1.fr0 (unhide H3).2)).mono ?_
        rintro e w5 ⟨zo, rfl, hO⟩
        have H4 := hide (And.intro (hO.sl (unhide HK).2.2.2.2.1) (And.intro ((unhide H3).1.fr0 hO.fr) ((unhide H3).2.trans hO.fr (fun _ _ h => h))))
        clear hO
        go_wp2_with fail
        have hs1 := (unhide H4).2.1
        have hs2 := (unhide H4).1
        rw [(unhide HK).2.2.2.2.2] at hs1 hs2
        have HS := hide (And.intro hs1 hs2)
        clear hs1 hs2
        refine (same_T (unhide HS).1.s (unhide HS).2.s (by rw [(unhide HK).2.2.2.2.2]; have := (unhide HW).2; omega) (sameB_refl _)).mono ?_
        rintro e w6 ⟨rfl, hF⟩
        have H5 := hide ((unhide H4).2.2.trans hF (fun _ _ h => h))
        clear hF
        go_wp2_with fail
        go_ret
        exact ⟨rfl, unhide H5⟩
      · have hpk := tpeaks_in TB wi hw1 hw32 _ wr hTk (by rw [hll]; omega)
        have hfp := fpk_pks wi (es.map (lf wi)) _ 0 (es.map (lf wi)).length (Nat.le_refl _) (by rw [hll]; omega) (by omega)
        rw [blk_all] at hfp
        have hpw := pks_wid wi hw1 hw32 (es.map (lf wi)) (map_lf_len wi hw1 hw32 es) _ 0 (es.map (lf wi)).length (Nat.le_refl _)
        have hpl := pks_le wi (es.map (lf wi)) _ 0 (es.map (lf wi)).length (Nat.le_refl _)
        have hpn := pks_ne wi (es.map (lf wi)) 0 (es.map (lf wi)).length
        have hrt := (unhide HC).2.2.1
        have hro := (unhide HC).2.1
        have hmb := (unhide HC).2.2.2.1
        have hmw := (unhide HC).2.2.2.2
        generalize pks wi (es.map (lf wi)) 0 (es.map (lf wi)).length = PS at *
        rw [hll] at hpl
        generalize mth wi (es.map (lf (wi : Int))) = M at *
        obtain ⟨Q, hQ⟩ : ∃ Q, PS.length = Q + 1 := ⟨PS.length - 1, by have := List.length_pos_iff.2 hpn; omega⟩
        have q1 : ((k : Int) == 0) = false := beq_false_of_ne (by omega)
        have q2 : ¬ es = [] := fun h => h0 (by rw [h] at hN; exact hN.symm)
        have HK := hide (And.intro hpk (And.intro hrt (And.intro hF (And.intro hro (And.intro hmb (And.intro hmw (And.intro hfp (And.intro hpw (And.intro hpl (And.intro hQ hTk))))))))))
        clear hpk hTk hT hR hF htk hw1 hw32 hrt hro hmb hmw hfp hpw hpl hpn hQ hlt hk
        go_wp2_with fail
        refine (unhide HK).1.mono ?_
        rintro e w3 ⟨po, pc, ps, rfl, hO⟩
        have hpsl : ps.length = Q + 1 := hO.len.trans (unhide HK).2.2.2.2.2.2.2.2.2.1
        have hpp := hO.pcs
        rw [hpsl] at hpp ⊢
        have hTk3 := (unhide HK).2.2.2.2.2.2.2.2.2.2.fr0 hO.own.fr
        have H3 := hide (And.intro hpp (And.intro ((unhide HK).2.2.1.trans hO.own.fr (fun _ _ h => h)) hTk3))
        clear hO hpp hpsl hTk3
        go_wp2_with fail
        refine ((unhide HK).2.1 w3 TB (unhide H3).2.2).mono ?_
        rintro e w4 ⟨yo, yc, rfl, hO⟩
        have hsr := hO.sl (unhide HK).2.2.2.2.1
        rw [(unhide HK).2.2.2.2.2.1] at hsr
        have H4 := hide (And.intro hsr (And.intro ((unhide H3).1.fr0 hO.fr) ((unhide H3).2.1.trans hO.fr (fun _ _ h => h))))
        clear hO hsr
        have hQ := (unhide HK).2.2.2.2.2.2.2.2.2.1
        have hQl := (unhide HK).2.2.2.2.2.2.2.2.1
        obtain ⟨g, o, vo, vc, rfl, hcq, hsq⟩ := (unhide H4).2.1.nth (Fr.refl _ _) Q (by omega)
        have hwq : PS[Q].length = wi := (unhide HK).2.2.2.2.2.2.2.1 _ (List.getElem_mem _)
        rw [hwq] at hcq hsq
        have hdq : fpk wi (PS.drop Q) = PS[Q] := by
          rw [List.drop_eq_getElem_cons (by omega), List.drop_of_length_le (by omega), fpk]
        rw [← hdq] at hsq
        have HQ := hide hsq
        clear hsq hdq hwq
        have w1' : IntKind.i64.wrap ((Q : Int) + 1 - 1) = (Q : Int) := by rw [IntKind.wrap_i64]; omega
        have w2' : IntKind.i64.wrap ((Q : Int) + 1 - 2) = (Q : Int) - 1 := by rw [IntKind.wrap_i64]; omega
        have q3 : (Q : Int) < (Q : Int) + 1 := by omega
        have q4 : (((Q : Int) + 1) == 0) = false := beq_false_of_ne (by omega)
        have q5 : ¬ (Q : Int) + 1 = 0 := by omega
        go_wp2_with fail
        go_loopw [10, 11] (fun hv iv wq => ∃ (m : Nat) (ho : Option Addr) (hc : Nat) (z : Int), m ≤ Q ∧ iv = .int .i64 z ∧ z = (m : Int) - 1 ∧ hv = .slice ho wi hc ∧ Sl wq (.slice ho wi hc) (fpk wi (PS.drop m)) ∧ Fr (fun _ => False) w4 wq) (fun _ iv _ => ((intOf iv) + 1).toNat)
        case atStart => exact ⟨Q, vo, vc, _, Nat.le_refl _, rfl, rfl, rfl, unhide HQ, Fr.refl _ _⟩
        case round =>
          obtain ⟨m, ho, hc, z, hm, rfl, hz, rfl, hS, hF⟩ := hrel
          rcases m with _ | m
          · obtain rfl : z = -1 := by omega
            clear hm
            rw [List.drop_zero, (unhide HK).2.2.2.2.2.2.1] at hS
            have HS := hide (And.intro hS (And.intro ((unhide H4).1.fr0 hF) ((unhide H4).2.2.trans hF (fun _ _ h => h))))
            clear hS hF hz hcq
            go_wp2_with fail
            refine (same_T (unhide HS).1.s (unhide HS).2.1.s (by rw [(unhide HK).2.2.2.2.2.1]; have := (unhide HW).2; omega) (sameB_refl _)).mono ?_
            rintro e w7 ⟨rfl, hF⟩
            have H5 := hide (And.intro ((unhide HS).2.1.fr0 hF) ((unhide HS).2.2.trans hF (fun _ _ h => h)))
            clear hF
            go_wp2_with fail
            refine ((unhide HK).2.2.2.1 w7 (unhide H5).2).mono ?_
            rintro e w8 ⟨to, tc, rfl, hO⟩
            have hst := hO.sl (unhide HK).2.2.2.2.1
            rw [(unhide HK).2.2.2.2.2.1] at hst
            have H6 := hide (And.intro hst (And.intro ((unhide H5).1.fr0 hO.fr) ((unhide H5).2.trans hO.fr (fun _ _ h => h))))
            clear hst hO
            go_wp2_with fail
            refine (same_T (unhide H6).2.1.s (unhide H6).1.s (by rw [(unhide HK).2.2.2.2.2.1]; have := (unhide HW).2; omega) (sameB_refl _)).mono ?_
            rintro e w9 ⟨rfl, hF⟩
            have H7 := hide ((unhide H6).2.2.trans hF (fun _ _ h => h))
            clear hF
            go_wp2_with fail
            go_ret
            exact ⟨rfl, unhide H7⟩
          · obtain rfl : z = (m : Int) := by omega
            have hmP : m < PS.length := by omega
            obtain ⟨g', o', uo, uc, eg, hcm, hsm⟩ := (unhide H4).2.1.nth hF m hmP
            cases eg
            have hwm : PS[m].length = wi := (unhide HK).2.2.2.2.2.2.2.1 _ (List.getElem_mem _)
            rw [hwm] at hcm hsm
            have hdm : fpk wi (PS.drop m) = nd wi PS[m] (fpk wi (PS.drop (m + 1))) := by
              rw [List.drop_eq_getElem_cons hmP, fpk_cons]
              intro h
              have := congrArg List.length h
              rw [List.length_drop] at this
              simp at this
              omega
            have hfw : (fpk wi (PS.drop (m + 1))).length = wi := fpk_wid wi (unhide HW).1 (unhide HW).2 _ (fun h => by
              have := congrArg List.length h
              rw [List.length_drop] at this
              simp at this
              omega) (fun p hp => (unhide HK).2.2.2.2.2.2.2.1 p (List.mem_of_mem_drop hp))
            have hW32 := (unhide HW).2
            have hnode := node_any (wi : Int) (.slice uo wi uc) (.slice ho wi hc) PS[m] (fpk wi (PS.drop (m + 1))) _ ((unhide HG).1.fr0 ((unhide H4).2.2.trans hF (fun _ _ h => h))) hsm hS (by omega) (by omega)
            have hnl : (nd wi PS[m] (fpk wi (PS.drop (m + 1)))).length = wi := nd_len wi (unhide HW).1 (unhide HW).2 _ _
            have hnb := nd_lt (wi : Int) PS[m] (fpk wi (PS.drop (m + 1)))
            rw [hnl] at hnode
            rw [← hdm] at hnode hnb hnl
            have HN := hide (And.intro hnode (And.intro hF (And.intro hnb hnl)))
            have w3' : IntKind.i64.wrap ((m : Int) - 1) = (m : Int) - 1 := by rw [IntKind.wrap_i64]; omega
            have q6 : (m : Int) < (Q : Int) + 1 := by omega
            have q7 : (0 : Int) ≤ (m : Int) := by omega
            clear hnode hF hS hsm hdm hfw hnb hnl hwm hz hcq
            go_wp2_with fail
            refine (unhide HN).1.mono ?_
            rintro e w7 ⟨no, rfl, hO⟩
            have hsn := hO.sl (unhide HN).2.2.1
            rw [(unhide HN).2.2.2] at hsn
            have H5 := hide (And.intro hsn ((unhide HN).2.1.trans hO.fr (fun _ _ h => h)))
            clear hO hsn
            go_wp2_with fail
            exact ⟨⟨m, no, wi, _, by omega, rfl, by first | rfl | omega, rfl, (unhide H5).1, (unhide H5).2⟩, by simp [intOf] <;> omega⟩
end Go.Proofs.YtocdnomfpgdglabDoor

namespace Go.Proofs.YtocdnomfpgdglabDoor
open Go.RowKit

theorem Pcs.ss {w : World} {x : Value} {vs : List Value} {ps : List (List Nat)} (h : Pcs w x vs ps) : SS w x vs := by
  refine ⟨?_, fun u hu => ?_⟩
  · rcases h.at_ with h | h | ⟨g, o, c, e, _, hc⟩
    · exact .inl h
    · exact .inr (.inl h)
    · exact .inr (.inr ⟨g, o, c, e, hc⟩)
  · obtain ⟨j, hj, rfl⟩ := List.getElem_of_mem hu
    have hj2 : j < ps.length := by rw [← h.len]; exact hj
    obtain ⟨xo, xc, e⟩ := (h.sl j vs[j] ps[j] (List.getElem?_eq_getElem hj) (List.getElem?_eq_getElem hj2)).form
    exact ⟨_, _, _, e⟩
/-- append(append([][]byte{}, p...), r). -/
theorem app_more {w : World} {po : Option Addr} {N pc : Nat} {vs : List Value} {ps : List (List Nat)} {ro : Option Addr} {wi rc : Nat} {r : List Nat} (hp : Pcs w (.slice po N pc) vs ps) (hN : ps.length = N) (hn : N ≤ 8000000) (hr : Sl w (.slice ro wi rc) r) :
    ∃ ao cp w2, (Builtin.append_ #[22, 22] 22 #[.slice (some ⟨w.heap.size, 0, none⟩) 0 0, .slice po N pc]).run Tryd.prog (w.alloc (.cells #[] 23)) = .ok (.slice ao N cp) w2 ∧
      ∃ bo bc w3, (Builtin.append_ #[22, 22] 22 #[.slice ao N cp, .slice (some ⟨w2.heap.size, 0, none⟩) 1 1]).run Tryd.prog (w2.alloc (.cells #[.slice ro wi rc] 23)) = .ok (.slice bo (N + 1) bc) w3 ∧
        Pcs w3 (.slice bo (N + 1) bc) (vs ++ [.slice ro wi rc]) (ps ++ [r]) ∧ Cp (.slice bo (N + 1) bc) ∧ Fr (fun _ => False) w w3 := by
  obtain ⟨WA, hWA⟩ : ∃ WA, w.alloc (.cells #[] 23) = WA := ⟨_, rfl⟩
  have hFA : Fr (fun _ => False) w WA := by rw [← hWA]; exact (Fr.refl _ _).alloc _
  have hown : WA.ownsRow w.heap.size 23 1 (.slice (some ⟨w.heap.size, 0, none⟩) 0 0) 0 [] := by
    have := World.ownsRow_lit (e := 23) (size := 1) w #[] 0 (Nat.le_refl _) (by simp only [maxLen]; omega) rfl
    rw [hWA] at this
    exact this
  have hvl : vs.length = N := by rw [hp.len, hN]
  obtain ⟨ao, cp, w2, hr2, ho2, hg2, -⟩ := run_app_ss WA w.heap.size 0 _ _ [] vs hown (hp.fr0 hFA).ss (by omega) hFA.size
  rw [Nat.zero_add, hvl] at hr2 ho2
  rw [List.nil_append] at ho2
  have hF2 : Fr (fun _ => False) w w2 := hFA.grown hg2 (fun g hg => .inr (hown.lt g hg).1)
  have hOS : OS w w2 ao cp vs := ⟨by rw [hvl]; exact ho2, hF2⟩
  obtain ⟨bo, bc, w3, hr3, hO3, hg3, -⟩ := hOS.app1 ro wi rc (by omega)
  rw [hvl] at hr3
  have hF3 := hO3.fr
  have hpc := hO3.pcs (ps := ps ++ [r]) (by rw [List.length_append, List.length_append, hp.len]; rfl) (fun j v p hv hp' => by
    by_cases hj : j < vs.length
    · rw [List.getElem?_append_left hj] at hv
      rw [List.getElem?_append_left (by rw [← hp.len]; exact hj)] at hp'
      exact (hp.sl j v p hv hp').fr0 hF3
    · have hje : j = vs.length := by
        have := (List.getElem?_eq_some_iff.1 hv).1
        rw [List.length_append, List.length_singleton] at this
        omega
      subst hje
      rw [List.getElem?_append_right (Nat.le_refl _), Nat.sub_self] at hv
      rw [List.getElem?_append_right (by rw [hp.len]; exact Nat.le_refl _), hp.len, Nat.sub_self] at hp'
      simp at hv hp'
      subst hv hp'
      exact hr.fr0 hF3)
  have e : (vs ++ [Value.slice ro wi rc]).length = N + 1 := by rw [List.length_append, hvl]; rfl
  rw [e] at hpc
  refine ⟨ao, cp, w2, by rw [hWA]; exact hr2, bo, bc, w3, hr3, hpc, ?_, hF3⟩
  have := hO3.own
  rw [e] at this
  rcases this.2 with ⟨h, _⟩ | ⟨g, cap, cur, h, _, _, h3, _⟩
  · cases h
  · cases h
    exact fun _ _ _ e => by cases e; exact h3
/-- The hashes for one place are as many as its path has. -/
theorem mny_dep (wi : Nat) (L : List (List Nat)) (m : Nat) : ∀ f n i, n ≤ m → f ≤ i → i < f + n → (mny wi L f n [(i : Int)]).length = dep f n i 1 := by
  induction m with
  | zero => intro f n i h h1 h2; omega
  | succ m ih =>
    intro f n i h h1 h2
    by_cases hn : n < 2
    · have : n = 1 := by omega
      subst this
      have : f = i := by omega
      subst this
      rw [mny_one (by simp) (by decide), dep_eq]; rfl
    · have h3 := hf_lt n (by omega)
      have h4 := hf_pos n
      rw [mny_two (by simp) (by omega), List.length_append]
      by_cases hi : i < f + hf n
      · have hc : ([(i : Int)].countP (· < ((f + hf n : Nat) : Int))) = 1 := by
          rw [List.countP_cons_of_pos (by simp; omega)]; rfl
        rw [hc, dep_l (by omega) (by omega) hi]
        show (mny wi L f (hf n) [(i : Int)]).length + (mny wi L (f + hf n) (n - hf n) []).length = _
        rw [ih f (hf n) i (by omega) h1 hi, mny_nil]; rfl
      · have hc : ([(i : Int)].countP (· < ((f + hf n : Nat) : Int))) = 0 := by
          rw [List.countP_cons_of_neg (by simp; omega)]; rfl
        rw [hc, dep_r (by omega) (by omega) hi]
        show (mny wi L f (hf n) []).length + (mny wi L (f + hf n) (n - hf n) [(i : Int)]).length = _
        rw [ih (f + hf n) (n - hf n) i (by omega) (by omega) (by omega), mny_nil]
        simp
        omega
/-- Hashes for places that the tree tells are taken. -/
theorem chkM_mny (wi : Nat) (hw1 : 1 ≤ wi) (hw32 : wi ≤ 32) (L : List (List Nat)) (hL : ∀ p ∈ L, p.length = wi) (zs : List Int) (hz : rsF L.length 0 zs = true) : chkM wi L.length (zs.map fun z => L.getD z.toNat []) zs (mny wi L 0 L.length zs) (mth wi L) = true := by
  obtain ⟨s1, s2⟩ := rsF_ok L.length zs 0 hz
  have hrt := mth_wid wi hw1 hw32 L hL
  have hlw : ∀ p ∈ zs.map (fun z => L.getD z.toNat []), (p.length : Int) = wi := fun p hp => by
    obtain ⟨z, hz1, rfl⟩ := List.mem_map.1 hp
    have := s2 z hz1
    have hzl : z.toNat < L.length := by omega
    rw [List.getD, List.getElem?_eq_getElem hzl, Option.getD_some, hL _ (List.getElem_mem _)]
  rw [chkM_true (by omega) (by omega) (by omega) hz (List.length_map _) (by omega) (wdq_of hlw) (wdq_of fun p hp => by have := mny_wid wi hw1 hw32 L hL _ 0 L.length zs (Nat.le_refl _) p hp; omega)]
  have := gth_mny wi L L.length 0 L.length zs [] (Nat.le_refl _) (by omega) s1 (fun z hz => by have := s2 z hz; omega)
  rw [List.append_nil, blk_all] at this
  simp only [Int.toNat_natCast]
  rw [this, gEnd]
  simp
/-- With one more they are not. -/
theorem chkM_more (wi : Nat) (L : List (List Nat)) (zs : List Int) (hz : rsF L.length 0 zs = true) (root x : List Nat) : chkM wi L.length (zs.map fun z => L.getD z.toNat []) zs (mny wi L 0 L.length zs ++ [x]) root = false := by
  obtain ⟨s1, s2⟩ := rsF_ok L.length zs 0 hz
  have := gth_mny wi L L.length 0 L.length zs [x] (Nat.le_refl _) (by omega) s1 (fun z hz => by have := s2 z hz; omega)
  have hg : gEnd (some (mth (wi : Int) (blk L 0 L.length), [x])) root = false := rfl
  rw [chkM]
  simp only [Int.toNat_natCast]
  rw [this, hg]
  simp
end Go.Proofs.YtocdnomfpgdglabDoor

namespace Go.Proofs.YtocdnomfpgdglabDoor
open Go.RowKit

set_option maxRecDepth 100000 in
set_option maxHeartbeats 2000000 in
/-- CheckProof, from nothing on. -/
theorem cpr_zero (wi : Nat) (hw1 : 1 ≤ wi) (hw32 : wi ≤ 32) (N : Nat) (oo : Option Addr) (oc : Nat) (rr : Option Addr) (rc : Nat) (xo : Option Addr) (xc : Nat) (old root : List Nat) (ps : List (List Nat)) (w : World) (hg : GS w) (ho : Sl w (.slice oo old.length oc) old) (hr : Sl w (.slice rr root.length rc) root)
    (W1 : World) (hW1 : w.alloc (.cells #[.slice oo old.length oc, .slice rr root.length rc] 23) = W1) (hF1 : Fr (fun _ => False) w W1)
    (hwd1 : Calls Tryd.prog 53 #[.int .i64 wi, .slice (some ⟨w.heap.size, 0, none⟩) 2 2] W1 fun e w' => e = .returned (.bool true) ∧ w' = W1)
    (hwd2 : Calls Tryd.prog 53 #[.int .i64 wi, .slice xo ps.length xc] W1 fun e w' => e = .returned (.bool true) ∧ w' = W1) :
    Calls Tryd.prog 21 #[.int .i64 wi, .int .i64 0, .int .i64 N, .slice oo old.length oc, .slice rr root.length rc, .slice xo ps.length xc] w fun e w' => e = .returned (.bool (decide (ps = []) && (decide (old = sm wi []) && (decide (0 < (N : Int)) || decide (root = sm wi []))))) ∧ Fr (fun _ => False) w w' := by
  have hsum : ∀ w', GS w' → Calls Tryd.prog 20 #[.int .i64 wi, .slice none 0 0] w' fun e w'' => ∃ yo, e = .returned (.slice yo wi wi) ∧ Sl w'' (.slice yo wi wi) (sm wi []) ∧ Fr (fun _ => False) w' w'' := fun w' hg => by
    have := sum_O (wi : Int) [] (.slice none 0 0) w' hg (.inl ⟨rfl, rfl⟩) (fun _ h => by cases h) (by simp) (fun _ _ _ e => by cases e; exact Nat.le_refl _) (fun _ _ _ _ e => by cases e)
    have hl := sm_wid wi hw1 hw32 []
    refine this.mono ?_
    rintro e w'' ⟨yo, rfl, hO⟩
    have hs := hO.sl (sm_lt _ _)
    rw [hl] at hs ⊢
    exact ⟨yo, rfl, hs, hO.fr⟩
  have HM := hide (show 1 ≤ (wi : Int) ∧ (wi : Int) ≤ 32 by omega)
  have HC := hide (And.intro hwd1 (And.intro hwd2 (And.intro hF1 (And.intro (hg.fr0 hF1) (And.intro (ho.fr0 hF1) (And.intro (hr.fr0 hF1) hsum))))))
  have q0 : ¬ (N : Int) < 0 := by omega
  clear hwd1 hwd2 hF1 hg ho hr hsum hw1 hw32
  generalize sm (wi : Int) [] = SM at *
  by_cases hps : ps = []
  · subst hps
    simp only [List.length_nil, decide_true, Bool.true_and] at HC ⊢
    obtain ⟨B1, hB1⟩ : ∃ B1, decide (old = SM) = B1 := ⟨_, rfl⟩
    obtain ⟨B2, hB2⟩ : ∃ B2, decide (root = SM) = B2 := ⟨_, rfl⟩
    rw [hB1, hB2]
    have HB := hide (And.intro hB1 hB2)
    clear hB1 hB2
    generalize old.length = OL at *
    generalize root.length = RL at *
    cases B1 with
    | false =>
      rw [Bool.false_and]
      go_enter Tryd.func21, Tryd.ntmps21
      go_wp2_with (go_at_call 52; refine (maybe_any wi _).mono ?_; rintro e' w' ⟨rfl, hw'⟩; rw [hw', decide_eq_true (unhide HM)])
      refine (unhide HC).1.mono ?_
      rintro e' w2 ⟨rfl, rfl⟩
      go_wp2_with fail
      refine (unhide HC).2.1.mono ?_
      rintro e' w3 ⟨rfl, rfl⟩
      go_wp2_with fail
      refine ((unhide HC).2.2.2.2.2.2 _ (unhide HC).2.2.2.1).mono ?_
      rintro e' w4 ⟨zo, rfl, hS, hF⟩
      have HS := hide (And.intro hS (And.intro ((unhide HC).2.2.1.trans hF (fun _ _ h => h)) (And.intro ((unhide HC).2.2.2.2.1.fr0 hF) ((unhide HC).2.2.2.2.2.1.fr0 hF))))
      clear hS hF
      go_wp2_with fail
      refine (beq_sl _ _ _ _ _ (unhide HS).2.2.1 (unhide HS).1).mono ?_
      rintro e' w5 ⟨rfl, rfl⟩
      rw [(unhide HB).1]
      go_wp2_with fail
      go_ret
      exact ⟨rfl, (unhide HS).2.1⟩
    | true =>
      rw [Bool.true_and]
      by_cases hN : 0 < N
      · have q1 : (0 : Int) < (N : Int) := by omega
        rw [decide_eq_true q1, Bool.true_or]
        go_enter Tryd.func21, Tryd.ntmps21
        go_wp2_with (go_at_call 52; refine (maybe_any wi _).mono ?_; rintro e' w' ⟨rfl, hw'⟩; rw [hw', decide_eq_true (unhide HM)])
        refine (unhide HC).1.mono ?_
        rintro e' w2 ⟨rfl, rfl⟩
        go_wp2_with fail
        refine (unhide HC).2.1.mono ?_
        rintro e' w3 ⟨rfl, rfl⟩
        go_wp2_with fail
        refine ((unhide HC).2.2.2.2.2.2 _ (unhide HC).2.2.2.1).mono ?_
        rintro e' w4 ⟨zo, rfl, hS, hF⟩
        have HS := hide (And.intro hS (And.intro ((unhide HC).2.2.1.trans hF (fun _ _ h => h)) (And.intro ((unhide HC).2.2.2.2.1.fr0 hF) ((unhide HC).2.2.2.2.2.1.fr0 hF))))
        clear hS hF
        go_wp2_with fail
        refine (beq_sl _ _ _ _ _ (unhide HS).2.2.1 (unhide HS).1).mono ?_
        rintro e' w5 ⟨rfl, rfl⟩
        rw [(unhide HB).1]
        go_wp2_with fail
        go_ret
        exact ⟨rfl, (unhide HS).2.1⟩
      · have hN0 : N = 0 := by omega
        subst hN0
        have e0 : decide (0 < ((0 : Nat) : Int)) = false := rfl
        rw [e0, Bool.false_or]
        clear e0 q0 hN
        go_enter Tryd.func21, Tryd.ntmps21
        go_wp2_with (go_at_call 52; refine (maybe_any wi _).mono ?_; rintro e' w' ⟨rfl, hw'⟩; rw [hw', decide_eq_true (unhide HM)])
        refine (unhide HC).1.mono ?_
        rintro e' w2 ⟨rfl, rfl⟩
        go_wp2_with fail
        refine (unhide HC).2.1.mono ?_
        rintro e' w3 ⟨rfl, rfl⟩
        go_wp2_with fail
        refine ((unhide HC).2.2.2.2.2.2 _ (unhide HC).2.2.2.1).mono ?_
        rintro e' w4 ⟨zo, rfl, hS, hF⟩
        have HS := hide (And.intro hS (And.intro ((unhide HC).2.2.1.trans hF (fun _ _ h => h)) (And.intro ((unhide HC).2.2.2.2.1.fr0 hF) ((unhide HC).2.2.2.2.2.1.fr0 hF))))
        clear hS hF
        go_wp2_with fail
        refine (beq_sl _ _ _ _ _ (unhide HS).2.2.1 (unhide HS).1).mono ?_
        rintro e' w5 ⟨rfl, rfl⟩
        rw [(unhide HB).1]
        go_wp2_with fail
        refine (beq_sl _ _ _ _ _ (unhide HS).2.2.2 (unhide HS).1).mono ?_
        rintro e' w6 ⟨rfl, rfl⟩
        rw [(unhide HB).2]
        go_wp2_with fail
        go_ret
        exact ⟨rfl, (unhide HS).2.1⟩
  · rw [decide_eq_false hps, Bool.false_and]
    have hl : ¬ ps.length = 0 := fun h => hps (List.length_eq_zero_iff.1 h)
    have q1 : ((ps.length : Int) == 0) = false := beq_false_of_ne (by omega)
    generalize ps.length = PL at *
    generalize old.length = OL at *
    generalize root.length = RL at *
    go_enter Tryd.func21, Tryd.ntmps21
    go_wp2_with (go_at_call 52; refine (maybe_any wi _).mono ?_; rintro e' w' ⟨rfl, hw'⟩; rw [hw', decide_eq_true (unhide HM)])
    refine (unhide HC).1.mono ?_
    rintro e' w2 ⟨rfl, rfl⟩
    go_wp2_with fail
    refine (unhide HC).2.1.mono ?_
    rintro e' w3 ⟨rfl, rfl⟩
    go_wp2_with fail
    refine ((unhide HC).2.2.2.2.2.2 _ (unhide HC).2.2.2.1).mono ?_
    rintro e' w4 ⟨zo, rfl, hS, hF⟩
    have HS := hide ((unhide HC).2.2.1.trans hF (fun _ _ h => h))
    clear hS hF
    go_wp2_with fail
    go_ret
    exact ⟨rfl, unhide HS⟩
end Go.Proofs.YtocdnomfpgdglabDoor

namespace Go.Proofs.YtocdnomfpgdglabDoor
open Go.RowKit

set_option maxRecDepth 100000 in
set_option maxHeartbeats 4000000 in
/-- CheckProof, of a claim. -/
theorem cpr_yes (wi m N tf tn : Nat) (hw : 1 ≤ wi ∧ wi ≤ 32) (hm0 : 0 < m) (hmN : m ≤ N) (oo : Option Addr) (on oc : Nat) (rr : Option Addr) (rl rrc : Nat) (xo : Option Addr) (xn xc : Nat) (ro : Option Addr) (rn rc : Nat) (yo : Option Addr) (yn yc D : Nat) (old root OV TV : List Nat) (w W1 : World) (hW1 : w.alloc (.cells #[.slice oo on oc, .slice rr rl rrc] 23) = W1) (hF1 : Fr (fun _ => False) w W1)
    (ho : Sl w (.slice oo on oc) old) (hr : Sl w (.slice rr rl rrc) root)
    (hwd1 : Calls Tryd.prog 53 #[.int .i64 wi, .slice (some ⟨w.heap.size, 0, none⟩) 2 2] W1 fun e w' => e = .returned (.bool true) ∧ w' = W1)
    (hwd2 : Calls Tryd.prog 53 #[.int .i64 wi, .slice xo xn xc] W1 fun e w' => e = .returned (.bool true) ∧ w' = W1)
    (hop : Calls Tryd.prog 47 #[.int .i64 wi, .int .i64 m, .int .i64 N, .slice oo on oc, .slice xo xn xc] W1 fun e w'' => e = .returned (.tuple #[cv wi tf tn (.slice ro rn rc) (.slice yo yn yc), .bool true]) ∧ Fr (fun _ => False) W1 w'')
    (hft : ∀ w', Calls Tryd.prog 54 #[cv wi tf tn (.slice ro rn rc) (.slice yo yn yc), sv 0 N] w' fun e w'' => e = .returned (.bool (decide (yn = D))) ∧ Fr (fun _ => False) w' w'')
    (hod : yn = D → ∀ w', Fr (fun _ => False) w w' → Calls Tryd.prog 60 #[cv wi tf tn (.slice ro rn rc) (.slice yo yn yc), sv 0 N] w' fun e w'' => ∃ uo un uc, e = .returned (.slice uo un uc) ∧ Sl w'' (.slice uo un uc) OV ∧ Fr (fun _ => False) w' w'')
    (htp : yn = D → ∀ w', Fr (fun _ => False) w w' → Calls Tryd.prog 55 #[cv wi tf tn (.slice ro rn rc) (.slice yo yn yc), sv 0 N] w' fun e w'' => ∃ uo un uc, e = .returned (.slice uo un uc) ∧ Sl w'' (.slice uo un uc) TV ∧ Fr (fun _ => False) w' w'') :
    Calls Tryd.prog 21 #[.int .i64 wi, .int .i64 m, .int .i64 N, .slice oo on oc, .slice rr rl rrc, .slice xo xn xc] w fun e w' => e = .returned (.bool (decide (yn = D) && (decide (OV = old) && decide (TV = root)))) ∧ Fr (fun _ => False) w w' := by
  have HM := hide (show 1 ≤ (wi : Int) ∧ (wi : Int) ≤ 32 by omega)
  have q1 : ¬ (m : Int) < 0 := by omega
  have q2 : ¬ (N : Int) < (m : Int) := by omega
  have q3 : ((m : Int) == 0) = false := beq_false_of_ne (by omega)
  have q4 : ¬ N < m := by omega
  have q5 : ¬ m = 0 := by omega
  clear hw hm0 hmN
  unfold cv sv at *
  have e0 : ((0 : Nat) : Int) = 0 := rfl
  simp only [e0] at hft hod htp
  clear e0
  by_cases hD : yn = D
  · rw [decide_eq_true hD] at hft ⊢
    rw [Bool.true_and]
    have ho2 := hod hD
    have ht2 := htp hD
    obtain ⟨B1, hB1⟩ : ∃ B1, decide (OV = old) = B1 := ⟨_, rfl⟩
    obtain ⟨B2, hB2⟩ : ∃ B2, decide (TV = root) = B2 := ⟨_, rfl⟩
    rw [hB1, hB2]
    have HB0 := hide (And.intro hB1 hB2)
    have HC := hide (And.intro hwd1 (And.intro hwd2 (And.intro hop (And.intro hF1 (And.intro hft (And.intro ho2 (And.intro ht2 (And.intro ho hr))))))))
    clear hwd1 hwd2 hop hft ho2 ht2 ho hr hod htp hF1 hB1 hB2 hD
    cases B1 with
    | false =>
      rw [Bool.false_and]
      go_enter Tryd.func21, Tryd.ntmps21
      go_wp2_with (go_at_call 52; refine (maybe_any wi _).mono ?_; rintro e' w' ⟨rfl, hw'⟩; rw [hw', decide_eq_true (unhide HM)])
      refine (unhide HC).1.mono ?_
      rintro e' w2 ⟨rfl, rfl⟩
      go_wp2_with fail
      refine (unhide HC).2.1.mono ?_
      rintro e' w3 ⟨rfl, rfl⟩
      go_wp2_with fail
      refine (unhide HC).2.2.1.mono ?_
      rintro e' wA ⟨rfl, hFA⟩
      have HA := hide ((unhide HC).2.2.2.1.trans hFA (fun _ _ h => h))
      clear hFA
      go_wp2_with fail
      obtain ⟨W2, hW2⟩ : ∃ W2, (wA.alloc (.cells #[.int .i64 wi, .int .i64 tf, .int .i64 tn, .slice ro rn rc, .slice yo yn yc] 67)).alloc (.cells #[.int .i64 0, .int .i64 N] 61) = W2 := ⟨_, rfl⟩
      rw [hW2]
      obtain ⟨⟨a0, a1, a2, a3, a4⟩, b0, b1, hF2⟩ := box52 wA _ _ _ _ _ _ _ _ _ W2 hW2
      refine ((unhide HC).2.2.2.2.1 _).mono ?_
      rintro e' wB ⟨rfl, hFB⟩
      have c0 := (hFB.cell (lt_of_cell a0) (fun h => h)).trans a0
      have c1 := (hFB.cell (lt_of_cell a1) (fun h => h)).trans a1
      have c2 := (hFB.cell (lt_of_cell a2) (fun h => h)).trans a2
      have c3 := (hFB.cell (lt_of_cell a3) (fun h => h)).trans a3
      have c4 := (hFB.cell (lt_of_cell a4) (fun h => h)).trans a4
      have d0 := (hFB.cell (lt_of_cell b0) (fun h => h)).trans b0
      have d1 := (hFB.cell (lt_of_cell b1) (fun h => h)).trans b1
      have HB := hide (((unhide HA).trans hF2 (fun _ _ h => h)).trans hFB (fun _ _ h => h))
      clear hF2 hFB hW2 a0 a1 a2 a3 a4 b0 b1 HA
      generalize wA.heap.size = P at *
      go_wp2_with fail
      refine ((unhide HC).2.2.2.2.2.1 _ (unhide HB)).mono ?_
      rintro e' wC ⟨uo, un, uc, rfl, hS, hFC⟩
      have HS := hide (And.intro hS ((unhide HB).trans hFC (fun _ _ h => h)))
      clear hS hFC
      go_wp2_with fail
      refine (beq_sl _ _ _ _ _ (unhide HS).1 ((unhide HC).2.2.2.2.2.2.2.1.fr0 (unhide HS).2)).mono ?_
      rintro e' wD ⟨rfl, rfl⟩
      rw [(unhide HB0).1]
      go_wp2_with fail
      go_ret
      exact ⟨rfl, (unhide HS).2⟩
    | true =>
      rw [Bool.true_and]
      go_enter Tryd.func21, Tryd.ntmps21
      go_wp2_with (go_at_call 52; refine (maybe_any wi _).mono ?_; rintro e' w' ⟨rfl, hw'⟩; rw [hw', decide_eq_true (unhide HM)])
      refine (unhide HC).1.mono ?_
      rintro e' w2 ⟨rfl, rfl⟩
      go_wp2_with fail
      refine (unhide HC).2.1.mono ?_
      rintro e' w3 ⟨rfl, rfl⟩
      go_wp2_with fail
      refine (unhide HC).2.2.1.mono ?_
      rintro e' wA ⟨rfl, hFA⟩
      have HA := hide ((unhide HC).2.2.2.1.trans hFA (fun _ _ h => h))
      clear hFA
      go_wp2_with fail
      obtain ⟨W2, hW2⟩ : ∃ W2, (wA.alloc (.cells #[.int .i64 wi, .int .i64 tf, .int .i64 tn, .slice ro rn rc, .slice yo yn yc] 67)).alloc (.cells #[.int .i64 0, .int .i64 N] 61) = W2 := ⟨_, rfl⟩
      rw [hW2]
      obtain ⟨⟨a0, a1, a2, a3, a4⟩, b0, b1, hF2⟩ := box52 wA _ _ _ _ _ _ _ _ _ W2 hW2
      refine ((unhide HC).2.2.2.2.1 _).mono ?_
      rintro e' wB ⟨rfl, hFB⟩
      have c0 := (hFB.cell (lt_of_cell a0) (fun h => h)).trans a0
      have c1 := (hFB.cell (lt_of_cell a1) (fun h => h)).trans a1
      have c2 := (hFB.cell (lt_of_cell a2) (fun h => h)).trans a2
      have c3 := (hFB.cell (lt_of_cell a3) (fun h => h)).trans a3
      have c4 := (hFB.cell (lt_of_cell a4) (fun h => h)).trans a4
      have d0 := (hFB.cell (lt_of_cell b0) (fun h => h)).trans b0
      have d1 := (hFB.cell (lt_of_cell b1) (fun h => h)).trans b1
      have HB := hide (((unhide HA).trans hF2 (fun _ _ h => h)).trans hFB (fun _ _ h => h))
      clear hF2 hFB hW2 a0 a1 a2 a3 a4 b0 b1 HA
      generalize wA.heap.size = P at *
      go_wp2_with fail
      refine ((unhide HC).2.2.2.2.2.1 _ (unhide HB)).mono ?_
      rintro e' wC ⟨uo, un, uc, rfl, hS, hFC⟩
      have f0 := (hFC.cell (lt_of_cell c0) (fun h => h)).trans c0
      have f1 := (hFC.cell (lt_of_cell c1) (fun h => h)).trans c1
      have f2 := (hFC.cell (lt_of_cell c2) (fun h => h)).trans c2
      have f3 := (hFC.cell (lt_of_cell c3) (fun h => h)).trans c3
      have f4 := (hFC.cell (lt_of_cell c4) (fun h => h)).trans c4
      have g0 := (hFC.cell (lt_of_cell d0) (fun h => h)).trans d0
      have g1 := (hFC.cell (lt_of_cell d1) (fun h => h)).trans d1
      have HS := hide (And.intro hS ((unhide HB).trans hFC (fun _ _ h => h)))
      clear hS hFC c0 c1 c2 c3 c4 d0 d1
      go_wp2_with fail
      refine (beq_sl _ _ _ _ _ (unhide HS).1 ((unhide HC).2.2.2.2.2.2.2.1.fr0 (unhide HS).2)).mono ?_
      rintro e' wD ⟨rfl, rfl⟩
      rw [(unhide HB0).1]
      go_wp2_with fail
      refine ((unhide HC).2.2.2.2.2.2.1 _ (unhide HS).2).mono ?_
      rintro e' wE ⟨to, tl, tc, rfl, hS, hFE⟩
      have HT := hide (And.intro hS ((unhide HS).2.trans hFE (fun _ _ h => h)))
      clear hS hFE
      go_wp2_with fail
      refine (beq_sl _ _ _ _ _ (unhide HT).1 ((unhide HC).2.2.2.2.2.2.2.2.fr0 (unhide HT).2)).mono ?_
      rintro e' wF ⟨rfl, rfl⟩
      rw [(unhide HB0).2]
      go_wp2_with fail
      go_ret
      exact ⟨rfl, (unhide HT).2⟩
  · rw [decide_eq_false hD] at hft ⊢
    rw [Bool.false_and]
    have HC := hide (And.intro hwd1 (And.intro hwd2 (And.intro hop (And.intro hF1 hft))))
    clear hwd1 hwd2 hop hft ho hr hod htp hF1 hD
    go_enter Tryd.func21, Tryd.ntmps21
    go_wp2_with (go_at_call 52; refine (maybe_any wi _).mono ?_; rintro e' w' ⟨rfl, hw'⟩; rw [hw', decide_eq_true (unhide HM)])
    refine (unhide HC).1.mono ?_
    rintro e' w2 ⟨rfl, rfl⟩
    go_wp2_with fail
    refine (unhide HC).2.1.mono ?_
    rintro e' w3 ⟨rfl, rfl⟩
    go_wp2_with fail
    refine (unhide HC).2.2.1.mono ?_
    rintro e' wA ⟨rfl, hFA⟩
    have HA := hide ((unhide HC).2.2.2.1.trans hFA (fun _ _ h => h))
    clear hFA
    go_wp2_with fail
    refine ((unhide HC).2.2.2.2 _).mono ?_
    rintro e' wB ⟨rfl, hFB⟩
    have HB := hide ((unhide HA).trans ((((Fr.refl _ _).alloc _).alloc _).trans hFB (fun _ _ h => h)) (fun _ _ h => h))
    clear hFB
    go_wp2_with fail
    go_ret
    exact ⟨rfl, unhide HB⟩
end Go.Proofs.YtocdnomfpgdglabDoor

namespace Go.Proofs.YtocdnomfpgdglabDoor
open Go.RowKit

set_option maxRecDepth 100000 in
set_option maxHeartbeats 2000000 in
/-- merkle.CheckProof. -/
theorem checkProof_any (j m n : Int) (ov rv x : Value) (old root : List Nat) (vs : List Value) (ps : List (List Nat)) (w : World) (hg : GS w) (ho : Sl w ov old) (hr : Sl w rv root) (hp : Pcs w x vs ps) (hcx : Cp x) (hn : n < 9223372036854775808) (hps : ps.length < 4611686018427387904) :
    Calls Tryd.prog 21 #[.int .i64 j, .int .i64 m, .int .i64 n, ov, rv, x] w fun e w' => e = .returned (.bool (chkQ j m n old root ps)) ∧ Fr (fun _ => False) w w' := by
  obtain ⟨oo, oc, rfl⟩ := ho.form
  obtain ⟨rr, rc, rfl⟩ := hr.form
  obtain ⟨xo, xc, rfl⟩ := hp.form
  by_cases h1o : j < 1 ∨ 32 < j
  · have h1 : ¬ (1 ≤ j ∧ j ≤ 32) := by omega
    have hB : chkQ j m n old root ps = false := by rw [chkQ, decide_eq_false h1]; rfl
    rw [hB]
    have HM := hide h1
    clear hg ho hr hp hcx hn hps hB h1 h1o
    generalize old.length = LL at *
    generalize root.length = RL at *
    generalize ps.length = PL at *
    go_enter Tryd.func21, Tryd.ntmps21
    go_wp2_with (go_at_call 52; refine (maybe_any j _).mono ?_; rintro e' w' ⟨rfl, hw'⟩; rw [hw', decide_eq_false (unhide HM)])
    go_ret
    exact ⟨rfl, Fr.refl _ _⟩
  · have h1 : 1 ≤ j ∧ j ≤ 32 := by omega
    clear h1o
    have HM := hide h1
    by_cases h2' : m < 0
    · have h2 : ¬ 0 ≤ m := by omega
      have hB : chkQ j m n old root ps = false := by rw [chkQ, decide_eq_true h1, decide_eq_false h2]; rfl
      rw [hB]
      clear hg ho hr hp hcx hn hps hB h1
      generalize old.length = LL at *
      generalize root.length = RL at *
      generalize ps.length = PL at *
      go_enter Tryd.func21, Tryd.ntmps21
      go_wp2_with (go_at_call 52; refine (maybe_any j _).mono ?_; rintro e' w' ⟨rfl, hw'⟩; rw [hw', decide_eq_true (unhide HM)])
      go_ret
      exact ⟨rfl, Fr.refl _ _⟩
    · have h2 : 0 ≤ m := by omega
      by_cases h3' : n < m
      · have h3 : ¬ m ≤ n := by omega
        have hB : chkQ j m n old root ps = false := by rw [chkQ, decide_eq_true h1, decide_eq_true h2, decide_eq_false h3]; rfl
        rw [hB]
        clear hg ho hr hp hcx hn hps hB h1
        generalize old.length = LL at *
        generalize root.length = RL at *
        generalize ps.length = PL at *
        go_enter Tryd.func21, Tryd.ntmps21
        go_wp2_with (go_at_call 52; refine (maybe_any j _).mono ?_; rintro e' w' ⟨rfl, hw'⟩; rw [hw', decide_eq_true (unhide HM)])
        go_ret
        exact ⟨rfl, Fr.refl _ _⟩
      · have h3 : m ≤ n := by omega
        clear h2' h3'
        obtain ⟨wi, rfl⟩ : ∃ k : Nat, j = (k : Int) := ⟨j.toNat, by omega⟩
        obtain ⟨I, rfl⟩ : ∃ k : Nat, m = (k : Int) := ⟨m.toNat, by omega⟩
        obtain ⟨N, rfl⟩ : ∃ k : Nat, n = (k : Int) := ⟨n.toNat, by omega⟩
        have h2' : ¬ (I : Int) < 0 := by omega
        have h3' : ¬ (N : Int) < (I : Int) := by omega
        have h4' : ¬ N < I := by omega
        obtain ⟨W1, hW1⟩ : ∃ W1, w.alloc (.cells #[.slice oo old.length oc, .slice rr root.length rc] 23) = W1 := ⟨_, rfl⟩
        have hF1 : Fr (fun _ => False) w W1 := by rw [← hW1]; exact (Fr.refl _ _).alloc _
        have hwd1 := wide_any wi _ _ [old, root] W1 (pcs2 ho hr W1 hW1) (by simp)
        have hwd2 := wide_any wi _ vs ps W1 (hp.fr0 hF1) hps
        have hce : chkQ wi I N old root ps = (wdq wi [old, root] && (wdq wi ps && (if (I : Int) = 0 then decide (ps = []) && (decide (old = sm wi []) && (decide (0 < (N : Int)) || decide (root = sm wi []))) else prfQ wi N I old root ps))) := by
          rw [chkQ, decide_eq_true h1, decide_eq_true h2, decide_eq_true h3]; rfl
        rw [hce]
        clear hce
        cases hq1 : wdq wi [old, root] with
        | false =>
          rw [hq1] at hwd1
          rw [Bool.false_and]
          have HC := hide (And.intro hwd1 hF1)
          clear hg ho hr hp hcx hn hps h1 h2 h3 hwd1 hwd2 hF1 hq1
          generalize old.length = LL at *
          generalize root.length = RL at *
          generalize ps.length = PL at *
          go_enter Tryd.func21, Tryd.ntmps21
          go_wp2_with (go_at_call 52; refine (maybe_any wi _).mono ?_; rintro e' w' ⟨rfl, hw'⟩; rw [hw', decide_eq_true (unhide HM)])
          refine (unhide HC).1.mono ?_
          rintro e' w2 ⟨rfl, rfl⟩
          go_wp2_with fail
          go_ret
          exact ⟨rfl, (unhide HC).2⟩
        | true =>
          rw [hq1] at hwd1
          rw [Bool.true_and]
          cases hq2 : wdq wi ps with
          | false =>
            rw [hq2] at hwd2
            rw [Bool.false_and]
            have HC := hide (And.intro hwd1 (And.intro hwd2 hF1))
            clear hg ho hr hp hcx hn hps h1 h2 h3 hwd1 hwd2 hF1 hq1 hq2
            generalize old.length = LL at *
            generalize root.length = RL at *
            generalize ps.length = PL at *
            go_enter Tryd.func21, Tryd.ntmps21
            go_wp2_with (go_at_call 52; refine (maybe_any wi _).mono ?_; rintro e' w' ⟨rfl, hw'⟩; rw [hw', decide_eq_true (unhide HM)])
            refine (unhide HC).1.mono ?_
            rintro e' w2 ⟨rfl, rfl⟩
            go_wp2_with fail
            refine (unhide HC).2.1.mono ?_
            rintro e' w3 ⟨rfl, rfl⟩
            go_wp2_with fail
            go_ret
            exact ⟨rfl, (unhide HC).2.2⟩
          | true =>
            rw [hq2] at hwd2
            rw [Bool.true_and]
            have how : old.length = wi := by have := wdq_true hq1 old (by simp); omega
            have hpw : ∀ p ∈ ps, p.length = wi := fun p hp => by have := wdq_true hq2 p hp; omega
            by_cases hI : I = 0
            · subst hI
              rw [if_pos (show ((0 : Nat) : Int) = 0 from rfl)]
              exact cpr_zero wi (by omega) (by omega) N oo oc rr rc xo xc old root ps w hg ho hr W1 hW1 hF1 hwd1 hwd2
            · rw [if_neg (by omega)]
              obtain ⟨i1, i2, i3, i4, i5⟩ := endF_ok N 0 N I (Nat.le_refl _) (by omega) (by omega)
              by_cases hend : (endF 0 N I).1 = 0 ∨ ps ≠ []
              · obtain ⟨ro, rn, rc', yo, yc, r, us, qs, s1, s2, s3, s4, s5, s6, s7⟩ := ofProof_any wi I N (by omega) (by omega) (by omega) _ _ old root vs ps w ho hp hcx how hpw hend
                rw [s6, bodyQ]
                exact cpr_yes wi I N _ _ (by omega) (by omega) (by omega) oo _ oc rr _ rc xo _ xc ro rn rc' yo qs.length yc _ old root _ _ w W1 hW1 hF1 ho hr hwd1 hwd2 (s7 W1 hF1) (fun w' => fits_any wi 0 N _ _ ro rn rc' yo _ yc w' (by omega) i4)
                  (fun hD w' hf => older_any wi (by omega) (by omega) N 0 N _ _ w' ro rn rc' r _ us qs (Nat.le_refl _) (by omega) i4 (hg.fr0 hf) (s1.fr0 hf) s2 (s3.fr0 hf) s4 hD s5)
                  (fun hD w' hf => top_any wi (by omega) (by omega) N 0 N _ _ w' ro rn rc' r _ us qs (Nat.le_refl _) (by omega) i4 (hg.fr0 hf) (s1.fr0 hf) s2 (s3.fr0 hf) s4 hD s5)
              · have hE : ¬ (endF 0 N I).1 = 0 := fun h => hend (.inl h)
                have hps0 : ps = [] := Classical.byContradiction fun h => hend (.inr h)
                subst hps0
                have hB : prfQ wi N I old root [] = false := by unfold prfQ; rw [if_neg hE]
                rw [hB]
                have hno := ofProof_no wi I N (by omega) (by omega) (by omega) hE oo old.length oc xo xc W1
                unfold cv at hno
                have e0 : ((0 : Nat) : Int) = 0 := rfl
                simp only [e0] at hno
                simp only [List.length_nil] at hwd2 ⊢
                have q3 : ((I : Int) == 0) = false := beq_false_of_ne (by omega)
                have HC := hide (And.intro hwd1 (And.intro hwd2 (And.intro hno hF1)))
                clear hg ho hr hp hcx hn hps h1 h2 h3 hwd1 hwd2 hF1 hq1 hq2 hno e0 hB hE hend how hpw i1 i2 i3 i4 i5
                generalize old.length = LL at *
                generalize root.length = RL at *
                go_enter Tryd.func21, Tryd.ntmps21
                go_wp2_with (go_at_call 52; refine (maybe_any wi _).mono ?_; rintro e' w' ⟨rfl, hw'⟩; rw [hw', decide_eq_true (unhide HM)])
                refine (unhide HC).1.mono ?_
                rintro e' w2 ⟨rfl, rfl⟩
                go_wp2_with fail
                refine (unhide HC).2.1.mono ?_
                rintro e' w3 ⟨rfl, rfl⟩
                go_wp2_with fail
                refine (unhide HC).2.2.1.mono ?_
                rintro e' wA ⟨rfl, hFA⟩
                have HA := hide ((unhide HC).2.2.2.trans hFA (fun _ _ h => h))
                clear hFA
                go_wp2_with fail
                go_ret
                exact ⟨rfl, ((unhide HA).alloc _).alloc _⟩
end Go.Proofs.YtocdnomfpgdglabDoor

namespace Go.Proofs.YtocdnomfpgdglabDoor
open Go.RowKit

theorem ints1 (w : World) (z : Int) (W : World) (hW : w.alloc (.cells #[.int .i64 z] 3) = W) : Ints W (.slice (some ⟨w.heap.size, 0, none⟩) 1 1) [z] := by
  refine .inr (.inr ⟨w.heap.size, 0, 1, rfl, by simp, by rw [← hW]; simp, fun j hj => ?_⟩)
  have hj0 : j = 0 := by simpa using hj
  subst hj0
  rw [← hW, World.cell?_alloc_at _ _ _ _ rfl]; rfl
/-- The proof, taken, and with one hash more refused. -/
structure TkA (w : World) (wi N I PN : Nat) (xo : Option Addr) (xc : Nat) (R O : List Nat) (Q : List (List Nat)) : Prop where
  len : Q.length = PN
  lt : PN ≤ 8000000
  prf : ∀ w', Fr (fun _ => False) w w' → Calls Tryd.prog 23 #[.int .i64 wi, .slice xo N xc, .int .i64 I] w' fun e w'' => ∃ ao cp vs, e = .returned (.tuple #[.slice ao PN cp, .int .i64 0]) ∧ Pcs w'' (.slice ao PN cp) vs Q ∧ Cp (.slice ao PN cp) ∧ Fr (fun _ => False) w' w''
  old : ∀ w', Fr (fun _ => False) w w' → Calls Tryd.prog 17 #[.int .i64 wi, .slice xo I xc] w' fun e w'' => ∃ yo yc, e = .returned (.slice yo wi yc) ∧ Sl w'' (.slice yo wi yc) O ∧ Fr (fun _ => False) w' w''
  yes : ∀ w' ov rv x vs, Fr (fun _ => False) w w' → Sl w' ov O → Sl w' rv R → Pcs w' x vs Q → Cp x → Calls Tryd.prog 21 #[.int .i64 wi, .int .i64 I, .int .i64 N, ov, rv, x] w' fun e w'' => e = .returned (.bool true) ∧ Fr (fun _ => False) w' w''
  no : ∀ w' ov rv x vs, Fr (fun _ => False) w w' → Sl w' ov O → Sl w' rv R → Pcs w' x vs (Q ++ [R]) → Cp x → Calls Tryd.prog 21 #[.int .i64 wi, .int .i64 I, .int .i64 N, ov, rv, x] w' fun e w'' => e = .returned (.bool false) ∧ Fr (fun _ => False) w' w''
theorem tkA (wi : Nat) (hw1 : 1 ≤ wi) (hw32 : wi ≤ 32) (xo : Option Addr) (xc : Nat) (us : List Value) (es : List (List Nat)) (I : Nat) (w : World) (hg : GS w) (ht : GT w) (hp : Pcs w (.slice xo es.length xc) us es) (hB : ∀ e ∈ es, e.length ≤ 16000000) (hn : es.length ≤ 4000000) (hI : I ≤ es.length) : ∃ PN, TkA w wi es.length I PN xo xc (mth wi (es.map (lf wi))) (mth wi ((es.map (lf wi)).take I)) (prf wi (es.map (lf wi)) es.length I) := by
  have hL := map_lf_len wi hw1 hw32 es
  have hll : (es.map (lf (wi : Int))).length = es.length := List.length_map _
  have hle : (prf wi (es.map (lf wi)) es.length I).length ≤ es.length + 1 := by
    unfold prf
    have hb := bes_len wi (es.map (lf wi)) es.length 0 es.length (endF 0 es.length I).1 (endF 0 es.length I).2 (Nat.le_refl _)
    have hd := dep_le es.length 0 es.length (endF 0 es.length I).1 (endF 0 es.length I).2 (Nat.le_refl _)
    split
    · simp
    · split
      · omega
      · rw [List.length_cons]; omega
  have hq := chkQ_prf wi hw1 hw32 (es.map (lf wi)) hL I (by omega)
  have hm := fun x => chkQ_more wi (es.map (lf wi)) es.length I (mth wi ((es.map (lf wi)).take I)) (mth wi (es.map (lf wi))) x
  rw [hll] at hq
  have hmt : mth wi ((es.map (lf (wi : Int))).take I) = mth wi ((es.take I).map (lf wi)) := by rw [List.map_take]
  refine ⟨_, rfl, by omega, fun w' hf => ?_, fun w' hf => ?_, fun w' ov rv x vs hf h1 h2 h3 h4 => ?_, fun w' ov rv x vs hf h1 h2 h3 h4 => ?_⟩
  · refine (mproof_in wi hw1 hw32 _ us es I w' (hg.fr0 hf) (ht.fr0 hf) (hp.fr0 hf) hB (by omega) hI).mono ?_
    rintro e w'' ⟨ao, cp, vs, rfl, hO⟩
    have h1 := hO.pcs
    have h2 := hO.cap
    rw [hO.len] at h1 h2 ⊢
    exact ⟨ao, cp, vs, rfl, h1, (fun _ _ _ e => by cases e; exact h2), hO.own.fr⟩
  · rw [hmt]
    refine (mroot_in wi hw1 hw32 _ _ (es.take I) w' (hg.fr0 hf) (ht.fr0 hf) ((hp.fr0 hf).take I hI) (fun e he => hB e (List.mem_of_mem_take he)) (by rw [List.length_take]; omega)).mono ?_
    rintro e w'' ⟨yo, yc, rfl, hO⟩
    have hw := mth_wid wi hw1 hw32 _ (map_lf_len wi hw1 hw32 (es.take I))
    have hs := hO.sl (mth_lt _ _ _ (Nat.le_refl _) (fun p hp => by obtain ⟨e, _, rfl⟩ := List.mem_map.1 hp; exact lf_lt _ _))
    rw [hw] at hs
    exact ⟨yo, yc, rfl, hs, hO.fr⟩
  · have := checkProof_any wi I es.length ov rv x _ _ vs _ w' (hg.fr0 hf) h1 h2 h3 h4 (by omega) (by omega)
    rw [hq] at this
    exact this
  · have := checkProof_any wi I es.length ov rv x _ _ vs _ w' (hg.fr0 hf) h1 h2 h3 h4 (by omega) (by rw [List.length_append]; simp; omega)
    rw [hm] at this
    exact this
/-- The path, likewise, and the hashes for its one place. -/
structure TkB (w : World) (wi N I PN : Nat) (xo : Option Addr) (xc : Nat) (R F : List Nat) (Q M : List (List Nat)) : Prop where
  len : Q.length = PN
  lt : PN ≤ 8000000
  pth : ∀ w', Fr (fun _ => False) w w' → Calls Tryd.prog 24 #[.int .i64 wi, .slice xo N xc, .int .i64 I] w' fun e w'' => ∃ ao cp vs, e = .returned (.tuple #[.slice ao PN cp, .int .i64 0]) ∧ Pcs w'' (.slice ao PN cp) vs Q ∧ Cp (.slice ao PN cp) ∧ Fr (fun _ => False) w' w''
  leaf : ∃ g o, xo = some ⟨g, o, none⟩ ∧ ∃ vo vn vc, ∀ w', Fr (fun _ => False) w w' → w'.cell? ⟨g, o + I, none⟩ = some (.slice vo vn vc) ∧ Calls Tryd.prog 19 #[.int .i64 wi, .slice vo vn vc] w' fun e w'' => ∃ yo yc, e = .returned (.slice yo wi yc) ∧ Sl w'' (.slice yo wi yc) F ∧ Fr (fun _ => False) w' w''
  yes : ∀ w' ov rv x vs, Fr (fun _ => False) w w' → Sl w' ov F → Sl w' rv R → Pcs w' x vs Q → Cp x → Calls Tryd.prog 18 #[.int .i64 wi, ov, .int .i64 I, .int .i64 N, x, rv] w' fun e w'' => e = .returned (.bool true) ∧ Fr (fun _ => False) w' w''
  no : ∀ w' ov rv x vs, Fr (fun _ => False) w w' → Sl w' ov F → Sl w' rv R → Pcs w' x vs (Q ++ [R]) → Cp x → Calls Tryd.prog 18 #[.int .i64 wi, ov, .int .i64 I, .int .i64 N, x, rv] w' fun e w'' => e = .returned (.bool false) ∧ Fr (fun _ => False) w' w''
  many : ∀ w' W, Fr (fun _ => False) w w' → w'.alloc (.cells #[.int .i64 (I : Int)] 3) = W → Calls Tryd.prog 25 #[.int .i64 wi, .slice xo N xc, .slice (some ⟨w'.heap.size, 0, none⟩) 1 1] W fun e w'' => ∃ ao cp vs, e = .returned (.tuple #[.slice ao PN cp, .int .i64 0]) ∧ Pcs w'' (.slice ao PN cp) vs M ∧ Cp (.slice ao PN cp) ∧ Fr (fun _ => False) w' w''
  took : ∀ w' W fo fc rv x vs, Fr (fun _ => False) w w' → Sl w' (.slice fo wi fc) F → Sl w' rv R → Pcs w' x vs M → Cp x → (w'.alloc (.cells #[.slice fo wi fc] 23)).alloc (.cells #[.int .i64 (I : Int)] 3) = W → Calls Tryd.prog 26 #[.int .i64 wi, .slice (some ⟨w'.heap.size, 0, none⟩) 1 1, .slice (some ⟨w'.heap.size + 1, 0, none⟩) 1 1, .int .i64 N, x, rv] W fun e w'' => e = .returned (.bool true) ∧ Fr (fun _ => False) w' w''
theorem tkB (wi : Nat) (hw1 : 1 ≤ wi) (hw32 : wi ≤ 32) (xo : Option Addr) (xc : Nat) (us : List Value) (es : List (List Nat)) (I : Nat) (w : World) (hg : GS w) (ht : GT w) (hp : Pcs w (.slice xo es.length xc) us es) (hB : ∀ e ∈ es, e.length ≤ 16000000) (hn : es.length ≤ 4000000) (hI : I < es.length) : ∃ PN F Q M, TkB w wi es.length I PN xo xc (mth wi (es.map (lf wi))) F Q M := by
  have hL := map_lf_len wi hw1 hw32 es
  have hll : (es.map (lf (wi : Int))).length = es.length := List.length_map _
  have hq := chkP_bes wi hw1 hw32 (es.map (lf wi)) hL I (by omega)
  have hm := fun x => chkP_more wi (es.map (lf wi)) es.length I (lf wi es[I]) (mth wi (es.map (lf wi))) x
  simp only [List.getElem_map, hll] at hq
  have hbl := bes_len wi (es.map (lf wi)) es.length 0 es.length I 1 (Nat.le_refl _)
  have hd := dep_le es.length 0 es.length I 1 (Nat.le_refl _)
  have hml := mny_dep wi (es.map (lf wi)) es.length 0 es.length I (Nat.le_refl _) (by omega) (by omega)
  have hri : rsF es.length 0 [(I : Int)] = true := by
    rw [rsF, if_neg (by omega)]; rfl
  have hcm := chkM_mny wi hw1 hw32 (es.map (lf wi)) hL [(I : Int)] (by rw [hll]; exact hri)
  rw [hll] at hcm
  have hgd : ([(I : Int)].map fun z => (es.map (lf (wi : Int))).getD z.toNat []) = [lf wi es[I]] := by
    simp only [List.map_cons, List.map_nil, Int.toNat_natCast]
    rw [List.getD, List.getElem?_eq_getElem (by omega), Option.getD_some, List.getElem_map]
  rw [hgd] at hcm
  have hlw := lf_len wi hw1 hw32 es[I]
  refine ⟨_, lf wi es[I], bes wi (es.map (lf wi)) 0 es.length I 1, mny wi (es.map (lf wi)) 0 es.length [(I : Int)], rfl, by omega, fun w' hf => ?_, ?_, fun w' ov rv x vs hf h1 h2 h3 h4 => ?_, fun w' ov rv x vs hf h1 h2 h3 h4 => ?_, fun w' W hf hW => ?_, fun w' W fo fc rv x vs hf h1 h2 h3 h4 hW => ?_⟩
  · refine (mpath_in wi hw1 hw32 _ us es I w' (hg.fr0 hf) (ht.fr0 hf) (hp.fr0 hf) hB (by omega) hI).mono ?_
    rintro e w'' ⟨ao, cp, vs, rfl, hO⟩
    have h1 := hO.pcs
    have h2 := hO.cap
    rw [hO.len] at h1 h2 ⊢
    exact ⟨ao, cp, vs, rfl, h1, (fun _ _ _ e => by cases e; exact h2), hO.own.fr⟩
  · obtain ⟨g, o, vo, vc, rfl, hc, hs⟩ := hp.nth (Fr.refl _ w) I hI
    refine ⟨g, o, rfl, vo, _, vc, fun w' hf => ⟨(hf.cell (lt_of_cell hc) (fun h => h)).trans hc, ?_⟩⟩
    refine (leaf_any (wi : Int) _ es[I] w' (hg.fr0 hf) (hs.fr0 hf) (hB _ (List.getElem_mem _))).mono ?_
    rintro e w'' ⟨yo, rfl, hO⟩
    have hs := hO.sl (lf_lt _ _)
    rw [hlw] at hs ⊢
    exact ⟨yo, wi, rfl, hs, hO.fr⟩
  · have := checkPath_any wi I es.length ov rv x _ _ vs _ w' (hg.fr0 hf) h1 h2 h3 h4 (by omega) (by omega)
    rw [hq] at this
    exact this
  · have := checkPath_any wi I es.length ov rv x _ _ vs _ w' (hg.fr0 hf) h1 h2 h3 h4 (by omega) (by rw [List.length_append]; simp; omega)
    rw [hm] at this
    exact this
  · have hF : Fr (fun _ => False) w' W := by rw [← hW]; exact (Fr.refl _ _).alloc _
    refine (mmany_in wi hw1 hw32 _ _ us es [(I : Int)] W ((hg.fr0 hf).fr0 hF) ((ht.fr0 hf).fr0 hF) ((hp.fr0 hf).fr0 hF) hB (by omega) (ints1 w' _ W hW) (by simp) hri).mono ?_
    rintro e w'' ⟨ao, cp, vs, rfl, hO⟩
    have h1 := hO.pcs
    have h2 := hO.cap
    rw [hO.len, hml, ← hbl] at h1 h2 ⊢
    exact ⟨ao, cp, vs, rfl, h1, (fun _ _ _ e => by cases e; exact h2), hF.trans hO.own.fr (fun _ _ h => h)⟩
  · obtain ⟨W1, hW1⟩ : ∃ W1, w'.alloc (.cells #[.slice fo wi fc] 23) = W1 := ⟨_, rfl⟩
    have hF1 : Fr (fun _ => False) w' W1 := by rw [← hW1]; exact (Fr.refl _ _).alloc _
    have hsz : W1.heap.size = w'.heap.size + 1 := by rw [← hW1]; simp
    rw [hW1] at hW
    have hF2 : Fr (fun _ => False) W1 W := by rw [← hW]; exact (Fr.refl _ _).alloc _
    have hF := hF1.trans hF2 (fun _ _ h => h)
    have hi := ints1 W1 _ W hW
    rw [hsz] at hi
    have hl : Pcs W (.slice (some ⟨w'.heap.size, 0, none⟩) 1 1) [.slice fo wi fc] [lf wi es[I]] := by
      have h1' : Sl w' (.slice fo (lf (wi : Int) es[I]).length fc) (lf wi es[I]) := by rw [hlw]; exact h1
      have := pcs1 h1' W1 (by rw [hlw]; exact hW1)
      rw [hlw] at this
      exact this.fr0 hF2
    have := checkMany_any wi es.length _ _ x rv [lf wi es[I]] _ [(I : Int)] _ _ vs W ((hg.fr0 hf).fr0 hF) hl (fun _ _ _ e => by cases e; exact Nat.le_refl _) hi (h3.fr0 hF) h4 (h2.fr0 hF) (by simp) (fun z hz => by simp at hz; omega) (by simp) (by omega) (by omega)
    rw [hcm] at this
    refine this.mono ?_
    rintro e w'' ⟨rfl, hF3⟩
    exact ⟨rfl, hF.trans hF3 (fun _ _ h => h)⟩
end Go.Proofs.YtocdnomfpgdglabDoor

namespace Go.Proofs.YtocdnomfpgdglabDoor
open Go.RowKit

/-- The hashes for places: taken, and with one more refused; or there are none. -/
structure TkC (w : World) (wi N : Nat) (xo : Option Addr) (xc : Nat) (yo : Option Addr) (Z yc : Nat) (R : List Nat) (lf' : Nat → List Nat) (zs : List Int) (MN : Nat) (Q : List (List Nat)) : Prop where
  len : Q.length = MN
  lt : MN ≤ 8000000
  many : ∀ w', Fr (fun _ => False) w w' → Calls Tryd.prog 25 #[.int .i64 wi, .slice xo N xc, .slice yo Z yc] w' fun e w'' => ∃ ao cp vs, e = .returned (.tuple #[.slice ao MN cp, .int .i64 0]) ∧ Pcs w'' (.slice ao MN cp) vs Q ∧ Cp (.slice ao MN cp) ∧ Fr (fun _ => False) w' w''
  one : ∀ k, k < Z → ∃ g o, yo = some ⟨g, o, none⟩ ∧ ∃ (p : Nat), p < N ∧ zs[k]? = some (p : Int) ∧ ∃ h q, xo = some ⟨h, q, none⟩ ∧ ∃ vo vn vc, ∀ w', Fr (fun _ => False) w w' → w'.cell? ⟨g, o + k, none⟩ = some (.int .i64 (p : Int)) ∧ w'.cell? ⟨h, q + p, none⟩ = some (.slice vo vn vc) ∧ Calls Tryd.prog 19 #[.int .i64 wi, .slice vo vn vc] w' fun e w'' => ∃ yo yc, e = .returned (.slice yo wi yc) ∧ OB w' w'' yo yc (lf' p)
  lfw : ∀ p, (lf' p).length = wi ∧ ∀ v ∈ lf' p, v < 256
  yes : ∀ w' rv x vs lv us, Fr (fun _ => False) w w' → Sl w' rv R → Pcs w' x vs Q → Cp x → Pcs w' lv us (zs.map fun z => lf' z.toNat) → Cp lv → Calls Tryd.prog 26 #[.int .i64 wi, lv, .slice yo Z yc, .int .i64 N, x, rv] w' fun e w'' => e = .returned (.bool true) ∧ Fr (fun _ => False) w' w''
  no : ∀ w' rv x vs lv us, Fr (fun _ => False) w w' → Sl w' rv R → Pcs w' x vs (Q ++ [R]) → Cp x → Pcs w' lv us (zs.map fun z => lf' z.toNat) → Cp lv → Calls Tryd.prog 26 #[.int .i64 wi, lv, .slice yo Z yc, .int .i64 N, x, rv] w' fun e w'' => e = .returned (.bool false) ∧ Fr (fun _ => False) w' w''
theorem tkC (wi : Nat) (hw1 : 1 ≤ wi) (hw32 : wi ≤ 32) (xo : Option Addr) (xc : Nat) (us : List Value) (es : List (List Nat)) (yo : Option Addr) (yc : Nat) (zs : List Int) (w : World) (hg : GS w) (ht : GT w) (hp : Pcs w (.slice xo es.length xc) us es) (hB : ∀ e ∈ es, e.length ≤ 16000000) (hn : es.length ≤ 4000000) (hy : Ints w (.slice yo zs.length yc) zs) (hzl : zs.length ≤ 4000000) (hri : rsF es.length 0 zs = true) :
    ∃ MN, TkC w wi es.length xo xc yo zs.length yc (mth wi (es.map (lf wi))) (fun p => lf wi (es.getD p [])) zs MN (mny wi (es.map (lf wi)) 0 es.length zs) := by
  have hL := map_lf_len wi hw1 hw32 es
  have hll : (es.map (lf (wi : Int))).length = es.length := List.length_map _
  obtain ⟨s1, s2⟩ := rsF_ok es.length zs 0 hri
  have hle := mny_le wi (es.map (lf wi)) 0 es.length zs
  have hcm := chkM_mny wi hw1 hw32 (es.map (lf wi)) hL zs (by rw [hll]; exact hri)
  have hmo := fun x => chkM_more wi (es.map (lf wi)) zs (by rw [hll]; exact hri) (mth wi (es.map (lf wi))) x
  rw [hll] at hcm hmo
  have hgd : (zs.map fun z => (es.map (lf (wi : Int))).getD z.toNat []) = zs.map fun z => lf wi (es.getD z.toNat []) := by
    apply List.map_congr_left
    intro z hz
    have := s2 z hz
    have hzl : z.toNat < es.length := by omega
    rw [List.getD, List.getD, List.getElem?_map, List.getElem?_eq_getElem hzl]
    rfl
  rw [hgd] at hcm hmo
  have hzb : ∀ z ∈ zs, -9223372036854775808 ≤ z := fun z hz => by have := s2 z hz; omega
  refine ⟨_, rfl, by omega, fun w' hf => ?_, fun k hk => ?_, fun p => ⟨lf_len wi hw1 hw32 _, lf_lt _ _⟩, fun w' rv x vs lv us' hf h1 h2 h3 h4 h5 => ?_, fun w' rv x vs lv us' hf h1 h2 h3 h4 h5 => ?_⟩
  · refine (mmany_in wi hw1 hw32 _ _ us es zs w' (hg.fr0 hf) (ht.fr0 hf) (hp.fr0 hf) hB (by omega) (hy.fr0 hf) (by omega) hri).mono ?_
    rintro e w'' ⟨ao, cp, vs, rfl, hO⟩
    have h1 := hO.pcs
    have h2 := hO.cap
    rw [hO.len] at h1 h2 ⊢
    exact ⟨ao, cp, vs, rfl, h1, (fun _ _ _ e => by cases e; exact h2), hO.own.fr⟩
  · obtain ⟨g, o, rfl, hc⟩ := hy.cell k hk
    have hz := s2 zs[k] (List.getElem_mem hk)
    obtain ⟨p, hpz⟩ : ∃ p : Nat, zs[k] = (p : Int) := ⟨zs[k].toNat, by omega⟩
    have hpn : p < es.length := by omega
    rw [hpz] at hc
    obtain ⟨h, q, vo, vc, rfl, hc2, hs⟩ := hp.nth (Fr.refl _ w) p hpn
    refine ⟨g, o, rfl, p, hpn, by rw [List.getElem?_eq_getElem hk, hpz], h, q, rfl, vo, _, vc, fun w' hf => ⟨(hf.cell (lt_of_cell hc) (fun h => h)).trans hc, (hf.cell (lt_of_cell hc2) (fun h => h)).trans hc2, ?_⟩⟩
    have hlw := lf_len wi hw1 hw32 es[p]
    have hgp : es.getD p [] = es[p] := by rw [List.getD, List.getElem?_eq_getElem hpn]; rfl
    rw [hgp]
    refine (leaf_any (wi : Int) _ es[p] w' (hg.fr0 hf) (hs.fr0 hf) (hB _ (List.getElem_mem _))).mono ?_
    rintro e w'' ⟨yo, rfl, hO⟩
    rw [hlw] at hO ⊢
    exact ⟨yo, wi, rfl, hO⟩
  · have := checkMany_any wi es.length lv _ x rv _ _ zs _ us' vs w' (hg.fr0 hf) h4 h5 (hy.fr0 hf) h2 h3 h1 (by omega) hzb (by rw [List.length_map]; omega) (by omega) (by omega)
    rw [hcm] at this
    exact this
  · have := checkMany_any wi es.length lv _ x rv _ _ zs _ us' vs w' (hg.fr0 hf) h4 h5 (hy.fr0 hf) h2 h3 h1 (by omega) hzb (by rw [List.length_map]; omega) (by rw [List.length_append]; simp; omega) (by omega)
    rw [hmo] at this
    exact this
end Go.Proofs.YtocdnomfpgdglabDoor

namespace Go.Proofs.YtocdnomfpgdglabDoor
open Go.RowKit

/-- append(v, x...), where it is asked for. -/
theorem wpList_appG {P : Program} {ops : Array Oper} {rest : List Oper} {op : Oper} {a : Act} {w w' : World} {Q : Exit → Act → World → Prop} (hgd : Region.wanted op (yielded ops a.tmps) = true) (s x : Operand) (t u : TypeId) (ho : op.op = .call { callee := .builtin .append, args := #[s, x], argTypes := #[t, u] })
    (vs vx v' : Value) (hs : a.eval s = vs) (hx : a.eval x = vx) (hr : (Builtin.append_ #[t, u] op.type #[vs, vx]).run P w = .ok v' w')
    (h : wpList P ops Q rest (a.put op.dst v') w') : wpList P ops Q (op :: rest) a w := by
  refine wpList_step fun K hK => ?_
  rw [if_pos hgd]
  unfold Oper.wp execOp
  simp only [ho, resolve, invoke, builtin, Sem.run_bind, Sem.run_pure, Result.andThen_ok, List.map_toArray, List.map_cons, List.map_nil, hs, hx, hr]
  exact hK _ _ h
end Go.Proofs.YtocdnomfpgdglabDoor

namespace Go.Proofs.YtocdnomfpgdglabDoor
open Go.RowKit

set_option maxRecDepth 100000 in
set_option maxHeartbeats 8000000 in
/-- MerkleTaken, a case. -/
theorem taken_1 (j : Int) (x : Value) (vs : List Value) (es : List (List Nat)) (i : Int) (y : Value) (zs : List Int) (w : World) (hg : GS w) (ht : GT w) (hp : Pcs w x vs es) (hC : Cp x) (hB : ∀ e ∈ es, e.length ≤ 16000000) (hn : es.length ≤ 4000000) (hy : Ints w y zs) (hzl : zs.length ≤ 4000000) (hzb : ∀ z ∈ zs, -9223372036854775808 ≤ z) (hi : 0 ≤ i ∧ i < (es.length : Int)) :
    Calls Tryd.prog 5 #[.int .i64 j, x, .int .i64 i, y] w fun e w' => e = .returned (.bool true) ∧ Fr (fun _ => False) w w' := by
  obtain ⟨xo, xc, rfl⟩ := hp.form
  obtain ⟨yo, yc, rfl⟩ := hy.form
  obtain ⟨wi, hw1, hw32, hwd⟩ := width_any j w
  have hxc : es.length ≤ xc := hC _ _ _ rfl
  have hRw := mth_wid wi hw1 hw32 _ (map_lf_len wi hw1 hw32 es)
  have hroot : ∀ w', Fr (fun _ => False) w w' → Calls Tryd.prog 17 #[.int .i64 wi, .slice xo es.length xc] w' fun e w'' => ∃ ro rc, e = .returned (.slice ro wi rc) ∧ Sl w'' (.slice ro wi rc) (mth wi (es.map (lf wi))) ∧ Fr (fun _ => False) w' w'' := fun w' hf => by
    refine (mroot_in wi hw1 hw32 _ _ es w' (hg.fr0 hf) (ht.fr0 hf) (hp.fr0 hf) hB (by omega)).mono ?_
    rintro e w'' ⟨yo, yc, rfl, hO⟩
    have hs := hO.sl (mth_lt _ _ _ (Nat.le_refl _) (fun p hp => by obtain ⟨e, _, rfl⟩ := List.mem_map.1 hp; exact lf_lt _ _))
    rw [hRw] at hs
    exact ⟨yo, yc, rfl, hs, hO.fr⟩
  have hlv := fun (w' : World) (hf : Fr (fun _ => False) w w') => mlives_any w' (hg.fr0 hf) (ht.fr0 hf)
  have hA := fun I (hI : I ≤ es.length) => tkA wi hw1 hw32 xo xc vs es I w hg ht hp hB hn hI
  have hBk := fun I (hI : I < es.length) => tkB wi hw1 hw32 xo xc vs es I w hg ht hp hB hn hI
  have hCy := fun hri => tkC wi hw1 hw32 xo xc vs es yo yc zs w hg ht hp hB hn hy hzl hri
  have hCn : rsF es.length 0 zs = false → ∀ w', Fr (fun _ => False) w w' → Calls Tryd.prog 25 #[.int .i64 wi, .slice xo es.length xc, .slice yo zs.length yc] w' fun e w'' => e = .returned (.tuple #[.slice none 0 0, .int .i64 1]) ∧ Fr (fun _ => False) w' w'' := fun h w' hf => mmany_no wi _ _ vs es zs w' (hg.fr0 hf) (hp.fr0 hf) hB (by omega) (hy.fr0 hf) (by omega) hzb (.inr h)
  generalize mth wi (es.map (lf wi)) = R at *
  have HC := hide (And.intro hwd (And.intro hroot (And.intro hlv (And.intro hA (And.intro hBk (And.intro hCy hCn))))))
  have HZl := hide hzl
  clear hwd hroot hlv hA hBk hCy hCn hg ht hp hC hB hn hy hzl hzb hRw hw1 hw32
  generalize hN : es.length = N at *
  generalize hZ : zs.length = Z at *
  go_enter Tryd.func5, Tryd.ntmps5
  go_wp2_with fail
  refine (unhide HC).1.mono ?_
  rintro e w0 ⟨rfl, rfl⟩
  go_wp2_with fail
  refine ((unhide HC).2.1 _ (Fr.refl _ _)).mono ?_
  rintro e w1 ⟨ro, rc, rfl, hR, hF1⟩
  have H1 := hide (And.intro hF1 hR)
  clear hF1 hR
  go_wp2_with fail
  refine ((unhide HC).2.2.1 _ (unhide H1).1).mono ?_
  rintro e w2 ⟨rfl, hF2⟩
  have H2 := hide (And.intro ((unhide H1).1.trans hF2 (fun _ _ h => h)) ((unhide H1).2.fr0 hF2))
  clear hF2 H1
  obtain ⟨I, rfl⟩ : ∃ I : Nat, i = (I : Int) := ⟨i.toNat, by omega⟩
  have hI : I ≤ N := by omega
  have hI2 : I < N := by omega
  clear hi
  obtain ⟨PN, hTA⟩ := (unhide HC).2.2.2.1 I hI
  generalize hOO : mth wi ((es.map (lf wi)).take I) = OO at *
  generalize hPQ : prf wi (es.map (lf wi)) es.length I = PQ at *
  have HA := hide hTA
  clear hTA
  have qI0 : (0 : Int) ≤ (I : Int) := by omega
  have qIN : (I : Int) ≤ (N : Int) := by omega
  have qIx : (I : Int) ≤ (xc : Int) := by omega
  go_wp2_with fail
  refine ((unhide HA).prf _ (unhide H2).1).mono ?_
  rintro e w3 ⟨ao, cp, pvs, rfl, hP, hCp, hF3⟩
  have H3 := hide (And.intro ((unhide H2).1.trans hF3 (fun _ _ h => h)) (And.intro ((unhide H2).2.fr0 hF3) (And.intro hP hCp)))
  clear hP hCp hF3 H2
  go_wp2_with fail
  refine ((unhide HA).old _ (unhide H3).1).mono ?_
  rintro e w4 ⟨oo, oc, rfl, hO, hF4⟩
  have H4 := hide (And.intro ((unhide H3).1.trans hF4 (fun _ _ h => h)) (And.intro ((unhide H3).2.1.fr0 hF4) (And.intro ((unhide H3).2.2.1.fr0 hF4) (And.intro (unhide H3).2.2.2 hO))))
  clear hO hF4 H3
  go_wp2_with fail
  refine ((unhide HA).yes _ _ _ _ _ (unhide H4).1 (unhide H4).2.2.2.2 (unhide H4).2.1 (unhide H4).2.2.1 (unhide H4).2.2.2.1).mono ?_
  rintro e w5 ⟨rfl, hF5⟩
  have H5 := hide (And.intro ((unhide H4).1.trans hF5 (fun _ _ h => h)) (And.intro ((unhide H4).2.1.fr0 hF5) (And.intro ((unhide H4).2.2.1.fr0 hF5) ((unhide H4).2.2.2.2.fr0 hF5))))
  clear hF5 H4
  obtain ⟨a1, c1, w6, hr1, a2, c2, w7, hr2, hPm, hCm, hFm⟩ := app_more (unhide H5).2.2.1 (unhide HA).len (unhide HA).lt (unhide H5).2.1
  have HR1 := hide hr1
  have HR2 := hide hr2
  have H7 := hide (And.intro ((unhide H5).1.trans hFm (fun _ _ h => h)) (And.intro ((unhide H5).2.1.fr0 hFm) (And.intro hPm (And.intro hCm ((unhide H5).2.2.2.fr0 hFm)))))
  clear hr1 hr2 hPm hCm hFm
  go_wp2_with (at_builtin; first | refine wpList_appG rfl _ _ 22 22 rfl _ _ _ rfl rfl (unhide HR1) ?_ | refine wpList_appG rfl _ _ 22 22 rfl _ _ _ rfl rfl (unhide HR2) ?_)
  refine ((unhide HA).no _ _ _ _ _ (unhide H7).1 (unhide H7).2.2.2.2 (unhide H7).2.1 (unhide H7).2.2.1 (unhide H7).2.2.2.1).mono ?_
  rintro e w8 ⟨rfl, hF8⟩
  have H8 := hide (And.intro ((unhide H7).1.trans hF8 (fun _ _ h => h)) ((unhide H7).2.1.fr0 hF8))
  clear hF8 H7 H5 HR1 HR2 HA
  obtain ⟨PN2, FF, QQ, MM, hTB⟩ := (unhide HC).2.2.2.2.1 I hI2
  obtain ⟨g, o, rfl, vo, vn, vc, hlf⟩ := hTB.leaf
  have HB := hide (And.intro hTB hlf)
  clear hTB hlf
  have qIN2 : (I : Int) < (N : Int) := by omega
  go_wp2_with fail
  refine ((unhide HB).1.pth _ (unhide H8).1).mono ?_
  rintro e w9 ⟨bo, bc, bvs, rfl, hP, hCp, hF9⟩
  have hcl := ((unhide HB).2 w9 ((unhide H8).1.trans hF9 (fun _ _ h => h))).1
  have H9 := hide (And.intro ((unhide H8).1.trans hF9 (fun _ _ h => h)) (And.intro ((unhide H8).2.fr0 hF9) (And.intro hP hCp)))
  clear hP hCp hF9 H8
  go_wp2_with fail
  refine ((unhide HB).2 w9 (unhide H9).1).2.mono ?_
  rintro e w10 ⟨fo, fc, rfl, hS, hF10⟩
  have H10 := hide (And.intro ((unhide H9).1.trans hF10 (fun _ _ h => h)) (And.intro ((unhide H9).2.1.fr0 hF10) (And.intro ((unhide H9).2.2.1.fr0 hF10) (And.intro (unhide H9).2.2.2 hS))))
  clear hS hF10 H9 hcl
  go_wp2_with fail
  refine ((unhide HB).1.yes _ _ _ _ _ (unhide H10).1 (unhide H10).2.2.2.2 (unhide H10).2.1 (unhide H10).2.2.1 (unhide H10).2.2.2.1).mono ?_
  rintro e w11 ⟨rfl, hF11⟩
  have H11 := hide (And.intro ((unhide H10).1.trans hF11 (fun _ _ h => h)) (And.intro ((unhide H10).2.1.fr0 hF11) (And.intro ((unhide H10).2.2.1.fr0 hF11) (And.intro (unhide H10).2.2.2.1 ((unhide H10).2.2.2.2.fr0 hF11)))))
  clear hF11 H10
  obtain ⟨a1, c1, w12, hr1, a2, c2, w13, hr2, hPm, hCm, hFm⟩ := app_more (unhide H11).2.2.1 (unhide HB).1.len (unhide HB).1.lt (unhide H11).2.1
  have HR1 := hide hr1
  have HR2 := hide hr2
  have H13 := hide (And.intro ((unhide H11).1.trans hFm (fun _ _ h => h)) (And.intro ((unhide H11).2.1.fr0 hFm) (And.intro hPm (And.intro hCm ((unhide H11).2.2.2.2.fr0 hFm)))))
  clear hr1 hr2 hPm hCm hFm
  go_wp2_with (at_builtin; first | refine wpList_appG rfl _ _ 22 22 rfl _ _ _ rfl rfl (unhide HR1) ?_ | refine wpList_appG rfl _ _ 22 22 rfl _ _ _ rfl rfl (unhide HR2) ?_)
  refine ((unhide HB).1.no _ _ _ _ _ (unhide H13).1 (unhide H13).2.2.2.2 (unhide H13).2.1 (unhide H13).2.2.1 (unhide H13).2.2.2.1).mono ?_
  rintro e w14 ⟨rfl, hF14⟩
  have H14 := hide (And.intro ((unhide H13).1.trans hF14 (fun _ _ h => h)) (And.intro ((unhide H13).2.1.fr0 hF14) ((unhide H13).2.2.2.2.fr0 hF14)))
  clear hF14 H13 H11 HR1 HR2
  go_wp2_with fail
  refine ((unhide HB).1.many _ _ (unhide H14).1 rfl).mono ?_
  rintro e w15 ⟨mo, mc, mvs, rfl, hM, hCm, hF15⟩
  have H15 := hide (And.intro ((unhide H14).1.trans hF15 (fun _ _ h => h)) (And.intro ((unhide H14).2.1.fr0 hF15) (And.intro hM (And.intro hCm ((unhide H14).2.2.fr0 hF15)))))
  clear hM hCm hF15 H14
  go_wp2_with fail
  refine ((unhide HB).1.took _ _ _ _ _ _ _ (unhide H15).1 (unhide H15).2.2.2.2 (unhide H15).2.1 (unhide H15).2.2.1 (unhide H15).2.2.2.1 rfl).mono ?_
  rintro e wz ⟨rfl, hF16⟩
  have HZ' := hide (And.intro ((unhide H15).1.trans hF16 (fun _ _ h => h)) ((unhide H15).2.1.fr0 hF16))
  clear hF16 H15 HB
  cases hri : rsF N 0 zs with
  | false =>
    go_wp2_with fail
    refine ((unhide HC).2.2.2.2.2.2 hri _ (unhide HZ').1).mono ?_
    rintro e wa ⟨rfl, hFa⟩
    have Ha := hide ((unhide HZ').1.trans hFa (fun _ _ h => h))
    clear hFa
    go_wp2_with fail
    go_ret
    exact ⟨rfl, unhide Ha⟩
  | true =>
    obtain ⟨MN, hTC⟩ := (unhide HC).2.2.2.2.2.1 hri
    generalize mny wi (es.map (lf wi)) 0 es.length zs = MQ at *
    have HT := hide hTC
    clear hTC
    go_wp2_with fail
    refine ((unhide HT).many _ (unhide HZ').1).mono ?_
    rintro e wa ⟨mo, mc, mvs, rfl, hM, hCm, hFa⟩
    have Ha := hide (And.intro ((unhide HZ').1.trans hFa (fun _ _ h => h)) (And.intro ((unhide HZ').2.fr0 hFa) (And.intro hM hCm)))
    clear hM hCm hFa
    go_wp2_with fail
    go_loopw [20, 21] (fun lv iv wr => ∃ (k : Nat) (lo : Option Addr) (lc : Nat) (us : List Value), k ≤ Z ∧ iv = .int .i64 (k : Nat) ∧ lv = .slice lo k lc ∧ us.length = k ∧ OL wa wr lo lc us ((zs.take k).map fun z => lf wi (es.getD z.toNat []))) (fun _ iv _ => Z - (intOf iv).toNat)
    case atStart => exact ⟨0, none, 0, [], Nat.zero_le _, rfl, rfl, rfl, OL.nil wa⟩
    case round =>
      obtain ⟨k, lo, lc, us, hk, rfl, rfl, hus, hI⟩ := hrel
      have hZ8 := unhide HZl
      by_cases hlt : k < Z
      · have hlt' : (k : Int) < (Z : Int) := by omega
        have hFr := (unhide Ha).1.trans hI.own.fr (fun _ _ h => h)
        obtain ⟨g1, o1, rfl, p, hpN, hzk, h1, q1, hx1, vo, vn, vc, hone⟩ := (unhide HT).one k hlt
        cases hx1
        obtain ⟨c1, c2, hcl⟩ := hone wr hFr
        have hpN' : (p : Int) < (N : Int) := by omega
        have hp0 : (0 : Int) ≤ (p : Int) := by omega
        have htk : (zs.take (k + 1)).map (fun z => lf wi (es.getD z.toNat [])) = (zs.take k).map (fun z => lf wi (es.getD z.toNat [])) ++ [lf wi (es.getD p [])] := by
          rw [List.take_add_one, hzk, Option.toList_some, List.map_append]; rfl
        have hlw := (unhide HT).lfw p
        generalize lf wi (es.getD p []) = LP at *
        have HI := hide (And.intro hI (And.intro hcl (And.intro htk hlw)))
        clear hI hcl htk hlw hone hFr hzk
        have w1 : IntKind.i64.wrap ((k : Int) + 1) = (k : Int) + 1 := by rw [IntKind.wrap_i64]; omega
        go_wp2_with fail
        refine (unhide HI).2.1.mono ?_
        rintro e' wb ⟨yo', yc', rfl, hO⟩
        obtain ⟨ao', cp', wd, hr2, hL2⟩ := (unhide HI).1.stepW LP wi (unhide HI).2.2.2.1 yo' yc' hO (unhide HI).2.2.2.2 (by omega)
        rw [← (unhide HI).2.2.1] at hL2
        rw [hus] at hr2
        have HL := hide (And.intro hL2 hr2)
        clear hL2 hr2 hO
        go_wp2_with (at_builtin; refine wpList_app rfl _ _ 22 22 rfl _ _ _ rfl rfl (unhide HL).2 ?_)
        exact ⟨⟨k + 1, ao', cp', _, by omega, by go_num, rfl, by rw [List.length_append, hus]; rfl, (unhide HL).1⟩, by simp [intOf]; omega⟩
      · have hkZ : k = Z := by omega
        have hlt' : ¬ (k : Int) < (Z : Int) := by omega
        subst hkZ
        have htk : zs.take k = zs := List.take_of_length_le (by omega)
        rw [htk] at hI
        have hpc := hI.pcs
        have hcp := hI.cap
        rw [hus] at hpc hcp
        have hFr := (unhide Ha).1.trans hI.own.fr (fun _ _ h => h)
        have H6 := hide (And.intro hFr (And.intro ((unhide Ha).2.1.fr0 hI.own.fr) (And.intro ((unhide Ha).2.2.1.fr0 hI.own.fr) (And.intro (unhide Ha).2.2.2 (And.intro hpc (show Cp (.slice lo k lc) from fun _ _ _ e => by cases e; exact hcp))))))
        clear hI hpc hcp hFr htk
        go_wp2_with fail
        refine ((unhide HT).yes _ _ _ _ _ _ (unhide H6).1 (unhide H6).2.1 (unhide H6).2.2.1 (unhide H6).2.2.2.1 (unhide H6).2.2.2.2.1 (unhide H6).2.2.2.2.2).mono ?_
        rintro e wd ⟨rfl, hFd⟩
        have H7 := hide (And.intro ((unhide H6).1.trans hFd (fun _ _ h => h)) (And.intro ((unhide H6).2.1.fr0 hFd) (And.intro ((unhide H6).2.2.1.fr0 hFd) ((unhide H6).2.2.2.2.1.fr0 hFd))))
        clear hFd
        obtain ⟨a1, c1, w12, hr1, a2, c2, w13, hr2, hPm, hCm, hFm⟩ := app_more (unhide H7).2.2.1 (unhide HT).len (unhide HT).lt (unhide H7).2.1
        have HR1 := hide hr1
        have HR2 := hide hr2
        have H8' := hide (And.intro ((unhide H7).1.trans hFm (fun _ _ h => h)) (And.intro ((unhide H7).2.1.fr0 hFm) (And.intro hPm (And.intro hCm ((unhide H7).2.2.2.fr0 hFm)))))
        clear hr1 hr2 hPm hCm hFm
        go_wp2_with (at_builtin; first | refine wpList_appG rfl _ _ 22 22 rfl _ _ _ rfl rfl (unhide HR1) ?_ | refine wpList_appG rfl _ _ 22 22 rfl _ _ _ rfl rfl (unhide HR2) ?_)
        refine ((unhide HT).no _ _ _ _ _ _ (unhide H8').1 (unhide H8').2.1 (unhide H8').2.2.1 (unhide H8').2.2.2.1 (unhide H8').2.2.2.2 (unhide H6).2.2.2.2.2).mono ?_
        rintro e we ⟨rfl, hFe⟩
        have H9' := hide ((unhide H8').1.trans hFe (fun _ _ h => h))
        clear hFe
        go_wp2_with fail
        go_ret
        exact ⟨rfl, unhide H9'⟩
end Go.Proofs.YtocdnomfpgdglabDoor

namespace Go.Proofs.YtocdnomfpgdglabDoor
open Go.RowKit

set_option maxRecDepth 100000 in
set_option maxHeartbeats 8000000 in
/-- MerkleTaken, a case. -/
theorem taken_2 (j : Int) (x : Value) (vs : List Value) (es : List (List Nat)) (i : Int) (y : Value) (zs : List Int) (w : World) (hg : GS w) (ht : GT w) (hp : Pcs w x vs es) (hC : Cp x) (hB : ∀ e ∈ es, e.length ≤ 16000000) (hn : es.length ≤ 4000000) (hy : Ints w y zs) (hzl : zs.length ≤ 4000000) (hzb : ∀ z ∈ zs, -9223372036854775808 ≤ z) (hi : i = (es.length : Int)) :
    Calls Tryd.prog 5 #[.int .i64 j, x, .int .i64 i, y] w fun e w' => e = .returned (.bool true) ∧ Fr (fun _ => False) w w' := by
  obtain ⟨xo, xc, rfl⟩ := hp.form
  obtain ⟨yo, yc, rfl⟩ := hy.form
  obtain ⟨wi, hw1, hw32, hwd⟩ := width_any j w
  have hxc : es.length ≤ xc := hC _ _ _ rfl
  have hRw := mth_wid wi hw1 hw32 _ (map_lf_len wi hw1 hw32 es)
  have hroot : ∀ w', Fr (fun _ => False) w w' → Calls Tryd.prog 17 #[.int .i64 wi, .slice xo es.length xc] w' fun e w'' => ∃ ro rc, e = .returned (.slice ro wi rc) ∧ Sl w'' (.slice ro wi rc) (mth wi (es.map (lf wi))) ∧ Fr (fun _ => False) w' w'' := fun w' hf => by
    refine (mroot_in wi hw1 hw32 _ _ es w' (hg.fr0 hf) (ht.fr0 hf) (hp.fr0 hf) hB (by omega)).mono ?_
    rintro e w'' ⟨yo, yc, rfl, hO⟩
    have hs := hO.sl (mth_lt _ _ _ (Nat.le_refl _) (fun p hp => by obtain ⟨e, _, rfl⟩ := List.mem_map.1 hp; exact lf_lt _ _))
    rw [hRw] at hs
    exact ⟨yo, yc, rfl, hs, hO.fr⟩
  have hlv := fun (w' : World) (hf : Fr (fun _ => False) w w') => mlives_any w' (hg.fr0 hf) (ht.fr0 hf)
  have hA := fun I (hI : I ≤ es.length) => tkA wi hw1 hw32 xo xc vs es I w hg ht hp hB hn hI
  have hBk := fun I (hI : I < es.length) => tkB wi hw1 hw32 xo xc vs es I w hg ht hp hB hn hI
  have hCy := fun hri => tkC wi hw1 hw32 xo xc vs es yo yc zs w hg ht hp hB hn hy hzl hri
  have hCn : rsF es.length 0 zs = false → ∀ w', Fr (fun _ => False) w w' → Calls Tryd.prog 25 #[.int .i64 wi, .slice xo es.length xc, .slice yo zs.length yc] w' fun e w'' => e = .returned (.tuple #[.slice none 0 0, .int .i64 1]) ∧ Fr (fun _ => False) w' w'' := fun h w' hf => mmany_no wi _ _ vs es zs w' (hg.fr0 hf) (hp.fr0 hf) hB (by omega) (hy.fr0 hf) (by omega) hzb (.inr h)
  generalize mth wi (es.map (lf wi)) = R at *
  have HC := hide (And.intro hwd (And.intro hroot (And.intro hlv (And.intro hA (And.intro hBk (And.intro hCy hCn))))))
  have HZl := hide hzl
  clear hwd hroot hlv hA hBk hCy hCn hg ht hp hC hB hn hy hzl hzb hRw hw1 hw32
  generalize hN : es.length = N at *
  generalize hZ : zs.length = Z at *
  go_enter Tryd.func5, Tryd.ntmps5
  go_wp2_with fail
  refine (unhide HC).1.mono ?_
  rintro e w0 ⟨rfl, rfl⟩
  go_wp2_with fail
  refine ((unhide HC).2.1 _ (Fr.refl _ _)).mono ?_
  rintro e w1 ⟨ro, rc, rfl, hR, hF1⟩
  have H1 := hide (And.intro hF1 hR)
  clear hF1 hR
  go_wp2_with fail
  refine ((unhide HC).2.2.1 _ (unhide H1).1).mono ?_
  rintro e w2 ⟨rfl, hF2⟩
  have H2 := hide (And.intro ((unhide H1).1.trans hF2 (fun _ _ h => h)) ((unhide H1).2.fr0 hF2))
  clear hF2 H1
  subst hi
  obtain ⟨PN, hTA⟩ := (unhide HC).2.2.2.1 N (Nat.le_refl N)
  generalize mth wi ((es.map (lf wi)).take N) = OO at *
  generalize prf wi (es.map (lf wi)) es.length N = PQ at *
  have HA := hide hTA
  clear hTA
  have qI0 : (0 : Int) ≤ (N : Int) := by omega
  have qIx : (N : Int) ≤ (xc : Int) := by omega
  go_wp2_with fail
  refine ((unhide HA).prf _ (unhide H2).1).mono ?_
  rintro e w3 ⟨ao, cp, pvs, rfl, hP, hCp, hF3⟩
  have H3 := hide (And.intro ((unhide H2).1.trans hF3 (fun _ _ h => h)) (And.intro ((unhide H2).2.fr0 hF3) (And.intro hP hCp)))
  clear hP hCp hF3 H2
  go_wp2_with fail
  refine ((unhide HA).old _ (unhide H3).1).mono ?_
  rintro e w4 ⟨oo, oc, rfl, hO, hF4⟩
  have H4 := hide (And.intro ((unhide H3).1.trans hF4 (fun _ _ h => h)) (And.intro ((unhide H3).2.1.fr0 hF4) (And.intro ((unhide H3).2.2.1.fr0 hF4) (And.intro (unhide H3).2.2.2 hO))))
  clear hO hF4 H3
  go_wp2_with fail
  refine ((unhide HA).yes _ _ _ _ _ (unhide H4).1 (unhide H4).2.2.2.2 (unhide H4).2.1 (unhide H4).2.2.1 (unhide H4).2.2.2.1).mono ?_
  rintro e w5 ⟨rfl, hF5⟩
  have H5 := hide (And.intro ((unhide H4).1.trans hF5 (fun _ _ h => h)) (And.intro ((unhide H4).2.1.fr0 hF5) (And.intro ((unhide H4).2.2.1.fr0 hF5) ((unhide H4).2.2.2.2.fr0 hF5))))
  clear hF5 H4
  obtain ⟨a1, c1, w6, hr1, a2, c2, w7, hr2, hPm, hCm, hFm⟩ := app_more (unhide H5).2.2.1 (unhide HA).len (unhide HA).lt (unhide H5).2.1
  have HR1 := hide hr1
  have HR2 := hide hr2
  have H7 := hide (And.intro ((unhide H5).1.trans hFm (fun _ _ h => h)) (And.intro ((unhide H5).2.1.fr0 hFm) (And.intro hPm (And.intro hCm ((unhide H5).2.2.2.fr0 hFm)))))
  clear hr1 hr2 hPm hCm hFm
  go_wp2_with (at_builtin; first | refine wpList_appG rfl _ _ 22 22 rfl _ _ _ rfl rfl (unhide HR1) ?_ | refine wpList_appG rfl _ _ 22 22 rfl _ _ _ rfl rfl (unhide HR2) ?_)
  refine ((unhide HA).no _ _ _ _ _ (unhide H7).1 (unhide H7).2.2.2.2 (unhide H7).2.1 (unhide H7).2.2.1 (unhide H7).2.2.2.1).mono ?_
  rintro e w8 ⟨rfl, hF8⟩
  have H8 := hide (And.intro ((unhide H7).1.trans hF8 (fun _ _ h => h)) ((unhide H7).2.1.fr0 hF8))
  clear hF8 H7 H5 HR1 HR2 HA
  have HZ' := H8
  cases hri : rsF N 0 zs with
  | false =>
    go_wp2_with fail
    refine ((unhide HC).2.2.2.2.2.2 hri _ (unhide HZ').1).mono ?_
    rintro e wa ⟨rfl, hFa⟩
    have Ha := hide ((unhide HZ').1.trans hFa (fun _ _ h => h))
    clear hFa
    go_wp2_with fail
    go_ret
    exact ⟨rfl, unhide Ha⟩
  | true =>
    obtain ⟨MN, hTC⟩ := (unhide HC).2.2.2.2.2.1 hri
    generalize mny wi (es.map (lf wi)) 0 es.length zs = MQ at *
    have HT := hide hTC
    clear hTC
    go_wp2_with fail
    refine ((unhide HT).many _ (unhide HZ').1).mono ?_
    rintro e wa ⟨mo, mc, mvs, rfl, hM, hCm, hFa⟩
    have Ha := hide (And.intro ((unhide HZ').1.trans hFa (fun _ _ h => h)) (And.intro ((unhide HZ').2.fr0 hFa) (And.intro hM hCm)))
    clear hM hCm hFa
    go_wp2_with fail
    go_loopw [20, 21] (fun lv iv wr => ∃ (k : Nat) (lo : Option Addr) (lc : Nat) (us : List Value), k ≤ Z ∧ iv = .int .i64 (k : Nat) ∧ lv = .slice lo k lc ∧ us.length = k ∧ OL wa wr lo lc us ((zs.take k).map fun z => lf wi (es.getD z.toNat []))) (fun _ iv _ => Z - (intOf iv).toNat)
    case atStart => exact ⟨0, none, 0, [], Nat.zero_le _, rfl, rfl, rfl, OL.nil wa⟩
    case round =>
      obtain ⟨k, lo, lc, us, hk, rfl, rfl, hus, hI⟩ := hrel
      have hZ8 := unhide HZl
      by_cases hlt : k < Z
      · have hlt' : (k : Int) < (Z : Int) := by omega
        have hFr := (unhide Ha).1.trans hI.own.fr (fun _ _ h => h)
        obtain ⟨g1, o1, rfl, p, hpN, hzk, h1, q1, hx1, vo, vn, vc, hone⟩ := (unhide HT).one k hlt
        cases hx1
        obtain ⟨c1, c2, hcl⟩ := hone wr hFr
        have hpN' : (p : Int) < (N : Int) := by omega
        have hp0 : (0 : Int) ≤ (p : Int) := by omega
        have htk : (zs.take (k + 1)).map (fun z => lf wi (es.getD z.toNat [])) = (zs.take k).map (fun z => lf wi (es.getD z.toNat [])) ++ [lf wi (es.getD p [])] := by
          rw [List.take_add_one, hzk, Option.toList_some, List.map_append]; rfl
        have hlw := (unhide HT).lfw p
        generalize lf wi (es.getD p []) = LP at *
        have HI := hide (And.intro hI (And.intro hcl (And.intro htk hlw)))
        clear hI hcl htk hlw hone hFr hzk
        have w1 : IntKind.i64.wrap ((k : Int) + 1) = (k : Int) + 1 := by rw [IntKind.wrap_i64]; omega
        go_wp2_with fail
        refine (unhide HI).2.1.mono ?_
        rintro e' wb ⟨yo', yc', rfl, hO⟩
        obtain ⟨ao', cp', wd, hr2, hL2⟩ := (unhide HI).1.stepW LP wi (unhide HI).2.2.2.1 yo' yc' hO (unhide HI).2.2.2.2 (by omega)
        rw [← (unhide HI).2.2.1] at hL2
        rw [hus] at hr2
        have HL := hide (And.intro hL2 hr2)
        clear hL2 hr2 hO
        go_wp2_with (at_builtin; refine wpList_app rfl _ _ 22 22 rfl _ _ _ rfl rfl (unhide HL).2 ?_)
        exact ⟨⟨k + 1, ao', cp', _, by omega, by go_num, rfl, by rw [List.length_append, hus]; rfl, (unhide HL).1⟩, by simp [intOf]; omega⟩
      · have hkZ : k = Z := by omega
        have hlt' : ¬ (k : Int) < (Z : Int) := by omega
        subst hkZ
        have htk : zs.take k = zs := List.take_of_length_le (by omega)
        rw [htk] at hI
        have hpc := hI.pcs
        have hcp := hI.cap
        rw [hus] at hpc hcp
        have hFr := (unhide Ha).1.trans hI.own.fr (fun _ _ h => h)
        have H6 := hide (And.intro hFr (And.intro ((unhide Ha).2.1.fr0 hI.own.fr) (And.intro ((unhide Ha).2.2.1.fr0 hI.own.fr) (And.intro (unhide Ha).2.2.2 (And.intro hpc (show Cp (.slice lo k lc) from fun _ _ _ e => by cases e; exact hcp))))))
        clear hI hpc hcp hFr htk
        go_wp2_with fail
        refine ((unhide HT).yes _ _ _ _ _ _ (unhide H6).1 (unhide H6).2.1 (unhide H6).2.2.1 (unhide H6).2.2.2.1 (unhide H6).2.2.2.2.1 (unhide H6).2.2.2.2.2).mono ?_
        rintro e wd ⟨rfl, hFd⟩
        have H7 := hide (And.intro ((unhide H6).1.trans hFd (fun _ _ h => h)) (And.intro ((unhide H6).2.1.fr0 hFd) (And.intro ((unhide H6).2.2.1.fr0 hFd) ((unhide H6).2.2.2.2.1.fr0 hFd))))
        clear hFd
        obtain ⟨a1, c1, w12, hr1, a2, c2, w13, hr2, hPm, hCm, hFm⟩ := app_more (unhide H7).2.2.1 (unhide HT).len (unhide HT).lt (unhide H7).2.1
        have HR1 := hide hr1
        have HR2 := hide hr2
        have H8' := hide (And.intro ((unhide H7).1.trans hFm (fun _ _ h => h)) (And.intro ((unhide H7).2.1.fr0 hFm) (And.intro hPm (And.intro hCm ((unhide H7).2.2.2.fr0 hFm)))))
        clear hr1 hr2 hPm hCm hFm
        go_wp2_with (at_builtin; first | refine wpList_appG rfl _ _ 22 22 rfl _ _ _ rfl rfl (unhide HR1) ?_ | refine wpList_appG rfl _ _ 22 22 rfl _ _ _ rfl rfl (unhide HR2) ?_)
        refine ((unhide HT).no _ _ _ _ _ _ (unhide H8').1 (unhide H8').2.1 (unhide H8').2.2.1 (unhide H8').2.2.2.1 (unhide H8').2.2.2.2 (unhide H6).2.2.2.2.2).mono ?_
        rintro e we ⟨rfl, hFe⟩
        have H9' := hide ((unhide H8').1.trans hFe (fun _ _ h => h))
        clear hFe
        go_wp2_with fail
        go_ret
        exact ⟨rfl, unhide H9'⟩
end Go.Proofs.YtocdnomfpgdglabDoor

namespace Go.Proofs.YtocdnomfpgdglabDoor
open Go.RowKit

set_option maxRecDepth 100000 in
set_option maxHeartbeats 8000000 in
/-- MerkleTaken, a case. -/
theorem taken_3 (j : Int) (x : Value) (vs : List Value) (es : List (List Nat)) (i : Int) (y : Value) (zs : List Int) (w : World) (hg : GS w) (ht : GT w) (hp : Pcs w x vs es) (hC : Cp x) (hB : ∀ e ∈ es, e.length ≤ 16000000) (hn : es.length ≤ 4000000) (hy : Ints w y zs) (hzl : zs.length ≤ 4000000) (hzb : ∀ z ∈ zs, -9223372036854775808 ≤ z) (qi0 : i < 0) :
    Calls Tryd.prog 5 #[.int .i64 j, x, .int .i64 i, y] w fun e w' => e = .returned (.bool true) ∧ Fr (fun _ => False) w w' := by
  obtain ⟨xo, xc, rfl⟩ := hp.form
  obtain ⟨yo, yc, rfl⟩ := hy.form
  obtain ⟨wi, hw1, hw32, hwd⟩ := width_any j w
  have hxc : es.length ≤ xc := hC _ _ _ rfl
  have hRw := mth_wid wi hw1 hw32 _ (map_lf_len wi hw1 hw32 es)
  have hroot : ∀ w', Fr (fun _ => False) w w' → Calls Tryd.prog 17 #[.int .i64 wi, .slice xo es.length xc] w' fun e w'' => ∃ ro rc, e = .returned (.slice ro wi rc) ∧ Sl w'' (.slice ro wi rc) (mth wi (es.map (lf wi))) ∧ Fr (fun _ => False) w' w'' := fun w' hf => by
    refine (mroot_in wi hw1 hw32 _ _ es w' (hg.fr0 hf) (ht.fr0 hf) (hp.fr0 hf) hB (by omega)).mono ?_
    rintro e w'' ⟨yo, yc, rfl, hO⟩
    have hs := hO.sl (mth_lt _ _ _ (Nat.le_refl _) (fun p hp => by obtain ⟨e, _, rfl⟩ := List.mem_map.1 hp; exact lf_lt _ _))
    rw [hRw] at hs
    exact ⟨yo, yc, rfl, hs, hO.fr⟩
  have hlv := fun (w' : World) (hf : Fr (fun _ => False) w w') => mlives_any w' (hg.fr0 hf) (ht.fr0 hf)
  have hA := fun I (hI : I ≤ es.length) => tkA wi hw1 hw32 xo xc vs es I w hg ht hp hB hn hI
  have hBk := fun I (hI : I < es.length) => tkB wi hw1 hw32 xo xc vs es I w hg ht hp hB hn hI
  have hCy := fun hri => tkC wi hw1 hw32 xo xc vs es yo yc zs w hg ht hp hB hn hy hzl hri
  have hCn : rsF es.length 0 zs = false → ∀ w', Fr (fun _ => False) w w' → Calls Tryd.prog 25 #[.int .i64 wi, .slice xo es.length xc, .slice yo zs.length yc] w' fun e w'' => e = .returned (.tuple #[.slice none 0 0, .int .i64 1]) ∧ Fr (fun _ => False) w' w'' := fun h w' hf => mmany_no wi _ _ vs es zs w' (hg.fr0 hf) (hp.fr0 hf) hB (by omega) (hy.fr0 hf) (by omega) hzb (.inr h)
  generalize mth wi (es.map (lf wi)) = R at *
  have HC := hide (And.intro hwd (And.intro hroot (And.intro hlv (And.intro hA (And.intro hBk (And.intro hCy hCn))))))
  have HZl := hide hzl
  clear hwd hroot hlv hA hBk hCy hCn hg ht hp hC hB hn hy hzl hzb hRw hw1 hw32
  generalize hN : es.length = N at *
  generalize hZ : zs.length = Z at *
  go_enter Tryd.func5, Tryd.ntmps5
  go_wp2_with fail
  refine (unhide HC).1.mono ?_
  rintro e w0 ⟨rfl, rfl⟩
  go_wp2_with fail
  refine ((unhide HC).2.1 _ (Fr.refl _ _)).mono ?_
  rintro e w1 ⟨ro, rc, rfl, hR, hF1⟩
  have H1 := hide (And.intro hF1 hR)
  clear hF1 hR
  go_wp2_with fail
  refine ((unhide HC).2.2.1 _ (unhide H1).1).mono ?_
  rintro e w2 ⟨rfl, hF2⟩
  have H2 := hide (And.intro ((unhide H1).1.trans hF2 (fun _ _ h => h)) ((unhide H1).2.fr0 hF2))
  clear hF2 H1
  have HZ' := H2
  have qi1 : ¬ 0 ≤ i := by omega
  cases hri : rsF N 0 zs with
  | false =>
    go_wp2_with fail
    refine ((unhide HC).2.2.2.2.2.2 hri _ (unhide HZ').1).mono ?_
    rintro e wa ⟨rfl, hFa⟩
    have Ha := hide ((unhide HZ').1.trans hFa (fun _ _ h => h))
    clear hFa
    go_wp2_with fail
    go_ret
    exact ⟨rfl, unhide Ha⟩
  | true =>
    obtain ⟨MN, hTC⟩ := (unhide HC).2.2.2.2.2.1 hri
    generalize mny wi (es.map (lf wi)) 0 es.length zs = MQ at *
    have HT := hide hTC
    clear hTC
    go_wp2_with fail
    refine ((unhide HT).many _ (unhide HZ').1).mono ?_
    rintro e wa ⟨mo, mc, mvs, rfl, hM, hCm, hFa⟩
    have Ha := hide (And.intro ((unhide HZ').1.trans hFa (fun _ _ h => h)) (And.intro ((unhide HZ').2.fr0 hFa) (And.intro hM hCm)))
    clear hM hCm hFa
    go_wp2_with fail
    go_loopw [20, 21] (fun lv iv wr => ∃ (k : Nat) (lo : Option Addr) (lc : Nat) (us : List Value), k ≤ Z ∧ iv = .int .i64 (k : Nat) ∧ lv = .slice lo k lc ∧ us.length = k ∧ OL wa wr lo lc us ((zs.take k).map fun z => lf wi (es.getD z.toNat []))) (fun _ iv _ => Z - (intOf iv).toNat)
    case atStart => exact ⟨0, none, 0, [], Nat.zero_le _, rfl, rfl, rfl, OL.nil wa⟩
    case round =>
      obtain ⟨k, lo, lc, us, hk, rfl, rfl, hus, hI⟩ := hrel
      have hZ8 := unhide HZl
      by_cases hlt : k < Z
      · have hlt' : (k : Int) < (Z : Int) := by omega
        have hFr := (unhide Ha).1.trans hI.own.fr (fun _ _ h => h)
        obtain ⟨g1, o1, rfl, p, hpN, hzk, h1, q1, hx1, vo, vn, vc, hone⟩ := (unhide HT).one k hlt
        cases hx1
        obtain ⟨c1, c2, hcl⟩ := hone wr hFr
        have hpN' : (p : Int) < (N : Int) := by omega
        have hp0 : (0 : Int) ≤ (p : Int) := by omega
        have htk : (zs.take (k + 1)).map (fun z => lf wi (es.getD z.toNat [])) = (zs.take k).map (fun z => lf wi (es.getD z.toNat [])) ++ [lf wi (es.getD p [])] := by
          rw [List.take_add_one, hzk, Option.toList_some, List.map_append]; rfl
        have hlw := (unhide HT).lfw p
        generalize lf wi (es.getD p []) = LP at *
        have HI := hide (And.intro hI (And.intro hcl (And.intro htk hlw)))
        clear hI hcl htk hlw hone hFr hzk
        have w1 : IntKind.i64.wrap ((k : Int) + 1) = (k : Int) + 1 := by rw [IntKind.wrap_i64]; omega
        go_wp2_with fail
        refine (unhide HI).2.1.mono ?_
        rintro e' wb ⟨yo', yc', rfl, hO⟩
        obtain ⟨ao', cp', wd, hr2, hL2⟩ := (unhide HI).1.stepW LP wi (unhide HI).2.2.2.1 yo' yc' hO (unhide HI).2.2.2.2 (by omega)
        rw [← (unhide HI).2.2.1] at hL2
        rw [hus] at hr2
        have HL := hide (And.intro hL2 hr2)
        clear hL2 hr2 hO
        go_wp2_with (at_builtin; refine wpList_app rfl _ _ 22 22 rfl _ _ _ rfl rfl (unhide HL).2 ?_)
        exact ⟨⟨k + 1, ao', cp', _, by omega, by go_num, rfl, by rw [List.length_append, hus]; rfl, (unhide HL).1⟩, by simp [intOf]; omega⟩
      · have hkZ : k = Z := by omega
        have hlt' : ¬ (k : Int) < (Z : Int) := by omega
        subst hkZ
        have htk : zs.take k = zs := List.take_of_length_le (by omega)
        rw [htk] at hI
        have hpc := hI.pcs
        have hcp := hI.cap
        rw [hus] at hpc hcp
        have hFr := (unhide Ha).1.trans hI.own.fr (fun _ _ h => h)
        have H6 := hide (And.intro hFr (And.intro ((unhide Ha).2.1.fr0 hI.own.fr) (And.intro ((unhide Ha).2.2.1.fr0 hI.own.fr) (And.intro (unhide Ha).2.2.2 (And.intro hpc (show Cp (.slice lo k lc) from fun _ _ _ e => by cases e; exact hcp))))))
        clear hI hpc hcp hFr htk
        go_wp2_with fail
        refine ((unhide HT).yes _ _ _ _ _ _ (unhide H6).1 (unhide H6).2.1 (unhide H6).2.2.1 (unhide H6).2.2.2.1 (unhide H6).2.2.2.2.1 (unhide H6).2.2.2.2.2).mono ?_
        rintro e wd ⟨rfl, hFd⟩
        have H7 := hide (And.intro ((unhide H6).1.trans hFd (fun _ _ h => h)) (And.intro ((unhide H6).2.1.fr0 hFd) (And.intro ((unhide H6).2.2.1.fr0 hFd) ((unhide H6).2.2.2.2.1.fr0 hFd))))
        clear hFd
        obtain ⟨a1, c1, w12, hr1, a2, c2, w13, hr2, hPm, hCm, hFm⟩ := app_more (unhide H7).2.2.1 (unhide HT).len (unhide HT).lt (unhide H7).2.1
        have HR1 := hide hr1
        have HR2 := hide hr2
        have H8' := hide (And.intro ((unhide H7).1.trans hFm (fun _ _ h => h)) (And.intro ((unhide H7).2.1.fr0 hFm) (And.intro hPm (And.intro hCm ((unhide H7).2.2.2.fr0 hFm)))))
        clear hr1 hr2 hPm hCm hFm
        go_wp2_with (at_builtin; first | refine wpList_appG rfl _ _ 22 22 rfl _ _ _ rfl rfl (unhide HR1) ?_ | refine wpList_appG rfl _ _ 22 22 rfl _ _ _ rfl rfl (unhide HR2) ?_)
        refine ((unhide HT).no _ _ _ _ _ _ (unhide H8').1 (unhide H8').2.1 (unhide H8').2.2.1 (unhide H8').2.2.2.1 (unhide H8').2.2.2.2 (unhide H6).2.2.2.2.2).mono ?_
        rintro e we ⟨rfl, hFe⟩
        have H9' := hide ((unhide H8').1.trans hFe (fun _ _ h => h))
        clear hFe
        go_wp2_with fail
        go_ret
        exact ⟨rfl, unhide H9'⟩
end Go.Proofs.YtocdnomfpgdglabDoor

namespace Go.Proofs.YtocdnomfpgdglabDoor
open Go.RowKit

set_option maxRecDepth 100000 in
set_option maxHeartbeats 8000000 in
/-- MerkleTaken, a case. -/
theorem taken_4 (j : Int) (x : Value) (vs : List Value) (es : List (List Nat)) (i : Int) (y : Value) (zs : List Int) (w : World) (hg : GS w) (ht : GT w) (hp : Pcs w x vs es) (hC : Cp x) (hB : ∀ e ∈ es, e.length ≤ 16000000) (hn : es.length ≤ 4000000) (hy : Ints w y zs) (hzl : zs.length ≤ 4000000) (hzb : ∀ z ∈ zs, -9223372036854775808 ≤ z) (qi0 : (es.length : Int) < i) :
    Calls Tryd.prog 5 #[.int .i64 j, x, .int .i64 i, y] w fun e w' => e = .returned (.bool true) ∧ Fr (fun _ => False) w w' := by
  obtain ⟨xo, xc, rfl⟩ := hp.form
  obtain ⟨yo, yc, rfl⟩ := hy.form
  obtain ⟨wi, hw1, hw32, hwd⟩ := width_any j w
  have hxc : es.length ≤ xc := hC _ _ _ rfl
  have hRw := mth_wid wi hw1 hw32 _ (map_lf_len wi hw1 hw32 es)
  have hroot : ∀ w', Fr (fun _ => False) w w' → Calls Tryd.prog 17 #[.int .i64 wi, .slice xo es.length xc] w' fun e w'' => ∃ ro rc, e = .returned (.slice ro wi rc) ∧ Sl w'' (.slice ro wi rc) (mth wi (es.map (lf wi))) ∧ Fr (fun _ => False) w' w'' := fun w' hf => by
    refine (mroot_in wi hw1 hw32 _ _ es w' (hg.fr0 hf) (ht.fr0 hf) (hp.fr0 hf) hB (by omega)).mono ?_
    rintro e w'' ⟨yo, yc, rfl, hO⟩
    have hs := hO.sl (mth_lt _ _ _ (Nat.le_refl _) (fun p hp => by obtain ⟨e, _, rfl⟩ := List.mem_map.1 hp; exact lf_lt _ _))
    rw [hRw] at hs
    exact ⟨yo, yc, rfl, hs, hO.fr⟩
  have hlv := fun (w' : World) (hf : Fr (fun _ => False) w w') => mlives_any w' (hg.fr0 hf) (ht.fr0 hf)
  have hA := fun I (hI : I ≤ es.length) => tkA wi hw1 hw32 xo xc vs es I w hg ht hp hB hn hI
  have hBk := fun I (hI : I < es.length) => tkB wi hw1 hw32 xo xc vs es I w hg ht hp hB hn hI
  have hCy := fun hri => tkC wi hw1 hw32 xo xc vs es yo yc zs w hg ht hp hB hn hy hzl hri
  have hCn : rsF es.length 0 zs = false → ∀ w', Fr (fun _ => False) w w' → Calls Tryd.prog 25 #[.int .i64 wi, .slice xo es.length xc, .slice yo zs.length yc] w' fun e w'' => e = .returned (.tuple #[.slice none 0 0, .int .i64 1]) ∧ Fr (fun _ => False) w' w'' := fun h w' hf => mmany_no wi _ _ vs es zs w' (hg.fr0 hf) (hp.fr0 hf) hB (by omega) (hy.fr0 hf) (by omega) hzb (.inr h)
  generalize mth wi (es.map (lf wi)) = R at *
  have HC := hide (And.intro hwd (And.intro hroot (And.intro hlv (And.intro hA (And.intro hBk (And.intro hCy hCn))))))
  have HZl := hide hzl
  clear hwd hroot hlv hA hBk hCy hCn hg ht hp hC hB hn hy hzl hzb hRw hw1 hw32
  generalize hN : es.length = N at *
  generalize hZ : zs.length = Z at *
  go_enter Tryd.func5, Tryd.ntmps5
  go_wp2_with fail
  refine (unhide HC).1.mono ?_
  rintro e w0 ⟨rfl, rfl⟩
  go_wp2_with fail
  refine ((unhide HC).2.1 _ (Fr.refl _ _)).mono ?_
  rintro e w1 ⟨ro, rc, rfl, hR, hF1⟩
  have H1 := hide (And.intro hF1 hR)
  clear hF1 hR
  go_wp2_with fail
  refine ((unhide HC).2.2.1 _ (unhide H1).1).mono ?_
  rintro e w2 ⟨rfl, hF2⟩
  have H2 := hide (And.intro ((unhide H1).1.trans hF2 (fun _ _ h => h)) ((unhide H1).2.fr0 hF2))
  clear hF2 H1
  have HZ' := H2
  have qi1 : 0 ≤ i := by omega
  have qi2 : ¬ i ≤ (N : Int) := by omega
  have qi3 : ¬ i < (N : Int) := by omega
  cases hri : rsF N 0 zs with
  | false =>
    go_wp2_with fail
    refine ((unhide HC).2.2.2.2.2.2 hri _ (unhide HZ').1).mono ?_
    rintro e wa ⟨rfl, hFa⟩
    have Ha := hide ((unhide HZ').1.trans hFa (fun _ _ h => h))
    clear hFa
    go_wp2_with fail
    go_ret
    exact ⟨rfl, unhide Ha⟩
  | true =>
    obtain ⟨MN, hTC⟩ := (unhide HC).2.2.2.2.2.1 hri
    generalize mny wi (es.map (lf wi)) 0 es.length zs = MQ at *
    have HT := hide hTC
    clear hTC
    go_wp2_with fail
    refine ((unhide HT).many _ (unhide HZ').1).mono ?_
    rintro e wa ⟨mo, mc, mvs, rfl, hM, hCm, hFa⟩
    have Ha := hide (And.intro ((unhide HZ').1.trans hFa (fun _ _ h => h)) (And.intro ((unhide HZ').2.fr0 hFa) (And.intro hM hCm)))
    clear hM hCm hFa
    go_wp2_with fail
    go_loopw [20, 21] (fun lv iv wr => ∃ (k : Nat) (lo : Option Addr) (lc : Nat) (us : List Value), k ≤ Z ∧ iv = .int .i64 (k : Nat) ∧ lv = .slice lo k lc ∧ us.length = k ∧ OL wa wr lo lc us ((zs.take k).map fun z => lf wi (es.getD z.toNat []))) (fun _ iv _ => Z - (intOf iv).toNat)
    case atStart => exact ⟨0, none, 0, [], Nat.zero_le _, rfl, rfl, rfl, OL.nil wa⟩
    case round =>
      obtain ⟨k, lo, lc, us, hk, rfl, rfl, hus, hI⟩ := hrel
      have hZ8 := unhide HZl
      by_cases hlt : k < Z
      · have hlt' : (k : Int) < (Z : Int) := by omega
        have hFr := (unhide Ha).1.trans hI.own.fr (fun _ _ h => h)
        obtain ⟨g1, o1, rfl, p, hpN, hzk, h1, q1, hx1, vo, vn, vc, hone⟩ := (unhide HT).one k hlt
        cases hx1
        obtain ⟨c1, c2, hcl⟩ := hone wr hFr
        have hpN' : (p : Int) < (N : Int) := by omega
        have hp0 : (0 : Int) ≤ (p : Int) := by omega
        have htk : (zs.take (k + 1)).map (fun z => lf wi (es.getD z.toNat [])) = (zs.take k).map (fun z => lf wi (es.getD z.toNat [])) ++ [lf wi (es.getD p [])] := by
          rw [List.take_add_one, hzk, Option.toList_some, List.map_append]; rfl
        have hlw := (unhide HT).lfw p
        generalize lf wi (es.getD p []) = LP at *
        have HI := hide (And.intro hI (And.intro hcl (And.intro htk hlw)))
        clear hI hcl htk hlw hone hFr hzk
        have w1 : IntKind.i64.wrap ((k : Int) + 1) = (k : Int) + 1 := by rw [IntKind.wrap_i64]; omega
        go_wp2_with fail
        refine (unhide HI).2.1.mono ?_
        rintro e' wb ⟨yo', yc', rfl, hO⟩
        obtain ⟨ao', cp', wd, hr2, hL2⟩ := (unhide HI).1.stepW LP wi (unhide HI).2.2.2.1 yo' yc' hO (unhide HI).2.2.2.2 (by omega)
        rw [← (unhide HI).2.2.1] at hL2
        rw [hus] at hr2
        have HL := hide (And.intro hL2 hr2)
        clear hL2 hr2 hO
        go_wp2_with (at_builtin; refine wpList_app rfl _ _ 22 22 rfl _ _ _ rfl rfl (unhide HL).2 ?_)
        exact ⟨⟨k + 1, ao', cp', _, by omega, by go_num, rfl, by rw [List.length_append, hus]; rfl, (unhide HL).1⟩, by simp [intOf]; omega⟩
      · have hkZ : k = Z := by omega
        have hlt' : ¬ (k : Int) < (Z : Int) := by omega
        subst hkZ
        have htk : zs.take k = zs := List.take_of_length_le (by omega)
        rw [htk] at hI
        have hpc := hI.pcs
        have hcp := hI.cap
        rw [hus] at hpc hcp
        have hFr := (unhide Ha).1.trans hI.own.fr (fun _ _ h => h)
        have H6 := hide (And.intro hFr (And.intro ((unhide Ha).2.1.fr0 hI.own.fr) (And.intro ((unhide Ha).2.2.1.fr0 hI.own.fr) (And.intro (unhide Ha).2.2.2 (And.intro hpc (show Cp (.slice lo k lc) from fun _ _ _ e => by cases e; exact hcp))))))
        clear hI hpc hcp hFr htk
        go_wp2_with fail
        refine ((unhide HT).yes _ _ _ _ _ _ (unhide H6).1 (unhide H6).2.1 (unhide H6).2.2.1 (unhide H6).2.2.2.1 (unhide H6).2.2.2.2.1 (unhide H6).2.2.2.2.2).mono ?_
        rintro e wd ⟨rfl, hFd⟩
        have H7 := hide (And.intro ((unhide H6).1.trans hFd (fun _ _ h => h)) (And.intro ((unhide H6).2.1.fr0 hFd) (And.intro ((unhide H6).2.2.1.fr0 hFd) ((unhide H6).2.2.2.2.1.fr0 hFd))))
        clear hFd
        obtain ⟨a1, c1, w12, hr1, a2, c2, w13, hr2, hPm, hCm, hFm⟩ := app_more (unhide H7).2.2.1 (unhide HT).len (unhide HT).lt (unhide H7).2.1
        have HR1 := hide hr1
        have HR2 := hide hr2
        have H8' := hide (And.intro ((unhide H7).1.trans hFm (fun _ _ h => h)) (And.intro ((unhide H7).2.1.fr0 hFm) (And.intro hPm (And.intro hCm ((unhide H7).2.2.2.fr0 hFm)))))
        clear hr1 hr2 hPm hCm hFm
        go_wp2_with (at_builtin; first | refine wpList_appG rfl _ _ 22 22 rfl _ _ _ rfl rfl (unhide HR1) ?_ | refine wpList_appG rfl _ _ 22 22 rfl _ _ _ rfl rfl (unhide HR2) ?_)
        refine ((unhide HT).no _ _ _ _ _ _ (unhide H8').1 (unhide H8').2.1 (unhide H8').2.2.1 (unhide H8').2.2.2.1 (unhide H8').2.2.2.2 (unhide H6).2.2.2.2.2).mono ?_
        rintro e we ⟨rfl, hFe⟩
        have H9' := hide ((unhide H8').1.trans hFe (fun _ _ h => h))
        clear hFe
        go_wp2_with fail
        go_ret
        exact ⟨rfl, unhide H9'⟩
end Go.Proofs.YtocdnomfpgdglabDoor

namespace Go.Proofs.YtocdnomfpgdglabDoor
open Go.RowKit

/-- MerkleTaken. -/
theorem taken_any (j : Int) (x : Value) (vs : List Value) (es : List (List Nat)) (i : Int) (y : Value) (zs : List Int) (w : World) (hg : GS w) (ht : GT w) (hp : Pcs w x vs es) (hC : Cp x) (hB : ∀ e ∈ es, e.length ≤ 16000000) (hn : es.length ≤ 4000000) (hy : Ints w y zs) (hzl : zs.length ≤ 4000000) (hzb : ∀ z ∈ zs, -9223372036854775808 ≤ z) :
    Calls Tryd.prog 5 #[.int .i64 j, x, .int .i64 i, y] w fun e w' => e = .returned (.bool true) ∧ Fr (fun _ => False) w w' := by
  by_cases h1 : i < 0
  · exact taken_3 j x vs es i y zs w hg ht hp hC hB hn hy hzl hzb h1
  · by_cases h2 : (es.length : Int) < i
    · exact taken_4 j x vs es i y zs w hg ht hp hC hB hn hy hzl hzb h2
    · by_cases h3 : i = (es.length : Int)
      · exact taken_2 j x vs es i y zs w hg ht hp hC hB hn hy hzl hzb h3
      · exact taken_1 j x vs es i y zs w hg ht hp hC hB hn hy hzl hzb (by omega)
end Go.Proofs.YtocdnomfpgdglabDoor

namespace Go.Proofs.YtocdnomfpgdglabDoor
open Go.ChangeShapes Go.WideShapes Go.ChangeAt Go.RowKit
set_option maxRecDepth 100000

theorem Tryd.cellsInt : Tryd.prog.cellsOf 3 = 1 := by kernel_rfl
/-- A slice of whole numbers that came in. -/
theorem ints_of_reading {H : Type} {enc : TypeId × Value → H} {W : World} {base : Nat} {v : Value} {d : DataW H} {p : List MemPlace} (hval : Value.okWide Tryd.prog W .any base 36 v) (h : DataW.Trod enc Tryd.prog W 0 (fun _ => true) true 36 v d p) :
    ∃ zs, Ints W v zs ∧ (∀ z ∈ zs, -9223372036854775808 ≤ z ∧ z < 9223372036854775808) ∧ zs.length ≤ Rows.uptoBulk d := by
  obtain ⟨a0, len0, cap0, rfl⟩ := okWide_slice Tryd.underlying36 hval
  obtain ⟨fuel, hf⟩ := h
  rcases open_ints Tryd.underlying36 Tryd.underlying3 Tryd.cellsInt (by simpa [Value.cells] using hf) with ⟨hcs, hx⟩ | ⟨a, len, cap, zs, hcs, _, hl, hm, hz, hx, hcell, hwz⟩
  · simp only [List.cons.injEq, and_true] at hcs
    rw [hcs]
    exact ⟨[], .inl ⟨rfl, rfl⟩, (fun _ h => by cases h), Nat.zero_le _⟩
  · simp only [List.cons.injEq, and_true] at hcs
    rw [hcs]
    simp only [Prod.mk.injEq] at hx
    obtain ⟨rfl, -⟩ := hx
    simp only [if_true] at hz
    have hlen : (zs.take len).length = len := by simp; omega
    have hbulk : len ≤ Rows.uptoBulk (DataW.slice (lits .i64 (zs.take len)) (lits .i64 (zs.drop len)) : DataW H) := by
      have h1 := bulk_len (lits .i64 (zs.take len) : List (DataW H))
      have h2 : (lits .i64 (zs.take len) : List (DataW H)).length = len := by simp [lits]; omega
      simp only [Rows.uptoBulk]
      omega
    by_cases h0 : len = 0
    · subst h0
      exact ⟨[], .inr (.inl ⟨a, cap, rfl, rfl⟩), (fun _ h => by cases h), Nat.zero_le _⟩
    · obtain ⟨b, off, rfl, hc⟩ := ints_at hcell (show 0 < zs.length by omega)
      refine ⟨zs.take len, .inr (.inr ⟨b, off, cap, by rw [hlen], by omega, lt_of_cell (hc 0 (by omega)), fun j hj => ?_⟩), fun z hz1 => ?_, by rw [hlen]; exact hbulk⟩
      · rw [hc j (by omega)]
        simp only [List.getD, List.getElem?_take]
        rw [if_pos (by omega)]
      · have := bounds_i64 (hwz z (List.mem_of_mem_take hz1))
        omega
end Go.Proofs.YtocdnomfpgdglabDoor

namespace Go.Proofs.YtocdnomfpgdglabDoor
open Go.ChangeShapes Go.WideShapes Go.ChangeAt Go.RowKit
set_option maxRecDepth 100000

theorem mtaken_contract (H : Type) (enc : TypeId × Value → H) (W : World) (base : Nat) (args : Array Value) (ds gs : List (DataW H)) (before : List MemPlace)
    (hval : ∀ (j : Nat) t v, Tryd.f5.params[j]? = some t → args[j]? = some v → Value.okWide Tryd.prog W .any base t v)
    (hW : DataW.Whole enc Tryd.prog Tryd.f5.params.toList Rows.merkleTakenSpec.vars false W args.toList ds gs before) (hk : Rows.uptoSmall H (ds ++ gs) = true) (hL : laidMetH Tryd.prog Rows.merkleTakenUptoRow.laid W) (hsh : W.ShapedOpen Tryd.prog) :
    Calls Tryd.prog 5 args W fun e W' => ∃ v, e = .returned v ∧ Rows.merkleTakenSpec.post enc Tryd.prog Tryd.f5 false true false false W args v W' := by
  have hW' := hW
  obtain ⟨p, q, hA0, hV, rfl, hfz, hnd⟩ := hW
  have hA : DataW.TrodAll enc Tryd.prog W 0 (fun _ => true) true Tryd.f5.params.toList args.toList ds p := hA0
  rw [Tryd.params5] at hA hval
  obtain ⟨v0, vs0, d0, ds0, p0, q0, hargs, rfl, rfl, h0, r0⟩ := trodAll_cons hA
  obtain ⟨v1, vs1, d1, ds1, p1, q1, rfl, rfl, rfl, h1, r1⟩ := trodAll_cons r0
  obtain ⟨v2, vs2, d2, ds2, p2, q2, rfl, rfl, rfl, h2, r2⟩ := trodAll_cons r1
  obtain ⟨v3, vs3, d3, ds3, p3, q3, rfl, rfl, rfl, h3, r3⟩ := trodAll_cons r2
  obtain ⟨rfl, rfl, rfl⟩ := trodAll_nil r3
  obtain rfl : args = #[v0, v1, v2, v3] := by cases args; simp_all
  obtain ⟨rfl, rfl⟩ := trodVars_none hV
  obtain ⟨a0, rfl, rfl, rfl, w0⟩ := open_int Tryd.underlying3 (hval 0 3 v0 rfl rfl) h0
  obtain ⟨us1, ps1, hP1, hCp1, hB1, hN1⟩ := pcs_of_readingC (hval 1 22 v1 rfl rfl) h1
  obtain ⟨a2, rfl, rfl, rfl, w2⟩ := open_int Tryd.underlying3 (hval 2 3 v2 rfl rfl) h2
  obtain ⟨zs3, hZ3, hY3, hN3⟩ := ints_of_reading (hval 3 36 v3 rfl rfl) h3
  have hk1 : Rows.uptoBulk d1 ≤ 1048576 := by
    have h := of_decide_eq_true hk
    simp only [List.append_nil, Rows.uptoBulkAll] at h
    omega
  have hk3 : Rows.uptoBulk d3 ≤ 1048576 := by
    have h := of_decide_eq_true hk
    simp only [List.append_nil, Rows.uptoBulkAll] at h
    omega
  have hL2 : laidMet Tryd.prog [("math/bits.deBruijn32tab", Rows.laid_math_bits_deBruijn32tab), ("math/bits.deBruijn64tab", Rows.laid_math_bits_deBruijn64tab), ("almoner/sha.start", Rows.laid_almoner_sha_start), ("almoner/sha.k", Rows.laid_almoner_sha_k)] W := hL
  have hg := gs_of_laid hL2 (.tail _ (.tail _ (.head _))) (.tail _ (.tail _ (.tail _ (.head _)))) (heap_enough hsh)
  have ht := gt_of_laid hL2 (.tail _ (.head _)) (heap_enough hsh)
  clear hA0
  refine (taken_any a0 v1 us1 ps1 a2 v3 zs3 W hg ht hP1 hCp1 (fun p hp => by have := hB1 p hp; omega) (by omega) hZ3 (by omega) (fun z hz => (hY3 z hz).1)).mono fun e W' ⟨he, hf⟩ => ?_
  subst he
  have hlt : ∀ x ∈ [] ++ (p1 ++ ([] ++ (p3 ++ []))), x.block < W.heap.size := fun x hx => hW'.lt x (by simpa using hx)
  have hb := hf.below
  refine ⟨_, rfl, _, _, _, [], [] ++ (p1 ++ ([] ++ (p3 ++ []))), [], hW', ?_, ?_, ?_, hb.frame _, fun h => by cases h⟩
  · exact trodAll_cons_mk (shut_bool Tryd.underlying4 true) trodAll_mk0
  · exact (trodAll_cons_mk (shut_int Tryd.underlying3 w0) (trodAll_cons_mk (Below.trod (by kernel_rfl) (by kernel_rfl) (by decide +kernel) h1 hb (fun x hx => hlt x (by simp [hx]))) (trodAll_cons_mk (shut_int Tryd.underlying3 w2) (trodAll_cons_mk (Below.trod (by kernel_rfl) (by kernel_rfl) (by decide +kernel) h3 hb (fun x hx => hlt x (by simp [hx]))) trodAll_mk0))))
  · rfl

theorem mtaken_laid_met (os : Os) : laidMetH Tryd.prog Rows.merkleTakenUptoRow.laid ((mWorld os).forCall (fun _ _ => 0) ⟨#[], #[.int .i64 0, .slice none 0 0, .int .i64 0, .slice none 0 0], []⟩).memory :=
  laidMetH_of_parts (laidMet_of_run' 8 (by kernel_rfl) (by kernel_rfl)) (by kernel_rfl)
theorem mtaken_reads (os : Os) {H : Type} (enc : TypeId × Value → H) : ∃ places, DataW.whole enc Tryd.prog ((mWorld os).forCall (fun _ _ => 0) ⟨#[], #[.int .i64 0, .slice none 0 0, .int .i64 0, .slice none 0 0], []⟩).memory Tryd.f5.params.toList Rows.merkleTakenSpec.vars false #[Value.int .i64 0, .slice none 0 0, .int .i64 0, .slice none 0 0].toList 8 = some ([.lit (.int .i64 0), .nil, .lit (.int .i64 0), .nil], [], places) :=
  ⟨[], by kernel_rfl⟩

theorem mtaken_lifted (os : Os) (started : os.Started) (H : Type) (enc : TypeId × Value → H) (F : Stop.Interp) :
    ReturnsInHanded {} Tryd.checked os 5 .any ((Rows.OpenSpec.upto Rows.merkleTakenSpec).preRow enc Tryd.prog Tryd.f5 Rows.merkleTakenUptoRow.domain false Rows.merkleTakenUptoRow.laid) (((Rows.OpenSpec.upto Rows.merkleTakenSpec).at F).post enc Tryd.prog Tryd.f5 false true false false) := by
  obtain ⟨places, hx⟩ := mtaken_reads os enc
  refine returnsInHanded_of_row (C := Tryd.checked) (s := Rows.OpenSpec.upto Rows.merkleTakenSpec) Tryd.ownKnob started (by kernel_rfl) Tryd.func5
    (witness_row_atRef (enc := enc) (C := Tryd.checked) false (mWorld os) #[.int .i64 0, .slice none 0 0, .int .i64 0, .slice none 0 0] rfl (by kernel_rfl) (by kernel_rfl) (by kernel_rfl)
      (OpenSpec.preRow_of_cond 8 hx (by kernel_rfl) (fun k hk => by cases hk; kernel_rfl) (by kernel_rfl) (mtaken_laid_met os))) ?_
  intro W base args ds gs before hval hW _ hcond _ hL hsh _
  exact mtaken_contract H enc W base args ds gs before hval hW (hcond _ rfl) hL hsh

theorem mtaken_said : Rows.MerkleTakenUptoSaid :=
  OpenClaim.holds_of_cond 5 Tryd.f5 rfl rfl rfl rfl rfl rfl rfl ⟨rfl, rfl, rfl, rfl, rfl⟩ rfl rfl rfl rfl rfl (by kernel_rfl) Tryd.func5 (by kernel_rfl)
    (of_decide_eq_true (by kernel_rfl)) (by unfold Func.isWrapper; first | (rw [if_pos (by decide +kernel)]; kernel_rfl) | (rw [if_neg (by decide +kernel)]; exact ⟨rfl, rfl⟩))
    (fun os started H enc _ F => by rw [OpenClaim.pre_eq_preRow]; exact mtaken_lifted os started H enc F)

theorem mtaken_plain (f : FuncId) (fn : Func) (hf : Tryd.pinned.checked.prog.funcNamed Rows.merkleTakenUptoRow.func = some f) (hfn : Tryd.pinned.checked.prog.funcs[f]? = some fn) :
    false = Tryd.pinned.checked.prog.looks [] ∧ ∀ (j : Nat) t, fn.params[j]? = some t → Tryd.pinned.checked.prog.wantsStandIn t = false := by
  obtain rfl : f = 5 := Option.some.inj ((show Tryd.prog.funcNamed Rows.merkleTakenUptoRow.func = some 5 by kernel_rfl).symm.trans hf) |>.symm
  obtain rfl : fn = Tryd.f5 := (Option.some.inj (Tryd.func5.symm.trans hfn)).symm
  refine ⟨by kernel_rfl, fun j t ht => ?_⟩
  rw [Tryd.params5] at ht
  have ht' : t = 3 ∨ t = 22 ∨ t = 3 ∨ t = 36 := by simpa using Array.mem_of_getElem? ht
  rcases ht' with rfl | rfl | rfl | rfl
  · exact (show Tryd.prog.wantsStandIn 3 = false by kernel_rfl)
  · exact (show Tryd.prog.wantsStandIn 22 = false by kernel_rfl)
  · exact (show Tryd.prog.wantsStandIn 3 = false by kernel_rfl)
  · exact (show Tryd.prog.wantsStandIn 36 = false by kernel_rfl)

/-- THE SECOND FORM's CARD. -/
theorem mtaken_card : Rows.MerkleTakenUptoCardSaid :=
  Claim7.holds_tied_plain_at .later [] _ _ _ _ mtaken_said (fun _ h => by cases h) (by kernel_rfl) (fun _ h => by cases h) merkleTakenUpto_row_tie rfl ⟨rfl, rfl⟩ (by kernel_rfl) rfl mtaken_plain (by kernel_rfl)
#print axioms mtaken_card
end Go.Proofs.YtocdnomfpgdglabDoor

