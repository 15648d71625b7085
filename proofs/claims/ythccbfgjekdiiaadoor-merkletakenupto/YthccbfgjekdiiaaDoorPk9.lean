import Derived.Test.YthccbfgjekdiiaaDoorPk5
import Derived.Test.YthccbfgjekdiiaaDoorPk4
import Derived.Test.YthccbfgjekdiiaaDoorPk6
namespace Go.Proofs.YthccbfgjekdiiaaDoor
open Go.RowKit

/-- The root of what does not lie behind the part, as it comes out of a claim. -/
def olderv (wi : Nat) (r : List Nat) (f n tf tn : Nat) (path : List (List Nat)) : List Nat :=
  if _h : (f = tf ∧ n = tn) ∨ n < 2 then r
  else if tf < f + hf n then olderv wi r f (hf n) tf tn path.dropLast
  else nd wi (path.getLastD []) (olderv wi r (f + hf n) (n - hf n) tf tn path.dropLast)
termination_by n
decreasing_by
  · exact hf_lt n (by omega)
  · have := hf_pos n; omega
theorem olderv_eq (wi : Nat) (r : List Nat) (f n : Nat) (p : List (List Nat)) : olderv wi r f n f n p = r := by rw [olderv, dif_pos (.inl ⟨rfl, rfl⟩)]
theorem olderv_l {wi : Nat} {r : List Nat} {f n tf tn : Nat} {p : List (List Nat)} (h2 : 2 ≤ n) (hne : ¬ (f = tf ∧ n = tn)) (hlt : tf < f + hf n) : olderv wi r f n tf tn p = olderv wi r f (hf n) tf tn p.dropLast := by
  conv => lhs; rw [olderv, dif_neg (by omega), if_pos hlt]
theorem olderv_r {wi : Nat} {r : List Nat} {f n tf tn : Nat} {p : List (List Nat)} (h2 : 2 ≤ n) (hne : ¬ (f = tf ∧ n = tn)) (hlt : ¬ tf < f + hf n) : olderv wi r f n tf tn p = nd wi (p.getLastD []) (olderv wi r (f + hf n) (n - hf n) tf tn p.dropLast) := by
  conv => lhs; rw [olderv, dif_neg (by omega), if_neg hlt]
theorem olderv_wid (wi : Nat) (hw1 : 1 ≤ wi) (hw32 : wi ≤ 32) (r : List Nat) (hr : r.length = wi) (m : Nat) : ∀ f n tf tn (ps : List (List Nat)), n ≤ m → (olderv wi r f n tf tn ps).length = wi := by
  induction m with
  | zero => intro f n tf tn ps h; rw [olderv, dif_pos (by omega)]; exact hr
  | succ m ih =>
    intro f n tf tn ps h
    by_cases e : (f = tf ∧ n = tn) ∨ n < 2
    · rw [olderv, dif_pos e]; exact hr
    · have h3 := hf_lt n (by omega)
      by_cases hl : tf < f + hf n
      · rw [olderv_l (by omega) (by omega) hl]; exact ih _ _ _ _ _ (by omega)
      · rw [olderv_r (by omega) (by omega) hl]; exact nd_len wi hw1 hw32 _ _
set_option maxRecDepth 100000 in
set_option maxHeartbeats 1000000 in
theorem older_l (wi tf tn f n N xc g o : Nat) (ro : Option Addr) (rn rc : Nat) (v : Value) (w : World) (hc : w.cell? ⟨g, o + N, none⟩ = some v) (hcp : N + 1 ≤ xc) (hN : N < 9223372036854775807) (hv : ∃ a n c, v = .slice a n c) (h2 : 2 ≤ n) (hb : f + n < 9223372036854775808) (hne : ¬ (f = tf ∧ n = tn)) (hl : tf < f + hf n) (M : List Nat)
    (ht : ∀ w', Fr (fun _ => False) w w' → Calls Tryd.prog 32 #[cv wi tf tn (.slice ro rn rc) (.slice (some ⟨g, o, none⟩) N xc), sv f (hf n)] w' fun e w'' => ∃ uo un uc, e = .returned (.slice uo un uc) ∧ Sl w'' (.slice uo un uc) M ∧ Fr (fun _ => False) w' w'') :
    Calls Tryd.prog 32 #[cv wi tf tn (.slice ro rn rc) (.slice (some ⟨g, o, none⟩) (N + 1) xc), sv f n] w fun e w' => ∃ uo un uc, e = .returned (.slice uo un uc) ∧ Sl w' (.slice uo un uc) M ∧ Fr (fun _ => False) w w' := by
  obtain ⟨va, vn, vc, rfl⟩ := hv
  have hin := fun (w' : World) (hf : Fr (fun _ => False) w w') => inner_any wi tf tn N xc g o ro rn rc (.slice va vn vc) w' ((hf.cell (lt_of_cell hc) (fun h => h)).trans hc) hcp hN ⟨_, _, _, rfl⟩
  have eqs := fun w => eq_span f n tf tn w
  rw [decide_eq_false hne] at eqs
  have eg := Tryd.guard_span
  clear hne
  have hhv := fun w => halves_any f n w hb h2
  have hbf := fun w => before_any tf tn (f + hf n) (n - hf n) w
  rw [decide_eq_true hl] at hbf
  clear hl hc hcp hN hb h2
  generalize f + hf n = F2 at *
  generalize n - hf n = N2 at *
  generalize hf n = K at *
  have HC := hide (And.intro hhv (And.intro hbf (And.intro hin ht)))
  clear hhv hbf hin ht
  unfold sv cv at *
  go_enter Tryd.func32, Tryd.ntmps32
  go_wp2_with fail
  obtain ⟨W0, hW0⟩ : ∃ W0, (w.alloc (.cells #[.int .i64 wi, .int .i64 tf, .int .i64 tn, .slice ro rn rc, .slice (some ⟨g, o, none⟩) (N + 1) xc] 59)).alloc (.cells #[.int .i64 f, .int .i64 n] 57) = W0 := ⟨_, rfl⟩
  rw [hW0]
  obtain ⟨⟨a0, a1, a2, a3, a4⟩, -, -, hF0⟩ := box52 w _ _ _ _ _ _ _ _ _ W0 hW0
  refine ((unhide HC).1 _).mono ?_
  rintro e' wA ⟨rfl, hFA⟩
  have b0 := (hFA.cell (lt_of_cell a0) (fun h => h)).trans a0
  have b1 := (hFA.cell (lt_of_cell a1) (fun h => h)).trans a1
  have b2 := (hFA.cell (lt_of_cell a2) (fun h => h)).trans a2
  have b3 := (hFA.cell (lt_of_cell a3) (fun h => h)).trans a3
  have b4 := (hFA.cell (lt_of_cell a4) (fun h => h)).trans a4
  have HF := hide (hF0.trans hFA (fun _ _ h => h))
  clear hFA hF0 a0 a1 a2 a3 a4 hW0
  generalize w.heap.size = P at *
  have l0 : P < wA.heap.size := lt_of_cell b0
  have l1 : P < wA.heap.size + 1 := Nat.lt_succ_of_lt l0
  go_wp2_with fail
  obtain ⟨W1, hW1⟩ : ∃ W1, (wA.alloc (.cells #[.int .i64 f, .int .i64 K] 57)).alloc (.cells #[.int .i64 F2, .int .i64 N2] 57) = W1 := ⟨_, rfl⟩
  rw [hW1]
  obtain ⟨x0, x1, y0, y1, hF1⟩ := two2 wA _ _ _ _ _ W1 hW1
  refine ((unhide HC).2.2.1 _ ((unhide HF).trans hF1 (fun _ _ h => h))).mono ?_
  rintro e' wB ⟨rfl, hFB⟩
  have hF1B := hF1.trans hFB (fun _ _ h => h)
  have c1 := (hF1B.cell (lt_of_cell b1) (fun h => h)).trans b1
  have c2 := (hF1B.cell (lt_of_cell b2) (fun h => h)).trans b2
  have u0 := (hFB.cell (lt_of_cell x0) (fun h => h)).trans x0
  have u1 := (hFB.cell (lt_of_cell x1) (fun h => h)).trans x1
  have v0 := (hFB.cell (lt_of_cell y0) (fun h => h)).trans y0
  have v1 := (hFB.cell (lt_of_cell y1) (fun h => h)).trans y1
  have HF2 := hide ((unhide HF).trans hF1B (fun _ _ h => h))
  clear hF1 hFB hF1B hW1 x0 x1 y0 y1 b0 b1 b2 b3 b4 HF l0 l1
  generalize wA.heap.size = Z at *
  have k0 : P < wB.heap.size := lt_of_cell c1
  have k1 : Z < wB.heap.size := lt_of_cell u0
  have k2 : Z + 1 < wB.heap.size := lt_of_cell v0
  go_wp2_with fail
  obtain ⟨W2, hW2⟩ : ∃ W2, wB.alloc (.cells #[.int .i64 wi, .int .i64 tf, .int .i64 tn, .slice ro rn rc, .slice (some ⟨g, o, none⟩) N xc] 59) = W2 := ⟨_, rfl⟩
  rw [hW2]
  obtain ⟨⟨p0, p1, p2, p3, p4⟩, hF3⟩ := box5 wB _ _ _ _ _ _ W2 hW2
  refine ((unhide HC).2.1 _).mono ?_
  rintro e' wC ⟨rfl, hFC⟩
  have hF3C := hF3.trans hFC (fun _ _ h => h)
  have q0 := (hFC.cell (lt_of_cell p0) (fun h => h)).trans p0
  have q1 := (hFC.cell (lt_of_cell p1) (fun h => h)).trans p1
  have q2 := (hFC.cell (lt_of_cell p2) (fun h => h)).trans p2
  have q3 := (hFC.cell (lt_of_cell p3) (fun h => h)).trans p3
  have q4 := (hFC.cell (lt_of_cell p4) (fun h => h)).trans p4
  have m0 := (hF3C.cell (lt_of_cell u0) (fun h => h)).trans u0
  have m1 := (hF3C.cell (lt_of_cell u1) (fun h => h)).trans u1
  have HF4 := hide ((unhide HF2).trans hF3C (fun _ _ h => h))
  clear hF3 hFC hF3C hW2 p0 p1 p2 p3 p4 HF2 u0 u1 v0 v1 c1 c2 k0 k1 k2
  generalize wB.heap.size = Y at *
  go_wp2_with fail
  refine ((unhide HC).2.2.2 _ (unhide HF4)).mono ?_
  rintro e' wD ⟨uo, un, uc, rfl, hS, hFD⟩
  have HD := hide (And.intro hS ((unhide HF4).trans hFD (fun _ _ h => h)))
  clear hS hFD
  go_wp2_with fail
  go_ret
  exact ⟨uo, un, uc, rfl, (unhide HD).1, (unhide HD).2⟩
set_option maxRecDepth 100000 in
set_option maxHeartbeats 2000000 in
theorem older_r (wi tf tn f n N xc g o : Nat) (ro : Option Addr) (rn rc : Nat) (v : Value) (w : World) (hc : w.cell? ⟨g, o + N, none⟩ = some v) (hcp : N + 1 ≤ xc) (hN : N < 9223372036854775807) (hv : ∃ a n c, v = .slice a n c) (h2 : 2 ≤ n) (hb : f + n < 9223372036854775808) (hne : ¬ (f = tf ∧ n = tn)) (hl : ¬ tf < f + hf n) (M B : List Nat) (hg : GS w) (hnode : ∀ w' x, GS w' → Fr (fun _ => False) w w' → Sl w' x M → Calls Tryd.prog 62 #[.int .i64 wi, v, x] w' fun e w'' => ∃ yo, e = .returned (.slice yo wi wi) ∧ Sl w'' (.slice yo wi wi) B ∧ Fr (fun _ => False) w' w'')
    (ht : ∀ w', Fr (fun _ => False) w w' → Calls Tryd.prog 32 #[cv wi tf tn (.slice ro rn rc) (.slice (some ⟨g, o, none⟩) N xc), sv (f + hf n) (n - hf n)] w' fun e w'' => ∃ uo un uc, e = .returned (.slice uo un uc) ∧ Sl w'' (.slice uo un uc) M ∧ Fr (fun _ => False) w' w'') :
    Calls Tryd.prog 32 #[cv wi tf tn (.slice ro rn rc) (.slice (some ⟨g, o, none⟩) (N + 1) xc), sv f n] w fun e w' => ∃ uo un uc, e = .returned (.slice uo un uc) ∧ Sl w' (.slice uo un uc) B ∧ Fr (fun _ => False) w w' := by
  obtain ⟨va, vn, vc, rfl⟩ := hv
  have hin := fun (w' : World) (hf : Fr (fun _ => False) w w') => inner_any wi tf tn N xc g o ro rn rc (.slice va vn vc) w' ((hf.cell (lt_of_cell hc) (fun h => h)).trans hc) hcp hN ⟨_, _, _, rfl⟩
  have eqs := fun w => eq_span f n tf tn w
  rw [decide_eq_false hne] at eqs
  have eg := Tryd.guard_span
  clear hne
  have hhv := fun w => halves_any f n w hb h2
  have hbf := fun w => before_any tf tn (f + hf n) (n - hf n) w
  rw [decide_eq_false hl] at hbf
  clear hl hc hcp hN hb h2
  generalize f + hf n = F2 at *
  generalize n - hf n = N2 at *
  generalize hf n = K at *
  have HC := hide (And.intro hhv (And.intro hbf (And.intro hin (And.intro ht (And.intro hg hnode)))))
  clear hhv hbf hin ht hg hnode
  unfold sv cv at *
  go_enter Tryd.func32, Tryd.ntmps32
  go_wp2_with fail
  obtain ⟨W0, hW0⟩ : ∃ W0, (w.alloc (.cells #[.int .i64 wi, .int .i64 tf, .int .i64 tn, .slice ro rn rc, .slice (some ⟨g, o, none⟩) (N + 1) xc] 59)).alloc (.cells #[.int .i64 f, .int .i64 n] 57) = W0 := ⟨_, rfl⟩
  rw [hW0]
  obtain ⟨⟨a0, a1, a2, a3, a4⟩, -, -, hF0⟩ := box52 w _ _ _ _ _ _ _ _ _ W0 hW0
  refine ((unhide HC).1 _).mono ?_
  rintro e' wA ⟨rfl, hFA⟩
  have b0 := (hFA.cell (lt_of_cell a0) (fun h => h)).trans a0
  have b1 := (hFA.cell (lt_of_cell a1) (fun h => h)).trans a1
  have b2 := (hFA.cell (lt_of_cell a2) (fun h => h)).trans a2
  have b3 := (hFA.cell (lt_of_cell a3) (fun h => h)).trans a3
  have b4 := (hFA.cell (lt_of_cell a4) (fun h => h)).trans a4
  have HF := hide (hF0.trans hFA (fun _ _ h => h))
  clear hFA hF0 a0 a1 a2 a3 a4 hW0
  generalize w.heap.size = P at *
  have l0 : P < wA.heap.size := lt_of_cell b0
  have l1 : P < wA.heap.size + 1 := Nat.lt_succ_of_lt l0
  go_wp2_with fail
  obtain ⟨W1, hW1⟩ : ∃ W1, (wA.alloc (.cells #[.int .i64 f, .int .i64 K] 57)).alloc (.cells #[.int .i64 F2, .int .i64 N2] 57) = W1 := ⟨_, rfl⟩
  rw [hW1]
  obtain ⟨x0, x1, y0, y1, hF1⟩ := two2 wA _ _ _ _ _ W1 hW1
  refine ((unhide HC).2.2.1 _ ((unhide HF).trans hF1 (fun _ _ h => h))).mono ?_
  rintro e' wB ⟨rfl, hFB⟩
  have hF1B := hF1.trans hFB (fun _ _ h => h)
  have c0 := (hF1B.cell (lt_of_cell b0) (fun h => h)).trans b0
  have c1 := (hF1B.cell (lt_of_cell b1) (fun h => h)).trans b1
  have c2 := (hF1B.cell (lt_of_cell b2) (fun h => h)).trans b2
  have u0 := (hFB.cell (lt_of_cell x0) (fun h => h)).trans x0
  have u1 := (hFB.cell (lt_of_cell x1) (fun h => h)).trans x1
  have v0 := (hFB.cell (lt_of_cell y0) (fun h => h)).trans y0
  have v1 := (hFB.cell (lt_of_cell y1) (fun h => h)).trans y1
  have HF2 := hide ((unhide HF).trans hF1B (fun _ _ h => h))
  clear hF1 hFB hF1B hW1 x0 x1 y0 y1 b0 b1 b2 b3 b4 HF l0 l1
  generalize wA.heap.size = Z at *
  have k0 : P < wB.heap.size := lt_of_cell c1
  have k1 : Z < wB.heap.size := lt_of_cell u0
  have k2 : Z + 1 < wB.heap.size := lt_of_cell v0
  go_wp2_with fail
  obtain ⟨W2, hW2⟩ : ∃ W2, wB.alloc (.cells #[.int .i64 wi, .int .i64 tf, .int .i64 tn, .slice ro rn rc, .slice (some ⟨g, o, none⟩) N xc] 59) = W2 := ⟨_, rfl⟩
  rw [hW2]
  obtain ⟨⟨p0, p1, p2, p3, p4⟩, hF3⟩ := box5 wB _ _ _ _ _ _ W2 hW2
  refine ((unhide HC).2.1 _).mono ?_
  rintro e' wC ⟨rfl, hFC⟩
  have hF3C := hF3.trans hFC (fun _ _ h => h)
  have q0 := (hFC.cell (lt_of_cell p0) (fun h => h)).trans p0
  have q1 := (hFC.cell (lt_of_cell p1) (fun h => h)).trans p1
  have q2 := (hFC.cell (lt_of_cell p2) (fun h => h)).trans p2
  have q3 := (hFC.cell (lt_of_cell p3) (fun h => h)).trans p3
  have q4 := (hFC.cell (lt_of_cell p4) (fun h => h)).trans p4
  have d0 := (hF3C.cell (lt_of_cell c0) (fun h => h)).trans c0
  have m0 := (hF3C.cell (lt_of_cell v0) (fun h => h)).trans v0
  have m1 := (hF3C.cell (lt_of_cell v1) (fun h => h)).trans v1
  have HF4 := hide ((unhide HF2).trans hF3C (fun _ _ h => h))
  clear hF3 hFC hF3C hW2 p0 p1 p2 p3 p4 HF2 u0 u1 v0 v1 c0 c1 c2 k0 k1 k2
  generalize wB.heap.size = Y at *
  have hS : ∀ w', Fr (fun _ => False) wC w' → w'.cell? ⟨P, 0, none⟩ = some (.int .i64 wi) ∧ w'.cell? ⟨Y, 0, none⟩ = some (.int .i64 wi) ∧ w'.cell? ⟨Y, 1, none⟩ = some (.int .i64 tf) ∧ w'.cell? ⟨Y, 2, none⟩ = some (.int .i64 tn) ∧ w'.cell? ⟨Y, 3, none⟩ = some (.slice ro rn rc) ∧ w'.cell? ⟨Y, 4, none⟩ = some (.slice (some ⟨g, o, none⟩) N xc) ∧ w'.cell? ⟨Z + 1, 0, none⟩ = some (.int .i64 F2) ∧ w'.cell? ⟨Z + 1, 1, none⟩ = some (.int .i64 N2) := fun w' hf =>
    ⟨(hf.cell (lt_of_cell d0) (fun h => h)).trans d0, (hf.cell (lt_of_cell q0) (fun h => h)).trans q0, (hf.cell (lt_of_cell q1) (fun h => h)).trans q1, (hf.cell (lt_of_cell q2) (fun h => h)).trans q2, (hf.cell (lt_of_cell q3) (fun h => h)).trans q3, (hf.cell (lt_of_cell q4) (fun h => h)).trans q4, (hf.cell (lt_of_cell m0) (fun h => h)).trans m0, (hf.cell (lt_of_cell m1) (fun h => h)).trans m1⟩
  have HS := hide hS
  clear hS
  go_wp2_with fail
  go_region_held3 (fun w' => w'.cell? ⟨P, 0, none⟩ = some (.int .i64 wi) ∧ w'.cell? ⟨Y, 0, none⟩ = some (.int .i64 wi) ∧ w'.cell? ⟨Y, 1, none⟩ = some (.int .i64 tf) ∧ w'.cell? ⟨Y, 2, none⟩ = some (.int .i64 tn) ∧ w'.cell? ⟨Y, 3, none⟩ = some (.slice ro rn rc) ∧ w'.cell? ⟨Y, 4, none⟩ = some (.slice (some ⟨g, o, none⟩) N xc) ∧ w'.cell? ⟨Z + 1, 0, none⟩ = some (.int .i64 F2) ∧ w'.cell? ⟨Z + 1, 1, none⟩ = some (.int .i64 N2))
    (first | assumption | exact (unhide HS) _ (Fr.refl _ _).drew | exact (unhide HS) _ fE | exact (unhide HS) _ fD)
    (first
      | (go_at_call 32; refine ((unhide HC).2.2.2.1 _ (by first | exact unhide HF4 | exact (unhide HF4).drew)).mono ?_; rintro e' wD ⟨uo, un, uc, rfl, sD, fD0⟩; have fD : Fr (fun _ => False) wC wD := by first | exact fD0 | exact (Fr.refl _ _).drew.trans fD0 (fun _ _ h => h))
      | (go_at_call 62; refine ((unhide HC).2.2.2.2.2 wD _ ((unhide HC).2.2.2.2.1.fr0 ((unhide HF4).trans fD (fun _ _ h => h))) ((unhide HF4).trans fD (fun _ _ h => h)) sD).mono ?_; rintro e' wE ⟨zo, rfl, sE, fE0⟩; have fE : Fr (fun _ => False) wC wE := fD.trans fE0 (fun _ _ h => h)))
  have HD := hide (And.intro sE ((unhide HF4).trans fE (fun _ _ h => h)))
  clear sE fE sD fD fE0 fD0
  go_wp2_with fail
  go_ret
  exact ⟨zo, wi, wi, rfl, (unhide HD).1, (unhide HD).2⟩
end Go.Proofs.YthccbfgjekdiiaaDoor

namespace Go.Proofs.YthccbfgjekdiiaaDoor
open Go.RowKit

set_option maxRecDepth 100000 in
set_option maxHeartbeats 2000000 in
/-- The older root as it comes out of a claim. -/
theorem older_any (wi : Nat) (hw1 : 1 ≤ wi) (hw32 : wi ≤ 32) (m : Nat) : ∀ (f n tf tn : Nat) (w : World) (ro : Option Addr) (rn rc : Nat) (r : List Nat) (x : Value) (vs : List Value) (ps : List (List Nat)), n ≤ m → f + n < 9223372036854775808 → Rch f n tf tn → GS w → Sl w (.slice ro rn rc) r → r.length = wi → Pcs w x vs ps → Cp x → ps.length = dep f n tf tn → (∀ p ∈ ps, p.length = wi) →
    Calls Tryd.prog 32 #[cv wi tf tn (.slice ro rn rc) x, sv f n] w fun e w' => ∃ uo un uc, e = .returned (.slice uo un uc) ∧ Sl w' (.slice uo un uc) (olderv wi r f n tf tn ps) ∧ Fr (fun _ => False) w w' := by
  induction m with
  | zero =>
    intro f n tf tn w ro rn rc r x vs ps hm hb hr hg hs hrw hp hcx hpd hpw
    by_cases e : f = tf ∧ n = tn
    · obtain ⟨rfl, rfl⟩ := e
      rw [olderv_eq]
      have eqs := fun w => eq_span f n f n w
      simp only [decide_true, and_self] at eqs
      have eg := Tryd.guard_span
      obtain ⟨xo, xc, rfl⟩ := hp.form
      have HS := hide hs
      clear hs hg hp hcx hpd hpw hrw
      generalize ps.length = N at *
      unfold sv cv
      go_enter Tryd.func32, Tryd.ntmps32
      go_wp2_with fail
      go_ret
      exact ⟨ro, rn, rc, rfl, (unhide HS).fr0 (((Fr.refl _ _).alloc _).alloc _), ((Fr.refl _ _).alloc _).alloc _⟩
    · have := (rch_ne hr e).1; omega
  | succ m ih =>
    intro f n tf tn w ro rn rc r x vs ps hm hb hr hg hs hrw hp hcx hpd hpw
    by_cases e : f = tf ∧ n = tn
    · obtain ⟨rfl, rfl⟩ := e
      rw [olderv_eq]
      have eqs := fun w => eq_span f n f n w
      simp only [decide_true, and_self] at eqs
      have eg := Tryd.guard_span
      obtain ⟨xo, xc, rfl⟩ := hp.form
      have HS := hide hs
      clear hs hg hp hcx hpd hpw hrw
      generalize ps.length = N at *
      unfold sv cv
      go_enter Tryd.func32, Tryd.ntmps32
      go_wp2_with fail
      go_ret
      exact ⟨ro, rn, rc, rfl, (unhide HS).fr0 (((Fr.refl _ _).alloc _).alloc _), ((Fr.refl _ _).alloc _).alloc _⟩
    · obtain ⟨h2, r1, r2⟩ := rch_ne hr e
      have hlt := hf_lt n h2
      have hpos := hf_pos n
      have eqs := fun w => eq_span f n tf tn w
      rw [decide_eq_false e] at eqs
      have eg := Tryd.guard_span
      by_cases hl : tf < f + hf n
      · have hdp := dep_l h2 e hl
        obtain ⟨D, hD⟩ : ∃ D, dep f (hf n) tf tn = D := ⟨_, rfl⟩
        rw [hD] at hdp
        have hlen : ps.length = D + 1 := by rw [hpd, hdp]
        obtain ⟨xo, xc, rfl⟩ := hp.form
        rw [hlen] at hp hcx ⊢
        obtain ⟨g, o, v, rfl, hcell, -⟩ := hp.cell (Fr.refl _ _) D (by omega)
        have hDb : D ≤ n := by rw [← hD]; have := dep_le _ f (hf n) tf tn (Nat.le_refl _); omega
        have hDc : D < 9223372036854775807 := by have h1 := dep_le _ f n tf tn (Nat.le_refl _); omega
        have hcap : D + 1 ≤ xc := hcx _ _ _ rfl
        have hvD : vs[D]? = some v := by
          have hvl : D < vs.length := by rw [hp.len]; omega
          rcases hp.at_ with ⟨e', _⟩ | ⟨_, _, e', _⟩ | ⟨g', o', c', e', _, hc'⟩
          · simp at e'
          · simp at e'
          · simp only [Value.slice.injEq, Option.some.injEq, Addr.mk.injEq, and_true] at e'
            obtain ⟨⟨rfl, rfl⟩, _⟩ := e'
            have h1 := hc' D _ (List.getElem?_eq_getElem hvl)
            rw [h1] at hcell
            rw [List.getElem?_eq_getElem hvl, Option.some.inj hcell]
        have hsv : Sl w v ps[D] := hp.sl D v _ hvD (List.getElem?_eq_getElem (by omega))
        have hdl : ps.dropLast = ps.take D := by rw [List.dropLast_eq_take, hlen]; rfl
        have hp' := hp.take D (by omega)
        have htop : ∀ w', Fr (fun _ => False) w w' → _ := fun w' hf' => ih f (hf n) tf tn w' ro rn rc r _ _ (ps.take D) (by omega) (by omega) (r1 hl) (hg.fr0 hf') (hs.fr0 hf') hrw (hp'.fr0 hf') (fun _ _ _ e => by cases e; omega) (by rw [List.length_take]; omega) (fun p hp => hpw p (List.mem_of_mem_take hp))
        rw [olderv_l h2 e hl, hdl]
        obtain ⟨va, vn, vc, rfl⟩ : ∃ a n c, v = .slice a n c := by
          obtain ⟨a, c, e⟩ := hsv.form
          exact ⟨_, _, _, e⟩
        exact older_l wi tf tn f n D xc g o ro rn rc (.slice va vn vc) w hcell hcap hDc ⟨_, _, _, rfl⟩ h2 hb e hl _ htop
      · have hdp := dep_r h2 e hl
        obtain ⟨D, hD⟩ : ∃ D, dep (f + hf n) (n - hf n) tf tn = D := ⟨_, rfl⟩
        rw [hD] at hdp
        have hlen : ps.length = D + 1 := by rw [hpd, hdp]
        obtain ⟨xo, xc, rfl⟩ := hp.form
        rw [hlen] at hp hcx ⊢
        obtain ⟨g, o, v, rfl, hcell, -⟩ := hp.cell (Fr.refl _ _) D (by omega)
        have hDb : D ≤ n := by rw [← hD]; have := dep_le _ (f + hf n) (n - hf n) tf tn (Nat.le_refl _); omega
        have hDc : D < 9223372036854775807 := by have h1 := dep_le _ f n tf tn (Nat.le_refl _); omega
        have hcap : D + 1 ≤ xc := hcx _ _ _ rfl
        have hvD : vs[D]? = some v := by
          have hvl : D < vs.length := by rw [hp.len]; omega
          rcases hp.at_ with ⟨e', _⟩ | ⟨_, _, e', _⟩ | ⟨g', o', c', e', _, hc'⟩
          · simp at e'
          · simp at e'
          · simp only [Value.slice.injEq, Option.some.injEq, Addr.mk.injEq, and_true] at e'
            obtain ⟨⟨rfl, rfl⟩, _⟩ := e'
            have h1 := hc' D _ (List.getElem?_eq_getElem hvl)
            rw [h1] at hcell
            rw [List.getElem?_eq_getElem hvl, Option.some.inj hcell]
        have hsv : Sl w v ps[D] := hp.sl D v _ hvD (List.getElem?_eq_getElem (by omega))
        have hdl : ps.dropLast = ps.take D := by rw [List.dropLast_eq_take, hlen]; rfl
        have hgl : ps.getLastD [] = ps[D] := getLastD_at ps D hlen
        have hp' := hp.take D (by omega)
        have htop : ∀ w', Fr (fun _ => False) w w' → _ := fun w' hf' => ih (f + hf n) (n - hf n) tf tn w' ro rn rc r _ _ (ps.take D) (by omega) (by omega) (r2 hl) (hg.fr0 hf') (hs.fr0 hf') hrw (hp'.fr0 hf') (fun _ _ _ e => by cases e; omega) (by rw [List.length_take]; omega) (fun p hp => hpw p (List.mem_of_mem_take hp))
        rw [olderv_r h2 e hl, hdl, hgl]
        have hTw := olderv_wid wi hw1 hw32 r hrw _ (f + hf n) (n - hf n) tf tn (ps.take D) (Nat.le_refl _)
        have hAw := hpw ps[D] (List.getElem_mem _)
        obtain ⟨va, vn, vc, rfl⟩ : ∃ a n c, v = .slice a n c := by
          obtain ⟨a, c, e⟩ := hsv.form
          exact ⟨_, _, _, e⟩
        have hnl := nd_len wi hw1 hw32 ps[D] (olderv wi r (f + hf n) (n - hf n) tf tn (ps.take D))
        refine older_r wi tf tn f n D xc g o ro rn rc (.slice va vn vc) w hcell hcap hDc ⟨_, _, _, rfl⟩ h2 hb e hl _ _ hg (fun w' x hg' hf' hx => ?_) htop
        refine (node_any (wi : Int) (.slice va vn vc) x ps[D] _ w' hg' (hsv.fr0 hf') hx (by omega) (by omega)).mono ?_
        rintro e' w'' ⟨yo, rfl, hO⟩
        have hsl := hO.sl (nd_lt _ _ _)
        rw [hnl] at hsl ⊢
        exact ⟨yo, rfl, hsl, hO.fr⟩
end Go.Proofs.YthccbfgjekdiiaaDoor

namespace Go.Proofs.YthccbfgjekdiiaaDoor
open Go.RowKit

theorem set5 (w : World) (b : Nat) (x0 x1 x2 x3 x4 : Value) (h : ∀ j : Nat, j < 5 → (w.cell? ⟨b, j, none⟩).isSome = true) (W : World) (hW : ((((w.setCell ⟨b, 0, none⟩ x0).setCell ⟨b, 1, none⟩ x1).setCell ⟨b, 2, none⟩ x2).setCell ⟨b, 3, none⟩ x3).setCell ⟨b, 4, none⟩ x4 = W) : W.cell? ⟨b, 0, none⟩ = some x0 ∧ W.cell? ⟨b, 1, none⟩ = some x1 ∧ W.cell? ⟨b, 2, none⟩ = some x2 ∧ W.cell? ⟨b, 3, none⟩ = some x3 ∧ W.cell? ⟨b, 4, none⟩ = some x4 := by
  subst hW
  have o : ∀ (v : World) (i j : Nat) (u : Value), i ≠ j → (v.setCell ⟨b, i, none⟩ u).cell? ⟨b, j, none⟩ = v.cell? ⟨b, j, none⟩ := fun v i j u h => World.cell?_setCell_other _ _ _ _ (by intro e; injection e with e1 e2; omega)
  refine ⟨?_, ?_, ?_, ?_, ?_⟩
  · rw [o _ 4 0 _ (by decide), o _ 3 0 _ (by decide), o _ 2 0 _ (by decide), o _ 1 0 _ (by decide), World.cell?_setCell_same' _ _ _ (h 0 (by decide))]
  · rw [o _ 4 1 _ (by decide), o _ 3 1 _ (by decide), o _ 2 1 _ (by decide), World.cell?_setCell_same' _ _ _ (by rw [o _ 0 1 _ (by decide)]; exact h 1 (by decide))]
  · rw [o _ 4 2 _ (by decide), o _ 3 2 _ (by decide), World.cell?_setCell_same' _ _ _ (by rw [o _ 1 2 _ (by decide), o _ 0 2 _ (by decide)]; exact h 2 (by decide))]
  · rw [o _ 4 3 _ (by decide), World.cell?_setCell_same' _ _ _ (by rw [o _ 2 3 _ (by decide), o _ 1 3 _ (by decide), o _ 0 3 _ (by decide)]; exact h 3 (by decide))]
  · rw [World.cell?_setCell_same' _ _ _ (by rw [o _ 3 4 _ (by decide), o _ 2 4 _ (by decide), o _ 1 4 _ (by decide), o _ 0 4 _ (by decide)]; exact h 4 (by decide))]
theorem nil5 (w : World) (W : World) (hW : w.alloc (.cells #[.int .i64 0, .int .i64 0, .int .i64 0, .slice none 0 0, .slice none 0 0] 59) = W) : (W.cell? ⟨w.heap.size, 0, none⟩ = some (.int .i64 0) ∧ W.cell? ⟨w.heap.size, 1, none⟩ = some (.int .i64 0) ∧ W.cell? ⟨w.heap.size, 2, none⟩ = some (.int .i64 0) ∧ W.cell? ⟨w.heap.size, 3, none⟩ = some (.slice none 0 0) ∧ W.cell? ⟨w.heap.size, 4, none⟩ = some (.slice none 0 0)) ∧ (∀ j : Nat, j < 5 → W.frozen? ⟨w.heap.size, j, none⟩ = false) ∧ Fr (fun _ => False) w W := by
  subst hW
  refine ⟨⟨?_, ?_, ?_, ?_, ?_⟩, fun j hj => ?_, (Fr.refl _ _).alloc _⟩
  iterate 5 (rw [World.cell?_alloc_at _ _ _ _ rfl] <;> rfl)
  rw [World.frozen?_alloc_at _ _ _ _ rfl] <;> first | rfl | skip
set_option maxRecDepth 100000 in
set_option maxHeartbeats 1000000 in
/-- What a proof says, where SUB never left the first entries. -/
theorem ofProof_l (wi m n : Nat) (h0 : 0 < m) (hm : m ≤ n) (hn : n < 9223372036854775808) (he : (endF 0 n m).1 = 0) (ro : Option Addr) (rn rc : Nat) (xo : Option Addr) (xn xc : Nat) (w : World) :
    Calls Tryd.prog 30 #[.int .i64 wi, .int .i64 m, .int .i64 n, .slice ro rn rc, .slice xo xn xc] w fun e w' => e = .returned (.tuple #[cv wi (endF 0 n m).1 (endF 0 n m).2 (.slice ro rn rc) (.slice xo xn xc), .bool true]) ∧ Fr (fun _ => False) w w' := by
  have hend := fun w' => end_any n 0 n m w' (Nat.le_refl _) (by omega) h0 (by omega)
  unfold EndSays at hend
  rw [he] at hend ⊢
  generalize (endF 0 n m).2 = EN at *
  have HE := hide hend
  clear hend he h0 hm hn
  unfold sv cv at *
  have e0 : ((0 : Nat) : Int) = 0 := rfl
  simp only [e0] at HE ⊢
  clear e0
  go_enter Tryd.func30, Tryd.ntmps30
  go_wp2_with fail
  obtain ⟨W0, hW0⟩ : ∃ W0, w.alloc (.cells #[.int .i64 0, .int .i64 0, .int .i64 0, .slice none 0 0, .slice none 0 0] 59) = W0 := ⟨_, rfl⟩
  rw [hW0]
  obtain ⟨⟨a0, a1, a2, a3, a4⟩, hz, hF0⟩ := nil5 w W0 hW0
  refine ((unhide HE) _).mono ?_
  rintro e w1 ⟨rfl, hF⟩
  have c0 := (hF.cell (lt_of_cell a0) (fun h => h)).trans a0
  have c1 := (hF.cell (lt_of_cell a1) (fun h => h)).trans a1
  have c2 := (hF.cell (lt_of_cell a2) (fun h => h)).trans a2
  have c3 := (hF.cell (lt_of_cell a3) (fun h => h)).trans a3
  have c4 := (hF.cell (lt_of_cell a4) (fun h => h)).trans a4
  have y0 := (hF.frozen (p := ⟨w.heap.size, 0, none⟩) (lt_of_cell a0) (fun h => h)).trans (hz 0 (by decide))
  have y1 := (hF.frozen (p := ⟨w.heap.size, 1, none⟩) (lt_of_cell a1) (fun h => h)).trans (hz 1 (by decide))
  have y2 := (hF.frozen (p := ⟨w.heap.size, 2, none⟩) (lt_of_cell a2) (fun h => h)).trans (hz 2 (by decide))
  have y3 := (hF.frozen (p := ⟨w.heap.size, 3, none⟩) (lt_of_cell a3) (fun h => h)).trans (hz 3 (by decide))
  have y4 := (hF.frozen (p := ⟨w.heap.size, 4, none⟩) (lt_of_cell a4) (fun h => h)).trans (hz 4 (by decide))
  have HF := hide (hF0.trans hF (fun _ _ h => h))
  have hP : w.heap.size ≤ w.heap.size := Nat.le_refl _
  clear hF hF0 a0 a1 a2 a3 a4 hz hW0
  generalize hPe : w.heap.size = P at *
  have HP := hide hPe
  clear hPe
  have l0 : P < w1.heap.size := lt_of_cell c0
  have l1 : P < w1.heap.size + 1 := Nat.lt_succ_of_lt l0
  go_wp2_with fail
  obtain ⟨W2, hW2⟩ : ∃ W2, ((((w1.setCell ⟨P, 0, none⟩ (.int .i64 (wi : Int))).setCell ⟨P, 1, none⟩ (.int .i64 0)).setCell ⟨P, 2, none⟩ (.int .i64 (EN : Int))).setCell ⟨P, 3, none⟩ (.slice ro rn rc)).setCell ⟨P, 4, none⟩ (.slice xo xn xc) = W2 := ⟨_, rfl⟩
  obtain ⟨k0, k1, k2, k3, k4⟩ := set5 w1 P _ _ _ _ _ (fun j hj => by
    match j, hj with
    | 0, _ => rw [c0]; rfl
    | 1, _ => rw [c1]; rfl
    | 2, _ => rw [c2]; rfl
    | 3, _ => rw [c3]; rfl
    | 4, _ => rw [c4]; rfl) W2 hW2
  have hPw : w.heap.size ≤ P := Nat.le_of_eq (unhide HP)
  have hF2 : Fr (fun _ => False) w W2 := by
    rw [← hW2]
    exact (((((unhide HF).setCell (p := ⟨P, 0, none⟩) (.inr hPw) _).setCell (p := ⟨P, 1, none⟩) (.inr hPw) _).setCell (p := ⟨P, 2, none⟩) (.inr hPw) _).setCell (p := ⟨P, 3, none⟩) (.inr hPw) _).setCell (p := ⟨P, 4, none⟩) (.inr hPw) _
  rw [hW2]
  obtain ⟨W3, hW3⟩ : ∃ W3, W2.alloc (.cells #[.int .i64 0, .int .i64 (EN : Int)] 57) = W3 := ⟨_, rfl⟩
  have hF3 : Fr (fun _ => False) W2 W3 := by rw [← hW3]; exact (Fr.refl _ _).alloc _
  rw [hW3]
  have j0 := (hF3.cell (lt_of_cell k0) (fun h => h)).trans k0
  have j1 := (hF3.cell (lt_of_cell k1) (fun h => h)).trans k1
  have j2 := (hF3.cell (lt_of_cell k2) (fun h => h)).trans k2
  have j3 := (hF3.cell (lt_of_cell k3) (fun h => h)).trans k3
  have j4 := (hF3.cell (lt_of_cell k4) (fun h => h)).trans k4
  refine bodyPost_ret (by simp [results, Tryd.results30, go_sem, j0, j1, j2, j3, j4]; try rfl) rfl ?_
  exact ⟨rfl, hF2.trans hF3 (fun _ _ h => h)⟩
end Go.Proofs.YthccbfgjekdiiaaDoor

