import Derived.Test.YtocdnomfpgdglabDoorPk1
import Derived.Test.YtocdnomfpgdglabDoorMaf
import Derived.Test.YtocdnomfpgdglabDoorMac
import Derived.Lib.SliceRun
namespace Go.Proofs.YtocdnomfpgdglabDoor
open Go.RowKit

theorem topv_wid (wi : Nat) (hw1 : 1 ≤ wi) (hw32 : wi ≤ 32) (r : List Nat) (hr : r.length = wi) (m : Nat) : ∀ f n tf tn (ps : List (List Nat)), n ≤ m → (topv wi r f n tf tn ps).length = wi := by
  intro f n tf tn ps _
  by_cases e : (f = tf ∧ n = tn) ∨ n < 2
  · rw [topv, dif_pos e]; exact hr
  · by_cases hl : tf < f + hf n
    · rw [topv_l (by omega) (by omega) hl]; exact nd_len wi hw1 hw32 _ _
    · rw [topv_r (by omega) (by omega) hl]; exact nd_len wi hw1 hw32 _ _
theorem getLastD_at (ps : List (List Nat)) (D : Nat) (h : ps.length = D + 1) : ps.getLastD [] = ps[D]'(by omega) := by
  have e : ps.length - 1 = D := by omega
  rw [List.getLastD_eq_getLast?, List.getLast?_eq_getElem?, e, List.getElem?_eq_getElem (by omega)]; rfl
set_option maxRecDepth 100000 in
set_option maxHeartbeats 2000000 in
/-- The root of a span as it comes out of a claim. -/
theorem top_any (wi : Nat) (hw1 : 1 ≤ wi) (hw32 : wi ≤ 32) (m : Nat) : ∀ (f n tf tn : Nat) (w : World) (ro : Option Addr) (rn rc : Nat) (r : List Nat) (x : Value) (vs : List Value) (ps : List (List Nat)), n ≤ m → f + n < 9223372036854775808 → Rch f n tf tn → GS w → Sl w (.slice ro rn rc) r → r.length = wi → Pcs w x vs ps → Cp x → ps.length = dep f n tf tn → (∀ p ∈ ps, p.length = wi) →
    Calls Tryd.prog 55 #[cv wi tf tn (.slice ro rn rc) x, sv f n] w fun e w' => ∃ uo un uc, e = .returned (.slice uo un uc) ∧ Sl w' (.slice uo un uc) (topv wi r f n tf tn ps) ∧ Fr (fun _ => False) w w' := by
  induction m with
  | zero =>
    intro f n tf tn w ro rn rc r x vs ps hm hb hr hg hs hrw hp hcx hpd hpw
    by_cases e : f = tf ∧ n = tn
    · obtain ⟨rfl, rfl⟩ := e
      rw [topv_eq]
      have eqs := fun w => eq_span f n f n w
      simp only [decide_true, and_self] at eqs
      have eg := Tryd.guard_span
      obtain ⟨xo, xc, rfl⟩ := hp.form
      have HS := hide hs
      clear hs hg hp hcx hpd hpw hrw
      generalize ps.length = N at *
      unfold sv cv
      go_enter Tryd.func55, Tryd.ntmps55
      go_wp2_with fail
      go_ret
      exact ⟨ro, rn, rc, rfl, (unhide HS).fr0 (((Fr.refl _ _).alloc _).alloc _), ((Fr.refl _ _).alloc _).alloc _⟩
    · have := (rch_ne hr e).1; omega
  | succ m ih =>
    intro f n tf tn w ro rn rc r x vs ps hm hb hr hg hs hrw hp hcx hpd hpw
    by_cases e : f = tf ∧ n = tn
    · obtain ⟨rfl, rfl⟩ := e
      rw [topv_eq]
      have eqs := fun w => eq_span f n f n w
      simp only [decide_true, and_self] at eqs
      have eg := Tryd.guard_span
      obtain ⟨xo, xc, rfl⟩ := hp.form
      have HS := hide hs
      clear hs hg hp hcx hpd hpw hrw
      generalize ps.length = N at *
      unfold sv cv
      go_enter Tryd.func55, Tryd.ntmps55
      go_wp2_with fail
      go_ret
      exact ⟨ro, rn, rc, rfl, (unhide HS).fr0 (((Fr.refl _ _).alloc _).alloc _), ((Fr.refl _ _).alloc _).alloc _⟩
    · obtain ⟨h2, r1, r2⟩ := rch_ne hr e
      have hlt := hf_lt n h2
      have hpos := hf_pos n
      have eqs := fun w => eq_span f n tf tn w
      rw [decide_eq_false e] at eqs
      have eg := Tryd.guard_span
      by_cases hl : tf < f + hf n
      · have hdp := dep_l h2 e hl
        obtain ⟨D, hD⟩ : ∃ D, dep f (hf n) tf tn = D := ⟨_, rfl⟩
        rw [hD] at hdp
        have hlen : ps.length = D + 1 := by rw [hpd, hdp]
        obtain ⟨xo, xc, rfl⟩ := hp.form
        rw [hlen] at hp hcx ⊢
        obtain ⟨g, o, v, rfl, hcell, -⟩ := hp.cell (Fr.refl _ _) D (by omega)
        have hDb : D ≤ n := by rw [← hD]; have := dep_le _ f (hf n) tf tn (Nat.le_refl _); omega
        have hDc : D < 9223372036854775807 := by have h1 := dep_le _ f n tf tn (Nat.le_refl _); omega
        have hcap : D + 1 ≤ xc := hcx _ _ _ rfl
        have hvD : vs[D]? = some v := by
          have hvl : D < vs.length := by rw [hp.len]; omega
          rcases hp.at_ with ⟨e', _⟩ | ⟨_, _, e', _⟩ | ⟨g', o', c', e', _, hc'⟩
          · simp at e'
          · simp at e'
          · simp only [Value.slice.injEq, Option.some.injEq, Addr.mk.injEq, and_true] at e'
            obtain ⟨⟨rfl, rfl⟩, _⟩ := e'
            have h1 := hc' D _ (List.getElem?_eq_getElem hvl)
            rw [h1] at hcell
            rw [List.getElem?_eq_getElem hvl, Option.some.inj hcell]
        have hsv : Sl w v ps[D] := hp.sl D v _ hvD (List.getElem?_eq_getElem (by omega))
        have hdl : ps.dropLast = ps.take D := by rw [List.dropLast_eq_take, hlen]; rfl
        have hgl : ps.getLastD [] = ps[D] := getLastD_at ps D hlen
        have hp' := hp.take D (by omega)
        have htop : ∀ w', Fr (fun _ => False) w w' → _ := fun w' hf' => ih f (hf n) tf tn w' ro rn rc r _ _ (ps.take D) (by omega) (by omega) (r1 hl) (hg.fr0 hf') (hs.fr0 hf') hrw (hp'.fr0 hf') (fun _ _ _ e => by cases e; omega) (by rw [List.length_take]; omega) (fun p hp => hpw p (List.mem_of_mem_take hp))
        rw [topv_l h2 e hl, hdl, hgl]
        have hTw := topv_wid wi hw1 hw32 r hrw _ f (hf n) tf tn (ps.take D) (Nat.le_refl _)
        have hAw := hpw ps[D] (List.getElem_mem _)
        obtain ⟨va, vn, vc, rfl⟩ : ∃ a n c, v = .slice a n c := by
          obtain ⟨a, c, e⟩ := hsv.form
          exact ⟨_, _, _, e⟩
        have hsd := fun (w' : World) (hf' : Fr (fun _ => False) w w') => sides_l wi tf tn f n D xc g o ro rn rc (.slice va vn vc) w' ((hf'.cell (lt_of_cell hcell) (fun h => h)).trans hcell) hcap hDc ⟨_, _, _, rfl⟩ h2 hb hl _ (fun w'' hf'' => htop w'' (hf'.trans hf'' (fun _ _ h => h)))
        generalize topv wi r f (hf n) tf tn (ps.take D) = T at *
        generalize ps[D] = A at *
        have hnd := nd_len wi hw1 hw32 T A
        have hnode : ∀ w' x y, GS w' → Sl w' x T → Sl w' y A → Calls Tryd.prog 33 #[.int .i64 wi, x, y] w' fun e w'' => ∃ yo, e = .returned (.slice yo wi wi) ∧ OB w' w'' yo wi (nd wi T A) := fun w' x y hg hx hy => by
          have := node_any (wi : Int) x y T A w' hg hx hy (by omega) (by omega)
          rw [hnd] at this
          exact this
        have HC := hide (And.intro hsd (And.intro hnode (And.intro hg (And.intro hsv (And.intro (nd_lt (wi : Int) T A) hnd)))))
        clear hDc hsd hnode hg hsv hp hp' htop hTw hAw hdl hgl hvD hDb hcap hcell hlen hdp hD hs hpw hrw hcx hpd ih r1 r2 hr hlt hpos hl hnd hm h2 hb e
        unfold sv cv at *
        go_enter Tryd.func55, Tryd.ntmps55
        go_wp2_with fail
        obtain ⟨W0, hW0⟩ : ∃ W0, (w.alloc (.cells #[.int .i64 wi, .int .i64 tf, .int .i64 tn, .slice ro rn rc, .slice (some ⟨g, o, none⟩) (D + 1) xc] 67)).alloc (.cells #[.int .i64 f, .int .i64 n] 61) = W0 := ⟨_, rfl⟩
        rw [hW0]
        obtain ⟨⟨a0, -⟩, -, -, hF0⟩ := box52 w _ _ _ _ _ _ _ _ _ W0 hW0
        refine ((unhide HC).1 _ hF0).mono ?_
        rintro e' wA ⟨uo, un, uc, rfl, hS, hFA⟩
        have b0 := (hFA.cell (lt_of_cell a0) (fun h => h)).trans a0
        have HA := hide (And.intro hS (hF0.trans hFA (fun _ _ h => h)))
        clear hFA hF0 a0 hW0 hS
        generalize w.heap.size = P at *
        go_wp2_with fail
        refine ((unhide HC).2.1 _ _ _ ((unhide HC).2.2.1.fr0 (unhide HA).2) (unhide HA).1 ((unhide HC).2.2.2.1.fr0 (unhide HA).2)).mono ?_
        rintro e' wB ⟨zo, rfl, hO⟩
        have hsl := hO.sl (unhide HC).2.2.2.2.1
        rw [(unhide HC).2.2.2.2.2] at hsl
        have HB := hide (And.intro hsl ((unhide HA).2.trans hO.fr (fun _ _ h => h)))
        clear hO hsl
        go_wp2_with fail
        go_ret
        exact ⟨zo, wi, wi, rfl, (unhide HB).1, (unhide HB).2⟩
      · have hdp := dep_r h2 e hl
        obtain ⟨D, hD⟩ : ∃ D, dep (f + hf n) (n - hf n) tf tn = D := ⟨_, rfl⟩
        rw [hD] at hdp
        have hlen : ps.length = D + 1 := by rw [hpd, hdp]
        obtain ⟨xo, xc, rfl⟩ := hp.form
        rw [hlen] at hp hcx ⊢
        obtain ⟨g, o, v, rfl, hcell, -⟩ := hp.cell (Fr.refl _ _) D (by omega)
        have hDb : D ≤ n := by rw [← hD]; have := dep_le _ (f + hf n) (n - hf n) tf tn (Nat.le_refl _); omega
        have hDc : D < 9223372036854775807 := by have h1 := dep_le _ f n tf tn (Nat.le_refl _); omega
        have hcap : D + 1 ≤ xc := hcx _ _ _ rfl
        have hvD : vs[D]? = some v := by
          have hvl : D < vs.length := by rw [hp.len]; omega
          rcases hp.at_ with ⟨e', _⟩ | ⟨_, _, e', _⟩ | ⟨g', o', c', e', _, hc'⟩
          · simp at e'
          · simp at e'
          · simp only [Value.slice.injEq, Option.some.injEq, Addr.mk.injEq, and_true] at e'
            obtain ⟨⟨rfl, rfl⟩, _⟩ := e'
            have h1 := hc' D _ (List.getElem?_eq_getElem hvl)
            rw [h1] at hcell
            rw [List.getElem?_eq_getElem hvl, Option.some.inj hcell]
        have hsv : Sl w v ps[D] := hp.sl D v _ hvD (List.getElem?_eq_getElem (by omega))
        have hdl : ps.dropLast = ps.take D := by rw [List.dropLast_eq_take, hlen]; rfl
        have hgl : ps.getLastD [] = ps[D] := getLastD_at ps D hlen
        have hp' := hp.take D (by omega)
        have htop : ∀ w', Fr (fun _ => False) w w' → _ := fun w' hf' => ih (f + hf n) (n - hf n) tf tn w' ro rn rc r _ _ (ps.take D) (by omega) (by omega) (r2 hl) (hg.fr0 hf') (hs.fr0 hf') hrw (hp'.fr0 hf') (fun _ _ _ e => by cases e; omega) (by rw [List.length_take]; omega) (fun p hp => hpw p (List.mem_of_mem_take hp))
        rw [topv_r h2 e hl, hdl, hgl]
        have hTw := topv_wid wi hw1 hw32 r hrw _ (f + hf n) (n - hf n) tf tn (ps.take D) (Nat.le_refl _)
        have hAw := hpw ps[D] (List.getElem_mem _)
        obtain ⟨va, vn, vc, rfl⟩ : ∃ a n c, v = .slice a n c := by
          obtain ⟨a, c, e⟩ := hsv.form
          exact ⟨_, _, _, e⟩
        have hsd := fun (w' : World) (hf' : Fr (fun _ => False) w w') => sides_r wi tf tn f n D xc g o ro rn rc (.slice va vn vc) w' ((hf'.cell (lt_of_cell hcell) (fun h => h)).trans hcell) hcap hDc ⟨_, _, _, rfl⟩ h2 hb hl _ (fun w'' hf'' => htop w'' (hf'.trans hf'' (fun _ _ h => h)))
        generalize topv wi r (f + hf n) (n - hf n) tf tn (ps.take D) = T at *
        generalize ps[D] = A at *
        have hnd := nd_len wi hw1 hw32 A T
        have hnode : ∀ w' x y, GS w' → Sl w' x A → Sl w' y T → Calls Tryd.prog 33 #[.int .i64 wi, x, y] w' fun e w'' => ∃ yo, e = .returned (.slice yo wi wi) ∧ OB w' w'' yo wi (nd wi A T) := fun w' x y hg hx hy => by
          have := node_any (wi : Int) x y A T w' hg hx hy (by omega) (by omega)
          rw [hnd] at this
          exact this
        have HC := hide (And.intro hsd (And.intro hnode (And.intro hg (And.intro hsv (And.intro (nd_lt (wi : Int) A T) hnd)))))
        clear hDc hsd hnode hg hsv hp hp' htop hTw hAw hdl hgl hvD hDb hcap hcell hlen hdp hD hs hpw hrw hcx hpd ih r1 r2 hr hlt hpos hl hnd hm h2 hb e
        unfold sv cv at *
        go_enter Tryd.func55, Tryd.ntmps55
        go_wp2_with fail
        obtain ⟨W0, hW0⟩ : ∃ W0, (w.alloc (.cells #[.int .i64 wi, .int .i64 tf, .int .i64 tn, .slice ro rn rc, .slice (some ⟨g, o, none⟩) (D + 1) xc] 67)).alloc (.cells #[.int .i64 f, .int .i64 n] 61) = W0 := ⟨_, rfl⟩
        rw [hW0]
        obtain ⟨⟨a0, -⟩, -, -, hF0⟩ := box52 w _ _ _ _ _ _ _ _ _ W0 hW0
        refine ((unhide HC).1 _ hF0).mono ?_
        rintro e' wA ⟨uo, un, uc, rfl, hS, hFA⟩
        have b0 := (hFA.cell (lt_of_cell a0) (fun h => h)).trans a0
        have HA := hide (And.intro hS (hF0.trans hFA (fun _ _ h => h)))
        clear hFA hF0 a0 hW0 hS
        generalize w.heap.size = P at *
        go_wp2_with fail
        refine ((unhide HC).2.1 _ _ _ ((unhide HC).2.2.1.fr0 (unhide HA).2) ((unhide HC).2.2.2.1.fr0 (unhide HA).2) (unhide HA).1).mono ?_
        rintro e' wB ⟨zo, rfl, hO⟩
        have hsl := hO.sl (unhide HC).2.2.2.2.1
        rw [(unhide HC).2.2.2.2.2] at hsl
        have HB := hide (And.intro hsl ((unhide HA).2.trans hO.fr (fun _ _ h => h)))
        clear hO hsl
        go_wp2_with fail
        go_ret
        exact ⟨zo, wi, wi, rfl, (unhide HB).1, (unhide HB).2⟩
end Go.Proofs.YtocdnomfpgdglabDoor

namespace Go.Proofs.YtocdnomfpgdglabDoor
open Go.RowKit

/-- Has each the width? -/
def wdq (j : Int) (ps : List (List Nat)) : Bool := ps.all fun p => decide ((p.length : Int) = j)
theorem wdq_take (j : Int) (ps : List (List Nat)) (k : Nat) (hk : k < ps.length) : wdq j (ps.take (k + 1)) = (wdq j (ps.take k) && decide ((ps[k].length : Int) = j)) := by
  rw [wdq, wdq, List.take_add_one, List.getElem?_eq_getElem hk, Option.toList_some, List.all_append]; simp
theorem wdq_false (j : Int) (ps : List (List Nat)) (k : Nat) (hk : k < ps.length) (h : ¬ (ps[k].length : Int) = j) : wdq j ps = false := by
  rw [wdq, List.all_eq_false]
  exact ⟨ps[k], List.getElem_mem hk, by simp [h]⟩
theorem wdq_true {j : Int} {ps : List (List Nat)} (h : wdq j ps = true) : ∀ p ∈ ps, (p.length : Int) = j := fun p hp => by
  rw [wdq, List.all_eq_true] at h
  simpa using h p hp
theorem Pcs.nth {w w' : World} {xo : Option Addr} {n xc : Nat} {vs : List Value} {ps : List (List Nat)} (h : Pcs w (.slice xo n xc) vs ps) (hf : Fr (fun _ => False) w w') (k : Nat) (hk : k < ps.length) : ∃ g o vo vc, xo = some ⟨g, o, none⟩ ∧ w'.cell? ⟨g, o + k, none⟩ = some (.slice vo ps[k].length vc) ∧ Sl w' (.slice vo ps[k].length vc) ps[k] := by
  obtain ⟨g, o, v, e, hc, hs, hcap, hlt, _⟩ := h.cell hf k hk
  obtain ⟨vo, vc, rfl⟩ := hs.form
  exact ⟨g, o, vo, vc, e, hc, hs, hcap, hlt.imp id (fun hh g o n c e => Nat.lt_of_lt_of_le (hh g o n c e) hf.size), h.byt _ (List.getElem_mem hk)⟩
set_option maxRecDepth 100000 in
set_option maxHeartbeats 1000000 in
/-- merkle.wide. -/
theorem wide_any (j : Int) (x : Value) (vs : List Value) (ps : List (List Nat)) (w : World) (hp : Pcs w x vs ps) (hn : ps.length < 4611686018427387904) :
    Calls Tryd.prog 53 #[.int .i64 j, x] w fun e w' => e = .returned (.bool (wdq j ps)) ∧ w' = w := by
  obtain ⟨xo, xc, rfl⟩ := hp.form
  have HG := hide (And.intro hp hn)
  clear hp hn
  generalize hN : ps.length = N at *
  go_enter Tryd.func53, Tryd.ntmps53
  go_wp2_with fail
  go_loopw [9] (fun iv wr => ∃ (k : Nat), k ≤ N ∧ iv = .int .i64 (k : Nat) ∧ wr = w ∧ wdq j (ps.take k) = true) (fun iv _ => N - (intOf iv).toNat)
  case atStart => exact ⟨0, Nat.zero_le _, rfl, rfl, by simp [wdq]⟩
  case round =>
    obtain ⟨k, hk, rfl, rfl, hw⟩ := hrel
    have hN8 := (unhide HG).2
    by_cases hlt : k < N
    · have hlt' : (k : Int) < (N : Int) := by omega
      have hke : k < ps.length := by omega
      obtain ⟨g, o, vo, vc, rfl, hcell, -⟩ := (unhide HG).1.nth (Fr.refl _ _) k hke
      by_cases he : (ps[k].length : Int) = j
      · have hw2 : wdq j (ps.take (k + 1)) = true := by rw [wdq_take j ps k hke, hw, decide_eq_true he]; rfl
        have HW := hide hw2
        clear hw2 hw
        have w1 : IntKind.i64.wrap ((k : Int) + 1) = (k : Int) + 1 := by rw [IntKind.wrap_i64]; omega
        have hee : ((ps[k].length : Int) == j) = true := by rw [he]; simp
        subst he
        generalize ps[k].length = EL at *
        go_wp2_with fail
        exact ⟨⟨k + 1, by omega, by go_num, by first | rfl | trivial, unhide HW⟩, by simp [intOf]; omega⟩
      · have hf := wdq_false j ps k hke he
        have HW := hide hf
        clear hf hw
        have hee : ((ps[k].length : Int) == j) = false := beq_false_of_ne he
        generalize ps[k].length = EL at *
        go_wp2_with fail
        go_ret
        exact ⟨by rw [unhide HW]; rfl, rfl⟩
    · have hkN : k = N := by omega
      have hlt' : ¬ (k : Int) < (N : Int) := by omega
      have htk : ps.take k = ps := List.take_of_length_le (by omega)
      rw [htk] at hw
      have HW := hide hw
      clear hw htk hkN
      go_wp2_with fail
      go_ret
      exact ⟨by rw [unhide HW]; rfl, rfl⟩
set_option maxRecDepth 100000 in
theorem ofEntry_any (wi i : Nat) (ro : Option Addr) (rn rc : Nat) (xo : Option Addr) (xn xc : Nat) (w : World) :
    Calls Tryd.prog 38 #[.int .i64 wi, .slice ro rn rc, .int .i64 i, .slice xo xn xc] w fun e w' => e = .returned (cv wi i 1 (.slice ro rn rc) (.slice xo xn xc)) ∧ Fr (fun _ => False) w w' := by
  unfold cv
  go_enter Tryd.func38, Tryd.ntmps38
  go_wp2_with fail
  go_returns
  exact ⟨rfl, (Fr.refl _ _).alloc _⟩
set_option maxRecDepth 100000 in
set_option maxHeartbeats 1000000 in
theorem fits_any (wi f n tf tn : Nat) (ro : Option Addr) (rn rc : Nat) (xo : Option Addr) (N xc : Nat) (w : World) (hb : f + n < 9223372036854775808) (hr : Rch f n tf tn) :
    Calls Tryd.prog 54 #[cv wi tf tn (.slice ro rn rc) (.slice xo N xc), sv f n] w fun e w' => e = .returned (.bool (decide (N = dep f n tf tn))) ∧ Fr (fun _ => False) w w' := by
  have hd := fun w => depth_any n f n tf tn w (Nat.le_refl _) hb hr
  unfold DepSays at hd
  have hee : ((N : Int) == ((dep f n tf tn : Nat) : Int)) = decide (N = dep f n tf tn) := by
    by_cases h : N = dep f n tf tn
    · simp [h]
    · rw [decide_eq_false h]; exact beq_false_of_ne (by omega)
  generalize dep f n tf tn = D at *
  generalize hB : decide (N = D) = B1 at *
  have HD := hide hd
  clear hd hr hb hB
  unfold cv sv at *
  go_enter Tryd.func54, Tryd.ntmps54
  go_wp2_with fail
  obtain ⟨W0, hW0⟩ : ∃ W0, (w.alloc (.cells #[.int .i64 wi, .int .i64 tf, .int .i64 tn, .slice ro rn rc, .slice xo N xc] 67)).alloc (.cells #[.int .i64 f, .int .i64 n] 61) = W0 := ⟨_, rfl⟩
  rw [hW0]
  obtain ⟨⟨a0, a1, a2, a3, a4⟩, b0, b1, hF0⟩ := box52 w _ _ _ _ _ _ _ _ _ W0 hW0
  have HF := hide hF0
  clear hF0 hW0 a0 a3
  generalize w.heap.size = P at *
  have hS : ∀ w', Fr (fun _ => False) W0 w' → w'.cell? ⟨P, 1, none⟩ = some (.int .i64 tf) ∧ w'.cell? ⟨P, 2, none⟩ = some (.int .i64 tn) ∧ w'.cell? ⟨P, 4, none⟩ = some (.slice xo N xc) ∧ w'.cell? ⟨P + 1, 0, none⟩ = some (.int .i64 f) ∧ w'.cell? ⟨P + 1, 1, none⟩ = some (.int .i64 n) := fun w' hf =>
    ⟨(hf.cell (lt_of_cell a1) (fun h => h)).trans a1, (hf.cell (lt_of_cell a2) (fun h => h)).trans a2, (hf.cell (lt_of_cell a4) (fun h => h)).trans a4, (hf.cell (lt_of_cell b0) (fun h => h)).trans b0, (hf.cell (lt_of_cell b1) (fun h => h)).trans b1⟩
  have HS := hide hS
  clear hS
  go_region_held3 (fun w' => w'.cell? ⟨P, 1, none⟩ = some (.int .i64 tf) ∧ w'.cell? ⟨P, 2, none⟩ = some (.int .i64 tn) ∧ w'.cell? ⟨P, 4, none⟩ = some (.slice xo N xc) ∧ w'.cell? ⟨P + 1, 0, none⟩ = some (.int .i64 f) ∧ w'.cell? ⟨P + 1, 1, none⟩ = some (.int .i64 n))
    (first | assumption | exact (unhide HS) _ (Fr.refl _ _).drew | exact (unhide HS) _ ((Fr.refl _ _).drew.trans fC (fun _ _ h => h)))
    (first
      | (go_at_call 91; refine ((unhide HD) _).mono ?_; rintro e wC ⟨rfl, fC⟩))
  have HE := hide ((unhide HF).drew.trans fC (fun _ _ h => h))
  clear fC
  go_wp2_with fail
  go_ret
  exact ⟨rfl, unhide HE⟩
theorem Sl.ints {w : World} {xo : Option Addr} {n c : Nat} {l : List Nat} (h : Sl w (.slice xo n c) l) : (l.map fun v : Nat => (v : Int)).length = n ∧ Lib.BytesIn w xo n (l.map fun v : Nat => (v : Int)) := by
  obtain ⟨a, c', e⟩ := h.form
  simp only [Value.slice.injEq] at e
  have hn : l.length = n := e.2.1.symm
  refine ⟨by simp [hn], ?_⟩
  by_cases h0 : l = []
  · subst h0
    have : n = 0 := by rw [← hn]; rfl
    subst this
    rcases xo with _ | a
    · exact Lib.BytesIn.nil _ _ _
    · exact Lib.BytesIn.of_cells (fun i hi => by simp at hi)
  · obtain ⟨g, o, rfl, _⟩ := src_cell h.s 0 (List.length_pos_iff.2 h0) h.b
    refine Lib.BytesIn.of_cells (fun i hi => ?_)
    have hi' : i < l.length := by omega
    obtain ⟨g', o', e', hc⟩ := src_cell h.s i hi' h.b
    simp only [Option.some.injEq, Addr.mk.injEq, and_true] at e'
    obtain ⟨rfl, rfl⟩ := e'
    rw [add_at2, hc]
    simp [List.getD, List.getElem?_eq_getElem hi']
theorem bytesOf_inj {a b : List Nat} (ha : ∀ v ∈ a, v < 256) (hb : ∀ v ∈ b, v < 256) : (Lib.bytesOf (a.map fun v : Nat => (v : Int)) == Lib.bytesOf (b.map fun v : Nat => (v : Int))) = decide (a = b) := by
  by_cases h : a = b
  · subst h; simp
  · rw [decide_eq_false h, beq_eq_false_iff_ne]
    intro e
    apply h
    have key : ∀ l : List Nat, (∀ v ∈ l, v < 256) → (Lib.bytesOf (l.map fun v : Nat => (v : Int))).map UInt8.toNat = l := fun l hl => by
      rw [Lib.bytesOf, List.map_map, List.map_map]
      conv => rhs; rw [← List.map_id l]
      apply List.map_congr_left
      intro v hv
      have := hl v hv
      simp
      omega
    rw [← key a ha, ← key b hb, e]
/-- bytes.Equal. -/
theorem beq_sl (x y : Value) (a b : List Nat) (w : World) (hx : Sl w x a) (hy : Sl w y b) : Calls Tryd.prog 35 #[x, y] w fun e w' => e = .returned (.bool (decide (a = b))) ∧ w' = w := by
  obtain ⟨xo, xc, rfl⟩ := hx.form
  obtain ⟨yo, yc, rfl⟩ := hy.form
  have := beq_any xo yo a.length xc b.length yc _ _ w hx.ints.1 hy.ints.1 hx.ints.2 hy.ints.2
  rw [bytesOf_inj hx.b hy.b] at this
  exact this
end Go.Proofs.YtocdnomfpgdglabDoor

namespace Go.Proofs.YtocdnomfpgdglabDoor
open Go.RowKit

set_option maxRecDepth 100000 in
set_option maxHeartbeats 1000000 in
/-- same, of lists that are the same. -/
theorem msame_T (x y : Value) (vs us : List Value) (ps : List (List Nat)) (w : World) (hx : Pcs w x vs ps) (hy : Pcs w y us ps) (hB : ∀ p ∈ ps, p.length ≤ 1000000) (hn : ps.length ≤ 16000000) :
    Calls Tryd.prog 101 #[x, y] w fun e w' => e = .returned (.bool true) ∧ Fr (fun _ => False) w w' := by
  obtain ⟨xo, xc, rfl⟩ := hx.form
  obtain ⟨yo, yc, rfl⟩ := hy.form
  have HG := hide (And.intro hx (And.intro hy (And.intro hB hn)))
  clear hx hy hB hn
  generalize hN : ps.length = N at *
  go_enter Tryd.func101, Tryd.ntmps101
  go_wp2_with fail
  go_loopw [5] (fun iv wr => ∃ (k : Nat), k ≤ N ∧ iv = .int .i64 (k : Nat) ∧ Fr (fun _ => False) w wr) (fun iv _ => N - (intOf iv).toNat)
  case atStart => exact ⟨0, Nat.zero_le _, rfl, Fr.refl _ _⟩
  case round =>
    obtain ⟨k, hk, rfl, hF⟩ := hrel
    have hN8 := (unhide HG).2.2.2
    by_cases hlt : k < N
    · have hlt' : (k : Int) < (N : Int) := by omega
      have hke : k < ps.length := by omega
      obtain ⟨g, o, vo, vc, rfl, c1, s1⟩ := (unhide HG).1.nth hF k hke
      obtain ⟨g2, o2, uo, uc, rfl, c2, s2⟩ := (unhide HG).2.1.nth hF k hke
      have hpb := (unhide HG).2.2.1 ps[k] (List.getElem_mem hke)
      have hsm : sameB ps[k] ps[k] = true := sameB_refl _
      have hsame := fun (w' : World) (hf : Fr (fun _ => False) wr w') => same_T (s1.s.fr0 hf) (s2.s.fr0 hf) (by omega) hsm
      generalize ps[k].length = PL at *
      have HS := hide (And.intro hsame hF)
      clear hsame hF s1 s2 hsm
      have w5 : IntKind.i64.wrap ((k : Int) + 1) = (k : Int) + 1 := by rw [IntKind.wrap_i64]; omega
      have hS : ∀ w', Fr (fun _ => False) wr w' → w'.cell? ⟨g, o + k, none⟩ = some (.slice vo PL vc) ∧ w'.cell? ⟨g2, o2 + k, none⟩ = some (.slice uo PL uc) := fun w' hf => ⟨(hf.cell (lt_of_cell c1) (fun h => h)).trans c1, (hf.cell (lt_of_cell c2) (fun h => h)).trans c2⟩
      have HSS := hide hS
      clear hS
      go_wp2_with fail
      go_region_held3 (fun w' => w'.cell? ⟨g, o + k, none⟩ = some (.slice vo PL vc) ∧ w'.cell? ⟨g2, o2 + k, none⟩ = some (.slice uo PL uc))
        (first | assumption | exact (unhide HSS) _ (Fr.refl _ _).drew | exact (unhide HSS) _ fC)
        (first | (go_at_call 11; refine ((unhide HS).1 _ (by exact (Fr.refl _ _).drew)).mono ?_; rintro e wC ⟨rfl, hC⟩; have fC : Fr (fun _ => False) wr wC := (Fr.refl _ _).drew.trans hC (fun _ _ h => h)))
      have HE := hide ((unhide HS).2.trans fC (fun _ _ h => h))
      clear fC hC
      go_wp2_with fail
      exact ⟨⟨k + 1, by omega, by go_num, unhide HE⟩, by simp [intOf]; omega⟩
    · have hlt' : ¬ (k : Int) < (N : Int) := by omega
      have HE := hide hF
      clear hF
      go_wp2_with fail
      go_ret
      exact ⟨rfl, unhide HE⟩
set_option maxRecDepth 100000 in
set_option maxHeartbeats 1000000 in
/-- apart, of hashes that bear their marks. -/
theorem apart_T (x : Value) (vs : List Value) (qs : List (List Nat)) (w : World) (hx : Pcs w x vs qs) (hm : Mkd qs qs.length) (hB : ∀ p ∈ qs, p.length ≤ 1000000) (hn : qs.length ≤ 16000000) :
    Calls Tryd.prog 103 #[x] w fun e w' => e = .returned (.bool true) ∧ w' = w := by
  obtain ⟨xo, xc, rfl⟩ := hx.form
  have HG := hide (And.intro hx (And.intro hm (And.intro hB hn)))
  clear hx hm hB hn
  generalize hN : qs.length = N at *
  go_enter Tryd.func103, Tryd.ntmps103
  go_wp2_with fail
  go_loopw [3] (fun iv wr => ∃ (k : Nat), k ≤ N ∧ iv = .int .i64 (k : Nat) ∧ wr = w) (fun iv _ => N - (intOf iv).toNat)
  case atStart => exact ⟨0, Nat.zero_le _, rfl, rfl⟩
  case round =>
    obtain ⟨k, hk, rfl, rfl⟩ := hrel
    have hN8 := (unhide HG).2.2.2
    by_cases hlt : k < N
    · have hlt' : (k : Int) < (N : Int) := by omega
      have hke : k < qs.length := by omega
      obtain ⟨g, o, vo, vc, rfl, c1, s1⟩ := (unhide HG).1.nth (Fr.refl _ _) k hke
      have hpb := (unhide HG).2.2.1 qs[k] (List.getElem_mem hke)
      have hmk := (unhide HG).2.1 k qs[k] hlt (List.getElem?_eq_getElem hke)
      generalize qs[k] = q at *
      have HS := hide (And.intro s1 hmk)
      clear s1 hmk
      generalize hL : q.length = L at *
      obtain ⟨V, hV⟩ : ∃ V, (99 + k) % 256 = V := ⟨_, rfl⟩
      have r1 : IntKind.i64.wrap (99 + (k : Int)) = 99 + (k : Int) := by rw [IntKind.wrap_i64]; omega
      have r2 : IntKind.u8.wrap (99 + (k : Int)) = (V : Int) := by rw [IntKind.wrap_u8]; omega
      have w3 : IntKind.i64.wrap ((k : Int) + 1) = (k : Int) + 1 := by rw [IntKind.wrap_i64]; omega
      have HV := hide hV
      clear hV
      go_wp2_with fail
      go_loopw [4] (fun jv wz => ∃ (j : Nat), j ≤ L ∧ jv = .int .i64 (j : Nat) ∧ wz = wr) (fun jv _ => L - (intOf jv).toNat)
      case atStart => exact ⟨0, Nat.zero_le _, rfl, rfl⟩
      case round =>
        obtain ⟨j, hj, rfl, rfl⟩ := hrel
        by_cases hjl : j < L
        · have hjl' : (j : Int) < (L : Int) := by omega
          obtain ⟨g1, o1, rfl, b1⟩ := src_cell (unhide HS).1.s j (by omega) (unhide HS).1.b
          have hu : q.getD j 0 = V := by
            rw [List.getD, List.getElem?_eq_getElem (by omega), Option.getD_some, ← unhide HV]
            exact (unhide HS).2 _ (List.getElem_mem _)
          rw [hu] at b1
          have w4 : IntKind.i64.wrap ((j : Int) + 1) = (j : Int) + 1 := by rw [IntKind.wrap_i64]; omega
          clear hu
          go_wp2_with fail
          exact ⟨⟨j + 1, by omega, by go_num, by first | rfl | trivial⟩, by simp [intOf]; omega⟩
        · have hjl' : ¬ (j : Int) < (L : Int) := by omega
          go_wp2_with fail
          exact ⟨⟨k + 1, by omega, by go_num, by first | rfl | trivial⟩, by simp [intOf]; omega⟩
    · have hlt' : ¬ (k : Int) < (N : Int) := by omega
      go_wp2_with fail
      go_ret
      exact ⟨rfl, by first | rfl | trivial⟩
/-- Hashes made later stay where what was made before them is written. -/
theorem OL.pcs_ge {w wr wq : World} {ao : Option Addr} {cp : Nat} {vs : List Value} {ps : List (List Nat)} (h : OL w wr ao cp vs ps) (hf : Fr (fun k => k < w.heap.size) wr wq) : Pcs wq (.slice ao vs.length cp) vs ps := by
  have hp := h.pcs
  refine ⟨hp.len, ?_, fun j v p hv hpp => ?_, hp.byt⟩
  · rcases h.own.own.2 with ⟨e, e0⟩ | ⟨g, cap, cur, e, h1, _⟩
    · simp only [Value.slice.injEq] at e
      obtain ⟨rfl, _, rfl⟩ := e
      exact .inl ⟨by rw [e0], List.length_eq_zero_iff.1 e0⟩
    · simp only [Value.slice.injEq, true_and] at e
      obtain ⟨rfl, rfl⟩ := e
      have hg := h.own.own.lt g rfl
      refine .inr (.inr ⟨g, 0, cp, rfl, Nat.lt_of_lt_of_le hg.2 hf.size, fun j v hv => ?_⟩)
      have hj : j < vs.length := (List.getElem?_eq_some_iff.1 hv).1
      rw [Nat.zero_add, hf.cell (p := ⟨g, j, none⟩) hg.2 (by simp only; omega), h.own.own.cellAt j (by omega), hv]
  · obtain ⟨bo, c, rfl, hO⟩ := h.row j v p hv hpp
    have hO2 : Ow wq w.heap.size bo c p := hO.fr hf (fun k hk h => by omega)
    have := hO2.sl (h.byt p (List.mem_of_getElem? hpp))
    exact ⟨this.s, this.cap, this.lt⟩
theorem OL.inner_lt' {w wr : World} {ao : Option Addr} {cp : Nat} {vs : List Value} {ps : List (List Nat)} (h : OL w wr ao cp vs ps) : (∀ v ∈ vs, ∀ g, v.ownBlock = some g → g < wr.heap.size) ∧ ∀ g, (Value.slice ao vs.length cp).ownBlock = some g → g < wr.heap.size :=
  ⟨fun v hv g hg => (h.inner_lt v hv g hg).2, fun g hg => (h.own.own.lt g hg).2⟩
set_option maxRecDepth 100000 in
set_option maxHeartbeats 1000000 in
theorem held_T {w2 w3 w4 : World} {ao bo : Option Addr} {cp bc : Nat} {vs us ts : List Value} {ps : List (List Nat)} {z : Value} (ha : OL w2 w3 ao cp vs ps) (hb : OL w3 w4 bo bc us ps) (hz : Pcs w2 z ts ps) (c : Int) (hB : ∀ p ∈ ps, p.length ≤ 1000) (hn : ps.length ≤ 8000000) :
    Calls Tryd.prog 67 #[.slice ao vs.length cp, .int .i64 c, .slice bo us.length bc, .int .i64 c, z, .int .i64 c] w4 fun e w' => e = .returned (.bool true) ∧ Fr (fun _ => False) w2 w' := by
  have hB2 : ∀ p ∈ ps, p.length ≤ 1000000 := fun p hp => by have := hB p hp; omega
  have ha4 := ha.fr0 hb.own.fr
  have h1 := fun w' (hf : Fr (fun _ => False) w4 w') => msame_T _ _ vs ts ps w' (ha4.fr0 hf).pcs (((hz.fr0 ha.own.fr).fr0 hb.own.fr).fr0 hf) hB2 (by omega)
  have h2 := fun w' (hf : Fr (fun _ => False) w4 w') => msame_T _ _ us ts ps w' (hb.fr0 hf).pcs (((hz.fr0 ha.own.fr).fr0 hb.own.fr).fr0 hf) hB2 (by omega)
  have hl := ha.inner_lt'
  have hsp := fun w' (hf : Fr (fun _ => False) w4 w') => spoil_any (ha4.fr0 hf) w3.heap.size hB (by rw [ha.len]; exact hn) hl.1 hl.2
  have hap : ∀ w' qs, OL w2 w' ao cp vs qs → Mkd qs vs.length → Calls Tryd.prog 103 #[.slice ao vs.length cp] w' fun e w'' => e = .returned (.bool true) ∧ w'' = w' := fun w' qs hq hm => by
    refine apart_T _ vs qs w' hq.pcs (by rw [← hq.len]; exact hm) (fun q hqm => ?_) (by rw [← hq.len, ha.len]; omega)
    obtain ⟨j, hj, rfl⟩ := List.getElem_of_mem hqm
    have hjv : j < vs.length := by rw [hq.len]; exact hj
    have hjp : j < ps.length := by rw [← ha.len]; exact hjv
    obtain ⟨b1, c1, e1, _⟩ := hq.row j vs[j] qs[j] (List.getElem?_eq_getElem hjv) (List.getElem?_eq_getElem hj)
    obtain ⟨b2, c2, e2, _⟩ := ha.row j vs[j] ps[j] (List.getElem?_eq_getElem hjv) (List.getElem?_eq_getElem hjp)
    rw [e1] at e2
    simp only [Value.slice.injEq] at e2
    rw [e2.2.1]
    exact hB2 _ (List.getElem_mem _)
  have h3 := fun w' w'' (hf : Fr (fun _ => False) w4 w') (hf2 : Fr (fun k => k < w3.heap.size) w' w'') (hf3 : Fr (fun _ => False) w2 w'') => msame_T _ _ us ts ps w'' ((hb.fr0 hf).pcs_ge hf2) (hz.fr0 hf3) hB2 (by omega)
  have HC := hide (And.intro h1 (And.intro h2 (And.intro hsp (And.intro hap h3))))
  obtain ⟨zo, zc, rfl⟩ := hz.form
  clear h1 h2 hsp hap h3 hl ha4 hB2 hB hn ha hb hz
  generalize vs.length = VL at *
  generalize us.length = UL at *
  generalize ps.length = PL at *
  go_enter Tryd.func67, Tryd.ntmps67
  go_wp2_with fail
  refine ((unhide HC).1 w4 (Fr.refl _ _)).mono ?_
  rintro e w5 ⟨rfl, hF⟩
  have H5 := hide hF
  clear hF
  go_wp2_with fail
  refine ((unhide HC).2.1 w5 (unhide H5)).mono ?_
  rintro e w6 ⟨rfl, hF⟩
  have H6 := hide ((unhide H5).trans hF (fun _ _ h => h))
  clear hF
  go_wp2_with fail
  refine ((unhide HC).2.2.1 w6 (unhide H6)).mono ?_
  rintro e w7 ⟨rfl, qs, hq, hm, hF⟩
  have H7 := hide (And.intro hq (And.intro hm hF))
  clear hq hm hF
  go_wp2_with fail
  refine ((unhide HC).2.2.2.1 w7 qs (unhide H7).1 (unhide H7).2.1).mono ?_
  rintro e w8 ⟨rfl, rfl⟩
  go_wp2_with fail
  refine ((unhide HC).2.2.2.2 w6 w8 (unhide H6) (unhide H7).2.2 (unhide H7).1.own.fr).mono ?_
  rintro e w9 ⟨rfl, hF⟩
  have H9 := hide ((unhide H7).1.own.fr.trans hF (fun _ _ h => h))
  clear hF
  go_wp2_with fail
  go_ret
  exact ⟨rfl, unhide H9⟩
end Go.Proofs.YtocdnomfpgdglabDoor

namespace Go.Proofs.YtocdnomfpgdglabDoor
open Go.RowKit

set_option maxRecDepth 100000 in
set_option maxHeartbeats 1000000 in
/-- The ref's with. -/
theorem with_any (x y : Value) (vs : List Value) (ps : List (List Nat)) (h : List Nat) (w : World) (hx : Pcs w x vs ps) (hy : Sl w y h) (hn : ps.length ≤ 8000000) :
    Calls Tryd.prog 117 #[x, y] w fun e w' => ∃ ao cp, e = .returned (.slice ao (ps.length + 1) cp) ∧ Pcs w' (.slice ao (ps.length + 1) cp) (vs ++ [y]) (ps ++ [h]) ∧ Fr (fun _ => False) w w' := by
  obtain ⟨xo, xc, rfl⟩ := hx.form
  obtain ⟨yo, yc, rfl⟩ := hy.form
  have hvl : vs.length = ps.length := hx.len
  have HG := hide (And.intro hx (And.intro hy (And.intro hn hvl)))
  clear hx hy hn hvl
  generalize hN : ps.length = N at *
  generalize hH : h.length = HL at *
  go_enter Tryd.func117, Tryd.ntmps117
  go_wp2_with fail
  go_loopw [5, 6] (fun ov iv wr => ∃ (k : Nat) (ao : Option Addr) (cp : Nat), k ≤ N ∧ iv = .int .i64 (k : Nat) ∧ ov = .slice ao k cp ∧ OS w wr ao cp (vs.take k)) (fun _ iv _ => N - (intOf iv).toNat)
  case atStart => exact ⟨0, none, 0, Nat.zero_le _, rfl, rfl, OS.nil w⟩
  case round =>
    obtain ⟨k, ao, cp, hk, rfl, rfl, hO⟩ := hrel
    have hN8 := (unhide HG).2.2.1
    have hvl := (unhide HG).2.2.2
    have htl : (vs.take k).length = k := by rw [List.length_take]; omega
    by_cases hlt : k < N
    · have hlt' : (k : Int) < (N : Int) := by omega
      have hke : k < ps.length := by omega
      obtain ⟨g, o, v, rfl, hcell, hsrc, -⟩ := (unhide HG).1.cell hO.fr k hke
      have hvk : vs[k]? = some v := by
        have hkv : k < vs.length := by omega
        rcases (unhide HG).1.at_ with ⟨e', _⟩ | ⟨_, _, e', _⟩ | ⟨g', o', c', e', hg', hc'⟩
        · simp at e'
        · simp only [Value.slice.injEq] at e'; omega
        · simp only [Value.slice.injEq, Option.some.injEq, Addr.mk.injEq, and_true] at e'
          obtain ⟨⟨rfl, rfl⟩, _⟩ := e'
          have h1 := (hO.fr.cell (p := ⟨g, o + k, none⟩) hg' (fun h => h)).trans (hc' k _ (List.getElem?_eq_getElem hkv))
          rw [h1] at hcell
          rw [List.getElem?_eq_getElem hkv, Option.some.inj hcell]
      obtain ⟨vo, vc, rfl⟩ := hsrc.form
      obtain ⟨a2, c2, w2, hr2, hO2, -, -⟩ := hO.app1 vo ps[k].length vc (by omega)
      have htk : vs.take k ++ [.slice vo ps[k].length vc] = vs.take (k + 1) := by
        rw [List.take_add_one, hvk]; rfl
      rw [htk] at hO2
      rw [htl] at hr2
      have HR2 := hide hr2
      have HO2 := hide hO2
      clear hr2 hO2 hO hsrc htk hvk htl
      generalize ps[k].length = PL at *
      go_wp2_with (at_builtin; refine wpList_app rfl (.tmp 13) (.tmp 18) 22 22 rfl _ _ _ rfl rfl (unhide HR2) ?_)
      exact ⟨⟨k + 1, a2, c2, by omega, by go_num, rfl, unhide HO2⟩, by simp [intOf]; omega⟩
    · have hkN : k = N := by omega
      have hlt' : ¬ (k : Int) < (N : Int) := by omega
      have htk : vs.take k = vs := List.take_of_length_le (by omega)
      rw [htk] at hO htl
      obtain ⟨a2, c2, w2, hr2, hO2, -, -⟩ := hO.app1 yo HL yc (by omega)
      rw [htl] at hr2
      have hpc : Pcs w2 (.slice a2 (vs ++ [Value.slice yo HL yc]).length c2) (vs ++ [.slice yo HL yc]) (ps ++ [h]) := hO2.pcs (by rw [List.length_append, List.length_append, hvl, hN]; rfl) (fun j v p hv hp => by
        by_cases hj : j < vs.length
        · rw [List.getElem?_append_left hj] at hv
          rw [List.getElem?_append_left (by omega)] at hp
          exact ((unhide HG).1.sl j v p hv hp).fr0 hO2.fr
        · have hje : j = vs.length := by
            have := (List.getElem?_eq_some_iff.1 hv).1
            rw [List.length_append, List.length_singleton] at this
            omega
          subst hje
          rw [List.getElem?_append_right (Nat.le_refl _), Nat.sub_self] at hv
          rw [List.getElem?_append_right (by omega), show vs.length - ps.length = 0 by omega] at hp
          simp only [List.getElem?_cons_zero, Option.some.injEq] at hv hp
          subst hv hp
          exact (unhide HG).2.1.fr0 hO2.fr)
      rw [List.length_append, htl] at hpc
      have HR2 := hide hr2
      have HO2 := hide (And.intro hpc (And.intro hO2.fr hkN))
      clear hr2 hO2 hO hpc htk htl hkN
      go_wp2_with (at_builtin; refine wpList_app rfl (.tmp 20) (.tmp 22) 22 22 rfl _ _ _ rfl rfl (unhide HR2) ?_)
      go_ret
      obtain ⟨h1, h2, h3⟩ := unhide HO2
      subst h3
      exact ⟨a2, c2, rfl, h1, h2⟩
theorem pth_le (wi : Nat) (m : Nat) : ∀ (ls : List (List Nat)) (i : Nat), ls.length ≤ m → (pth wi ls i).length ≤ ls.length := by
  induction m with
  | zero => intro ls i h; rw [pth_short _ _ _ (by omega)]; exact Nat.zero_le _
  | succ m ih =>
    intro ls i h
    by_cases h2 : ls.length < 2
    · rw [pth_short _ _ _ h2]; exact Nat.zero_le _
    · have h3 := hf_lt ls.length (by omega)
      have h4 := hf_pos ls.length
      by_cases hi : i < hf ls.length
      · rw [pth_l (by omega) hi, List.length_append]
        have := ih (ls.take (hf ls.length)) i (by rw [List.length_take]; omega)
        rw [List.length_take] at this
        simp; omega
      · rw [pth_r (by omega) hi, List.length_append]
        have := ih (ls.drop (hf ls.length)) (i - hf ls.length) (by rw [List.length_drop]; omega)
        rw [List.length_drop] at this
        simp; omega
def PathSays (wi : Nat) (ls : List (List Nat)) (I : Nat) (x : Value) (w : World) : Prop :=
  Calls Tryd.prog 104 #[.int .i64 wi, x, .int .i64 I] w fun e w' => ∃ yo yc us, e = .returned (.slice yo (pth wi ls I).length yc) ∧ Pcs w' (.slice yo (pth wi ls I).length yc) us (pth wi ls I) ∧ Fr (fun _ => False) w w'
set_option maxRecDepth 100000 in
theorem gpath_short (wi : Nat) (ps : List (List Nat)) (I : Nat) (x : Value) (vs : List Value) (w : World) (hp : Pcs w x vs ps) (h : ps.length < 2) : PathSays wi ps I x w := by
  unfold PathSays
  rw [pth_short _ _ _ h]
  obtain ⟨xo, xc, rfl⟩ := hp.form
  have q1 : (ps.length : Int) < 2 := by omega
  clear hp
  generalize ps.length = N at *
  go_enter Tryd.func104, Tryd.ntmps104
  go_wp2_with fail
  go_ret
  exact ⟨none, 0, [], rfl, ⟨rfl, .inl ⟨rfl, rfl⟩, (fun j v p h => by simp at h), (fun p h => by cases h)⟩, Fr.refl _ _⟩
set_option maxRecDepth 100000 in
set_option maxHeartbeats 1000000 in
/-- The ref's PathOf. -/
theorem gpath_any (wi : Nat) (n : Nat) : ∀ (ps : List (List Nat)) (I : Nat) (x : Value) (vs : List Value) (w : World), ps.length ≤ n → ps.length ≤ 8000000 → I < ps.length → GR w → Pcs w x vs ps → Cp x → (∀ p ∈ ps, p.length ≤ 4000000) → PathSays wi ps I x w := by
  induction n with
  | zero => intro ps I x vs w hl _ hI; omega
  | succ n ih =>
    intro ps I x vs w hl hl8 hIl hr hp hcx hB
    by_cases h2 : ps.length < 2
    · exact gpath_short wi ps I x vs w hp h2
    · obtain ⟨xo, xc, rfl⟩ := hp.form
      obtain ⟨g, o, v, rfl, -⟩ := hp.cell (Fr.refl _ _) 0 (by omega)
      have hk1 := hf_lt ps.length (by omega)
      have hk2 := hf_pos ps.length
      have hle : vs.length = ps.length := hp.len
      have hcapx : ps.length ≤ xc := hcx _ _ _ rfl
      have cp1 : Cp (.slice (some ⟨g, o, none⟩) (hf ps.length) xc) := fun _ _ _ e => by cases e; omega
      have cp2 : Cp (.slice (some ⟨g, o + hf ps.length, none⟩) (ps.length - hf ps.length) (xc - hf ps.length)) := fun _ _ _ e => by cases e; omega
      have hP1 := hp.take (hf ps.length) (by omega)
      have hP2 := hp.drop (hf ps.length) hk1
      have hB1 : ∀ p ∈ ps.take (hf ps.length), p.length ≤ 4000000 := fun p h => hB p (List.mem_of_mem_take h)
      have hB2 : ∀ p ∈ ps.drop (hf ps.length), p.length ≤ 4000000 := fun p h => hB p (List.mem_of_mem_drop h)
      have hl1 : (ps.take (hf ps.length)).length = hf ps.length := by rw [List.length_take]; omega
      have hl2 : (ps.drop (hf ps.length)).length = ps.length - hf ps.length := by rw [List.length_drop]
      have hha := half_any ps.length w (by omega) (by omega)
      by_cases hI : I < hf ps.length
      · have hmt := pth_l (wi := wi) (ls := ps) (i := I) (by omega) hI
        have c1 : ∀ w', Fr (fun _ => False) w w' → PathSays wi (ps.take (hf ps.length)) I (.slice (some ⟨g, o, none⟩) (hf ps.length) xc) w' := fun w' hfr => ih _ _ _ _ w' (by omega) (by omega) (by omega) (hr.fr0 hfr) (hP1.fr0 hfr) cp1 hB1
        have c2 : ∀ w', Fr (fun _ => False) w w' → OfSays wi (ps.drop (hf ps.length)) (.slice (some ⟨g, o + hf ps.length, none⟩) (ps.length - hf ps.length) (xc - hf ps.length)) w' := fun w' hfr => of_any wi _ _ _ _ w' (Nat.le_refl _) (by omega) (hr.fr0 hfr) (hP2.fr0 hfr) cp2 hB2
        have hplen : (pth wi (ps.take (hf ps.length)) I).length ≤ 8000000 := Nat.le_trans (pth_le wi _ _ _ (Nat.le_refl _)) (by omega)
        unfold PathSays at c1 ⊢
        unfold OfSays at c2
        rw [hmt]
        generalize pth wi (ps.take (hf ps.length)) I = P1 at *
        generalize mth wi (ps.drop (hf ps.length)) = M2 at *
        have hwith : ∀ (x y : Value) us w', Pcs w' x us P1 → Sl w' y M2 → _ := fun x y us w' h1 h2 => with_any x y us P1 M2 w' h1 h2 hplen
        have HG := hide (And.intro c1 (And.intro c2 (And.intro hwith hha)))
        clear hr hP1 hP2 c1 c2 hha hmt hB hB1 hB2 hp hl1 hl2 ih cp1 cp2 hcx hwith hplen
        generalize hK : hf ps.length = K at *
        have q1 : (K : Int) ≤ (ps.length : Int) := by omega
        have q2 : (K : Int) ≤ (xc : Int) := by omega
        have q3 : ¬ (ps.length : Int) < 2 := by omega
        have q4 : ¬ ps.length < 2 := by omega
        have q7 : (I : Int) < (K : Int) := by omega
        have q8 : IntKind.i64.wrap ((I : Int) - (K : Int)) = ((I - K : Nat) : Int) ∨ True := .inr trivial
        clear q8 hK
        generalize ps.length = N at *
        go_enter Tryd.func104, Tryd.ntmps104
        go_wp2_with fail
        refine (unhide HG).2.2.2.mono ?_
        rintro e w0 ⟨rfl, rfl⟩
        go_wp2_with fail
        have q5 : ¬ xc = K := by omega
        have q6 : ¬ K = xc := by omega
        go_region_held3 (fun _ => True) (trivial) (first
          | (go_at_call 104; refine ((unhide HG).1 _ ((Fr.refl _ _).drew)).mono ?_; rintro e wA ⟨yA, cA, uA, rfl, sA, fA⟩)
          | (go_at_call 41; refine ((unhide HG).2.1 _ (((Fr.refl _ _).drew).trans fA (fun _ _ h => h))).mono ?_; rintro e wB ⟨yB, cB, rfl, sB, fB⟩)
          | (go_at_call 117; refine ((unhide HG).2.2.1 _ _ _ wB (sA.fr0 fB) sB).mono ?_; rintro e wC ⟨zo, zc, rfl, oC, fC⟩))
        have hFC : Fr (fun _ => False) w0 wC := ((((Fr.refl (fun _ => False) w0).drew).trans fA (fun _ _ h => h)).trans fB (fun _ _ h => h)).trans fC (fun _ _ h => h)
        have HE := hide (And.intro oC hFC)
        clear hFC oC
        go_wp2_with fail
        go_ret
        exact ⟨zo, zc, _, by rw [List.length_append]; rfl, by rw [List.length_append]; exact (unhide HE).1, (unhide HE).2⟩
      · have hmt := pth_r (wi := wi) (ls := ps) (i := I) (by omega) hI
        have c1 : ∀ w', Fr (fun _ => False) w w' → PathSays wi (ps.drop (hf ps.length)) (I - hf ps.length) (.slice (some ⟨g, o + hf ps.length, none⟩) (ps.length - hf ps.length) (xc - hf ps.length)) w' := fun w' hfr => ih _ _ _ _ w' (by omega) (by omega) (by omega) (hr.fr0 hfr) (hP2.fr0 hfr) cp2 hB2
        have c2 : ∀ w', Fr (fun _ => False) w w' → OfSays wi (ps.take (hf ps.length)) (.slice (some ⟨g, o, none⟩) (hf ps.length) xc) w' := fun w' hfr => of_any wi _ _ _ _ w' (Nat.le_refl _) (by omega) (hr.fr0 hfr) (hP1.fr0 hfr) cp1 hB1
        have hplen : (pth wi (ps.drop (hf ps.length)) (I - hf ps.length)).length ≤ 8000000 := Nat.le_trans (pth_le wi _ _ _ (Nat.le_refl _)) (by omega)
        unfold PathSays at c1 ⊢
        unfold OfSays at c2
        rw [hmt]
        generalize pth wi (ps.drop (hf ps.length)) (I - hf ps.length) = P1 at *
        generalize mth wi (ps.take (hf ps.length)) = M2 at *
        have hwith : ∀ (x y : Value) us w', Pcs w' x us P1 → Sl w' y M2 → _ := fun x y us w' h1 h2 => with_any x y us P1 M2 w' h1 h2 hplen
        have HG := hide (And.intro c1 (And.intro c2 (And.intro hwith hha)))
        clear hr hP1 hP2 c1 c2 hha hmt hB hB1 hB2 hp hl1 hl2 ih cp1 cp2 hcx hwith hplen
        generalize hK : hf ps.length = K at *
        have q1 : (K : Int) ≤ (ps.length : Int) := by omega
        have q2 : (K : Int) ≤ (xc : Int) := by omega
        have q3 : ¬ (ps.length : Int) < 2 := by omega
        have q4 : ¬ ps.length < 2 := by omega
        have q7 : ¬ (I : Int) < (K : Int) := by omega
        have q8 : IntKind.i64.wrap ((I : Int) - (K : Int)) = ((I - K : Nat) : Int) ∨ True := .inr trivial
        have q9 : IntKind.i64.wrap ((I : Int) - (K : Int)) = (I : Int) - (K : Int) := by rw [IntKind.wrap_i64]; omega
        have q10 : ((I - K : Nat) : Int) = (I : Int) - (K : Int) := by omega
        rw [q10] at HG
        clear q8 hK q10
        generalize ps.length = N at *
        go_enter Tryd.func104, Tryd.ntmps104
        go_wp2_with fail
        refine (unhide HG).2.2.2.mono ?_
        rintro e w0 ⟨rfl, rfl⟩
        go_wp2_with fail
        have q5 : ¬ xc = K := by omega
        have q6 : ¬ K = xc := by omega
        go_region_held3 (fun _ => True) (trivial) (first
          | (go_at_call 104; refine ((unhide HG).1 _ ((Fr.refl _ _).drew)).mono ?_; rintro e wA ⟨yA, cA, uA, rfl, sA, fA⟩)
          | (go_at_call 41; refine ((unhide HG).2.1 _ (((Fr.refl _ _).drew).trans fA (fun _ _ h => h))).mono ?_; rintro e wB ⟨yB, cB, rfl, sB, fB⟩)
          | (go_at_call 117; refine ((unhide HG).2.2.1 _ _ _ wB (sA.fr0 fB) sB).mono ?_; rintro e wC ⟨zo, zc, rfl, oC, fC⟩))
        have hFC : Fr (fun _ => False) w0 wC := ((((Fr.refl (fun _ => False) w0).drew).trans fA (fun _ _ h => h)).trans fB (fun _ _ h => h)).trans fC (fun _ _ h => h)
        have HE := hide (And.intro oC hFC)
        clear hFC oC
        go_wp2_with fail
        go_ret
        exact ⟨zo, zc, _, by rw [List.length_append]; rfl, by rw [List.length_append]; exact (unhide HE).1, (unhide HE).2⟩
end Go.Proofs.YtocdnomfpgdglabDoor

namespace Go.Proofs.YtocdnomfpgdglabDoor
open Go.RowKit

set_option maxRecDepth 100000 in
set_option maxHeartbeats 2000000 in
/-- The document's Parted. -/
theorem parted_any (x : Value) (zs : List Int) (K : Int) (w : World) (hx : Ints w x zs) (hl : zs.length ≤ 8000000) (hK : 0 ≤ K ∧ K < 9223372036854775808) (hb : ∀ z ∈ zs, 0 ≤ z ∧ z < 9223372036854775808) :
    Calls Tryd.prog 119 #[x, .int .i64 K] w fun e w' => ∃ a b, e = .returned (.tuple #[a, b]) ∧ Ints w' a (pa K zs) ∧ Ints w' b (pb K zs) ∧ Fr (fun _ => False) w w' := by
  obtain ⟨xo, xc, rfl⟩ := hx.form
  have HG := hide (And.intro hx (And.intro hl (And.intro hb hK)))
  clear hx hl hb hK
  generalize hN : zs.length = N at *
  go_enter Tryd.func119, Tryd.ntmps119
  go_wp2_with fail
  go_loopw [6, 7, 8] (fun av bv iv wr => ∃ k : Nat, k ≤ N ∧ iv = .int .i64 (k : Nat) ∧ OI w wr av (pa K (zs.take k)) ∧ OI w wr bv (pb K (zs.take k)) ∧ ∀ g, av.ownBlock = some g → bv.ownBlock = some g → False) (fun _ _ iv _ => N - (intOf iv).toNat)
  case atStart => exact ⟨0, Nat.zero_le _, rfl, OI.nil w, OI.nil w, fun g h => by cases h⟩
  case round =>
    rename_i av' bv'
    obtain ⟨k, hk, rfl, hA, hB, hap⟩ := hrel
    have hN8 := (unhide HG).2.1
    obtain ⟨hK0, hK1⟩ := (unhide HG).2.2.2
    have hla := pa_le K (zs.take k)
    have hlb := pb_le K (zs.take k)
    have htl : (zs.take k).length = k := by rw [List.length_take]; omega
    by_cases hlt : k < N
    · have hlt' : (k : Int) < (N : Int) := by omega
      have hkz : k < zs.length := by omega
      obtain ⟨g, o, rfl, hcell⟩ := ((unhide HG).1.fr0 hA.fr).cell k hkz
      obtain ⟨hz0, hz1⟩ := (unhide HG).2.2.1 zs[k] (List.getElem_mem hkz)
      have htk : zs.take (k + 1) = zs.take k ++ [zs[k]] := by rw [List.take_add_one, List.getElem?_eq_getElem hkz]; rfl
      have w1 : IntKind.i64.wrap ((k : Int) + 1) = (k : Int) + 1 := by rw [IntKind.wrap_i64]; omega
      generalize zs[k] = z at *
      have hgl := lt_of_cell hcell
      by_cases h1 : z < K
      · have e1 : pa K (zs.take (k + 1)) = pa K (zs.take k) ++ [z] := by rw [htk, pa_app]; simp [pa, h1]
        have e2 : pb K (zs.take (k + 1)) = pb K (zs.take k) := by rw [htk, pb_app]; simp [pb, h1]
        obtain ⟨ao, cp, w', hr, hA2, hB2, hap2⟩ := hA.two hB hap z (by omega)
        rw [← e1] at hA2
        rw [← e2] at hB2
        obtain ⟨a0, ac, rfl⟩ := hA.form
        obtain ⟨b0, bc, rfl⟩ := hB.form
        have HR := hide hr
        have HA := hide (And.intro hA2 (And.intro hB2 hap2))
        clear hr hA2 hB2 hap2 hA hB hap htk e1 e2 hla hlb htl
        generalize (pa K (zs.take k)).length = PA at *
        generalize (pb K (zs.take k)).length = PB at *
        go_wp2_with (at_builtin; refine wpList_app rfl (.tmp 21) (.tmp 26) 36 36 rfl _ _ _ rfl rfl (unhide HR) ?_)
        exact ⟨⟨k + 1, by omega, by go_num, (unhide HA).1, (unhide HA).2.1, (unhide HA).2.2⟩, by simp [intOf]; omega⟩
      · have w2 : IntKind.i64.wrap (z - K) = z - K := by rw [IntKind.wrap_i64]; omega
        have e1 : pb K (zs.take (k + 1)) = pb K (zs.take k) ++ [z - K] := by rw [htk, pb_app]; simp [pb, h1]
        have e2 : pa K (zs.take (k + 1)) = pa K (zs.take k) := by rw [htk, pa_app]; simp [pa, h1]
        obtain ⟨ao, cp, w', hr, hB2, hA2, hap2⟩ := hB.two hA (fun g h1 h2 => hap g h2 h1) (z - K) (by omega)
        rw [← e1] at hB2
        rw [← e2] at hA2
        obtain ⟨a0, ac, rfl⟩ := hA.form
        obtain ⟨b0, bc, rfl⟩ := hB.form
        have HR := hide hr
        have HA := hide (And.intro hA2 (And.intro hB2 hap2))
        clear hr hA2 hB2 hap2 hA hB hap htk e1 e2 hla hlb htl
        generalize (pa K (zs.take k)).length = PA at *
        generalize (pb K (zs.take k)).length = PB at *
        go_wp2_with (at_builtin; refine wpList_app rfl (.tmp 28) (.tmp 35) 36 36 rfl _ _ _ rfl rfl (unhide HR) ?_)
        exact ⟨⟨k + 1, by omega, by go_num, (unhide HA).1, (unhide HA).2.1, fun g h1 h2 => (unhide HA).2.2 g h2 h1⟩, by simp [intOf]; omega⟩
    · have hkN : k = N := by omega
      have hlt' : ¬ (k : Int) < (N : Int) := by omega
      rw [List.take_of_length_le (by omega)] at hA hB
      have HA := hide (And.intro hA.ints (And.intro hB.ints hA.fr))
      obtain ⟨a0, ac, rfl⟩ := hA.form
      obtain ⟨b0, bc, rfl⟩ := hB.form
      clear hkN hA hB hap hla hlb htl
      generalize (pa K zs).length = PA at *
      generalize (pb K zs).length = PB at *
      go_wp2_with fail
      go_returns
      exact ⟨_, _, rfl, (unhide HA).1, (unhide HA).2.1, (unhide HA).2.2⟩
end Go.Proofs.YtocdnomfpgdglabDoor

namespace Go.Proofs.YtocdnomfpgdglabDoor
open Go.RowKit

/-- The block of a slice. -/
def Bk (v : Value) (P : Nat → Prop) : Prop := ∀ g o n c, v = .slice (some ⟨g, o, none⟩) n c → P g
def OfQ (N0 : Nat) (i : Int) (ps : List (List Nat)) (x : Value) (w : World) : Prop :=
  Calls Tryd.prog 41 #[.int .i64 i, x] w fun e w' => ∃ yo yc, e = .returned (.slice yo (mth i ps).length yc) ∧ Sl w' (.slice yo (mth i ps).length yc) (mth i ps) ∧ Fr (fun _ => False) w w' ∧ Bk (.slice yo (mth i ps).length yc) (fun g => g < N0 ∨ w.heap.size ≤ g)
set_option maxRecDepth 100000 in
theorem ofQ_nil (N0 : Nat) (i : Int) (x : Value) (vs : List Value) (w : World) (hr : GR w) (hp : Pcs w x vs []) : OfQ N0 i [] x w := by
  unfold OfQ
  obtain ⟨xo, xc, rfl⟩ := hp.form
  obtain ⟨R, hR⟩ : ∃ R, mth i [] = R := ⟨_, rfl⟩
  have hsum : ∀ w, GR w → Calls Tryd.prog 13 #[.int .i64 i, .slice none 0 0] w fun e w' => ∃ zo zc, e = .returned (.slice zo R.length zc) ∧ OB w w' zo zc R := fun w h => by
    rw [← hR, mth_nil]
    exact gsum_T i _ [] w h (.inl ⟨rfl, rfl⟩) (fun _ h => by cases h) (by simp)
  have hb : ∀ v ∈ R, v < 256 := by rw [← hR, mth_nil]; exact sm_lt i _
  rw [hR]
  have HG := hide (And.intro hsum (And.intro hr hb))
  clear hsum hr hb hR hp
  simp only [List.length_nil]
  go_enter Tryd.func41, Tryd.ntmps41
  go_wp2_with fail
  refine ((unhide HG).1 w (unhide HG).2.1).mono ?_
  rintro e w1 ⟨zo, zc, rfl, hO⟩
  have hbk : Bk (.slice zo R.length zc) (fun g => g < N0 ∨ w.heap.size ≤ g) := fun g o n c e => by
    simp only [Value.slice.injEq] at e
    obtain ⟨rfl, _⟩ := e
    exact .inr (World.ownsRow.lt hO.own g rfl).1
  have H1 := hide (And.intro (hO.sl (unhide HG).2.2) (And.intro hO.fr hbk))
  clear hbk
  clear hO
  go_wp2_with fail
  go_ret
  exact ⟨zo, zc, rfl, (unhide H1).1, (unhide H1).2.1, (unhide H1).2.2⟩
set_option maxRecDepth 100000 in
theorem ofQ_one (N0 : Nat) (i : Int) (p : List Nat) (x : Value) (vs : List Value) (w : World) (hp : Pcs w x vs [p]) (hq : ∀ u ∈ vs, Bk u (fun g => g < N0)) : OfQ N0 i [p] x w := by
  unfold OfQ
  obtain ⟨xo, xc, rfl⟩ := hp.form
  obtain ⟨g, o, v, rfl, hcell, _⟩ := hp.cell (Fr.refl _ _) 0 (by simp)
  have hvl : 0 < vs.length := by rw [hp.len]; simp
  have hsl : Sl w v p ∧ v ∈ vs := by
    have h0 := hp.at_
    rcases h0 with ⟨e, rfl⟩ | ⟨a, c, e, rfl⟩ | ⟨g', o', c, e, _, hc⟩
    · simp at hvl
    · simp at hvl
    · simp only [Value.slice.injEq, Option.some.injEq, Addr.mk.injEq, and_true] at e
      obtain ⟨⟨rfl, rfl⟩, _⟩ := e
      have h1 := hc 0 _ (List.getElem?_eq_getElem hvl)
      rw [h1] at hcell
      have h2 := Option.some.inj hcell
      exact ⟨hp.sl 0 v p (by rw [List.getElem?_eq_getElem hvl, h2]) rfl, by rw [← h2]; exact List.getElem_mem hvl⟩
  rw [mth_one]
  have hbq := hq v hsl.2
  replace hsl := hsl.1
  obtain ⟨vo, vc, rfl⟩ := hsl.form
  rw [Nat.add_zero] at hcell
  have H := hide (And.intro hsl hbq)
  clear hsl hp hvl hbq hq
  simp only [List.length_singleton]
  generalize p.length = P at *
  go_enter Tryd.func41, Tryd.ntmps41
  go_wp2_with fail
  go_ret
  exact ⟨vo, vc, rfl, (unhide H).1, Fr.refl _ _, fun g o n c e => .inl ((unhide H).2 g o n c e)⟩
set_option maxRecDepth 100000 in
set_option maxHeartbeats 1000000 in
theorem ofQ_any (N0 : Nat) (i : Int) (ps : List (List Nat)) (x : Value) (vs : List Value) (w : World) (hl8 : ps.length ≤ 8000000) (hr : GR w) (hp : Pcs w x vs ps) (hcx : Cp x) (hB : ∀ p ∈ ps, p.length ≤ 4000000) (hq : ∀ u ∈ vs, Bk u (fun g => g < N0)) : OfQ N0 i ps x w := by
  by_cases h2 : ps.length < 2
  · match ps, h2 with
    | [], _ => exact ofQ_nil N0 i x vs w hr hp
    | [p], _ => exact ofQ_one N0 i p x vs w hp hq
  · clear hq
    obtain ⟨xo, xc, rfl⟩ := hp.form
    obtain ⟨g, o, v, rfl, -⟩ := hp.cell (Fr.refl _ _) 0 (by omega)
    have hk1 := hf_lt ps.length (by omega)
    have hk2 := hf_pos ps.length
    have hle : vs.length = ps.length := hp.len
    have hcapx : ps.length ≤ xc := hcx _ _ _ rfl
    have cp1 : Cp (.slice (some ⟨g, o, none⟩) (hf ps.length) xc) := fun _ _ _ e => by cases e; omega
    have cp2 : Cp (.slice (some ⟨g, o + hf ps.length, none⟩) (ps.length - hf ps.length) (xc - hf ps.length)) := fun _ _ _ e => by cases e; omega
    have hmt := mth_two i ps (by omega)
    have hP1 := hp.take (hf ps.length) (by omega)
    have hP2 := hp.drop (hf ps.length) hk1
    have hB1 : ∀ p ∈ ps.take (hf ps.length), p.length ≤ 4000000 := fun p h => hB p (List.mem_of_mem_take h)
    have hB2 : ∀ p ∈ ps.drop (hf ps.length), p.length ≤ 4000000 := fun p h => hB p (List.mem_of_mem_drop h)
    have hl1 : (ps.take (hf ps.length)).length = hf ps.length := by rw [List.length_take]; omega
    have hl2 : (ps.drop (hf ps.length)).length = ps.length - hf ps.length := by rw [List.length_drop]
    have c1 : ∀ w', Fr (fun _ => False) w w' → OfSays i (ps.take (hf ps.length)) (.slice (some ⟨g, o, none⟩) (hf ps.length) xc) w' := fun w' hfr => of_any i _ _ _ _ w' (Nat.le_refl _) (by omega) (hr.fr0 hfr) (hP1.fr0 hfr) cp1 hB1
    have c2 : ∀ w', Fr (fun _ => False) w w' → OfSays i (ps.drop (hf ps.length)) (.slice (some ⟨g, o + hf ps.length, none⟩) (ps.length - hf ps.length) (xc - hf ps.length)) w' := fun w' hfr => of_any i _ _ _ _ w' (Nat.le_refl _) (by omega) (hr.fr0 hfr) (hP2.fr0 hfr) cp2 hB2
    have m1 := mth_lt i _ (ps.take (hf ps.length)) (Nat.le_refl _) hP1.byt
    have m2 := mth_lt i _ (ps.drop (hf ps.length)) (Nat.le_refl _) hP2.byt
    have n1 := mth_len i 4000000 (by decide) _ hB1
    have n2 := mth_len i 4000000 (by decide) _ hB2
    have hha := half_any ps.length w (by omega) (by omega)
    unfold OfSays at c1 c2
    unfold OfQ
    rw [hmt]
    generalize mth i (ps.take (hf ps.length)) = M1 at *
    generalize mth i (ps.drop (hf ps.length)) = M2 at *
    obtain ⟨R, hR⟩ : ∃ R, nd i M1 M2 = R := ⟨_, rfl⟩
    rw [hR]
    have hbR : ∀ v ∈ R, v < 256 := by rw [← hR]; exact nd_lt i _ _
    have hnode : ∀ x y w', GR w' → Src w' x M1 → Src w' y M2 → Calls Tryd.prog 83 #[.int .i64 i, x, y] w' fun e w'' => ∃ yo yc, e = .returned (.slice yo R.length yc) ∧ OB w' w'' yo yc R := fun x y w' h1 h3 h4 => by
      rw [← hR]; exact gnode_any i x y M1 M2 w' h1 h3 h4 m1 m2 n1 n2
    have HG := hide (And.intro hr (And.intro hP1 (And.intro hP2 (And.intro c1 (And.intro c2 (And.intro hnode (And.intro hbR hha)))))))
    clear hr hP1 hP2 c1 c2 hnode hbR hha m1 m2 n1 n2 hmt hR hB hB1 hB2 hp hl1 hl2 cp1 cp2 hcx
    generalize hf ps.length = K at *
    have q1 : (K : Int) ≤ (ps.length : Int) := by omega
    have q2 : (K : Int) ≤ (xc : Int) := by omega
    have q3 : ((ps.length : Int) == 0) = false := beq_false_of_ne (by omega)
    have q4 : ((ps.length : Int) == 1) = false := beq_false_of_ne (by omega)
    generalize ps.length = N at *
    go_enter Tryd.func41, Tryd.ntmps41
    go_wp2_with fail
    refine (unhide HG).2.2.2.2.2.2.2.mono ?_
    rintro e w0 ⟨rfl, rfl⟩
    go_wp2_with fail
    have T1 : True := trivial
    have q5 : ¬ xc = K := by omega
    have q6 : ¬ K = xc := by omega
    go_region_held3 (fun _ => True) (trivial) (first
      | (go_at_call 41; clear T1; refine ((unhide HG).2.2.2.1 _ ((Fr.refl _ _).drew)).mono ?_; rintro e wA ⟨yA, cA, rfl, sA, fA⟩)
      | (go_at_call 41; refine ((unhide HG).2.2.2.2.1 _ (((Fr.refl _ _).drew).trans fA (fun _ _ h => h))).mono ?_; rintro e wB ⟨yB, cB, rfl, sB, fB⟩)
      | (go_at_call 83; refine ((unhide HG).2.2.2.2.2.1 _ _ wB (((unhide HG).1.fr0 (((Fr.refl _ _).drew).trans fA (fun _ _ h => h))).fr0 fB) (sA.s.fr0 fB) sB.s).mono ?_; rintro e wC ⟨zo, zc, rfl, oC⟩))
    have hFC : Fr (fun _ => False) w0 wC := ((((Fr.refl (fun _ => False) w0).drew).trans fA (fun _ _ h => h)).trans fB (fun _ _ h => h)).trans oC.fr (fun _ _ h => h)
    have hbk : Bk (.slice zo R.length zc) (fun g => g < N0 ∨ w0.heap.size ≤ g) := fun g o n c e => by
      simp only [Value.slice.injEq] at e
      obtain ⟨rfl, _⟩ := e
      have h1 := (World.ownsRow.lt oC.own g rfl).1
      have h2 : w0.heap.size ≤ wB.heap.size := ((((Fr.refl (fun _ => False) w0).drew).trans fA (fun _ _ h => h)).trans fB (fun _ _ h => h)).size
      exact .inr (by omega)
    have HE := hide (And.intro (oC.sl (unhide HG).2.2.2.2.2.2.1) (And.intro hFC hbk))
    clear hFC hbk
    go_wp2_with fail
    go_ret
    exact ⟨zo, zc, rfl, (unhide HE).1, (unhide HE).2.1, (unhide HE).2.2⟩
end Go.Proofs.YtocdnomfpgdglabDoor

namespace Go.Proofs.YtocdnomfpgdglabDoor
open Go.RowKit

theorem OS.base {w wA wr : World} {xo : Option Addr} {cp : Nat} {vs : List Value} (h : OS wA wr xo cp vs) (hf : Fr (fun _ => False) w wA) : OS w wr xo cp vs := by
  refine ⟨⟨h.own.1, ?_⟩, hf.trans h.fr (fun _ _ h => h)⟩
  rcases h.own.2 with h0 | ⟨g, cap, cur, e1, e2, e3⟩
  · exact .inl h0
  · exact .inr ⟨g, cap, cur, e1, Nat.le_trans hf.size e2, e3⟩
theorem LV.base {w wA wr : World} {ao : Option Addr} {cp : Nat} {us : List Value} {ls : List (List Nat)} (h : LV wA wr ao cp us ls) (hf : Fr (fun _ => False) w wA) : LV w wr ao cp us ls := ⟨h.own.base hf, h.len, h.sl⟩
theorem LV.fr0 {w wr wq : World} {ao : Option Addr} {cp : Nat} {us : List Value} {ls : List (List Nat)} (h : LV w wr ao cp us ls) (hf : Fr (fun _ => False) wr wq) : LV w wq ao cp us ls :=
  ⟨h.own.fr0 hf, h.len, fun j u l hu hl => ⟨(h.sl j u l hu hl).1.fr0 hf, (h.sl j u l hu hl).2.imp id (fun hh g o n c e => ⟨Nat.lt_of_lt_of_le (hh g o n c e).1 hf.size, (hh g o n c e).2⟩)⟩⟩
theorem LV.lit {w w1 : World} (hF0 : Fr (fun _ => False) w w1) {yo : Option Addr} {yc : Nat} {l : List Nat} (hs : Sl w1 (.slice yo l.length yc) l) (W : World) (hW : w1.alloc (.cells #[.slice yo l.length yc] 23) = W) : LV w W (some ⟨w1.heap.size, 0, none⟩) 1 [.slice yo l.length yc] [l] := by
  have hF : Fr (fun _ => False) w1 W := by rw [← hW]; exact (Fr.refl _ _).alloc _
  refine ⟨⟨?_, hF0.trans hF (fun _ _ h => h)⟩, rfl, fun j v p hv hp => ?_⟩
  · have := World.ownsRow_lit (e := 23) (size := 1) w1 #[.slice yo l.length yc] 1 (Nat.le_refl _) (by simp only [maxLen]; omega) rfl
    rw [hW] at this
    refine ⟨this.1, ?_⟩
    rcases this.2 with h0 | ⟨g, cap, cur, e1, e2, e3⟩
    · exact .inl h0
    · exact .inr ⟨g, cap, cur, e1, Nat.le_trans hF0.size e2, e3⟩
  · match j with
    | 0 =>
      simp at hv hp
      subst hv hp
      refine ⟨hs.fr0 hF, hs.lt.imp id (fun hh g o n c e => ⟨Nat.lt_of_lt_of_le (hh g o n c e) hF.size, fun g' hg' e2 => ?_⟩)⟩
      have h1 := hh g o n c e
      simp only [Value.ownBlock, Option.some.injEq] at hg'
      omega
    | j + 1 => simp at hv
/-- One more hash, that lay there. -/
theorem LV.stepS {w wr : World} {ao : Option Addr} {cp : Nat} {us : List Value} {ls : List (List Nat)} (h : LV w wr ao cp us ls) (l : List Nat) (yo : Option Addr) (yc : Nat) (hs : Sl wr (.slice yo l.length yc) l) (hq : l = [] ∨ Bk (.slice yo l.length yc) (fun g => ∀ g', (Value.slice ao us.length cp).ownBlock = some g' → ¬ g = g')) (hn : us.length < 16000000) :
    ∃ ao' cp' w2, (Builtin.append_ #[22, 22] 22 #[.slice ao us.length cp, .slice (some ⟨wr.heap.size, 0, none⟩) 1 1]).run Tryd.prog (wr.alloc (.cells #[.slice yo l.length yc] 23)) = .ok (.slice ao' (us.length + 1) cp') w2 ∧ LV w w2 ao' cp' (us ++ [.slice yo l.length yc]) (ls ++ [l]) ∧ Fr (fun k => (Value.slice ao us.length cp).ownBlock = some k) wr w2 ∧ ∀ g', (Value.slice ao' (us.length + 1) cp').ownBlock = some g' → (Value.slice ao us.length cp).ownBlock = some g' ∨ wr.heap.size ≤ g' := by
  obtain ⟨ao', cp', w2, hr, hOS, hgrow, hat⟩ := h.own.app1 yo l.length yc hn
  have hF : Fr (fun k => (Value.slice ao us.length cp).ownBlock = some k) wr w2 := ((Fr.refl _ _).alloc _).grown hgrow (fun g hg => .inl hg)
  have hsz2 : wr.heap.size ≤ w2.heap.size := hF.size
  have hnew0 : ∀ g', (Value.slice ao' (us.length + 1) cp').ownBlock = some g' → (Value.slice ao us.length cp).ownBlock = some g' ∨ wr.heap.size < g' := fun g' hg => by
    rcases hat with h1 | h1
    · rw [h1] at hg; exact .inl hg
    · rw [h1] at hg
      simp only [Option.some.injEq] at hg
      simp at hg
      exact .inr (by omega)
  have hnew : ∀ g', (Value.slice ao' (us ++ [Value.slice yo l.length yc]).length cp').ownBlock = some g' → (Value.slice ao us.length cp).ownBlock = some g' ∨ wr.heap.size < g' := fun g' hg => hnew0 g' (by rw [List.length_append] at hg; exact hg)
  refine ⟨ao', cp', w2, hr, ⟨hOS, by rw [List.length_append, List.length_append, h.len]; rfl, fun j u p hu hp => ?_⟩, hF, fun g' hg => (hnew0 g' hg).imp id Nat.le_of_lt⟩
  by_cases hj : j < us.length
  · rw [List.getElem?_append_left hj] at hu
    rw [List.getElem?_append_left (by rw [← h.len]; exact hj)] at hp
    obtain ⟨h1, h2⟩ := h.sl j u p hu hp
    refine ⟨h1.frD hF (h2.imp id (fun hh g o n c e hg => (hh g o n c e).2 g hg rfl)), h2.imp id (fun hh g o n c e => ⟨by have := (hh g o n c e).1; omega, fun g' hg' e2 => ?_⟩)⟩
    rcases hnew g' hg' with h3 | h3
    · exact (hh g o n c e).2 g' h3 e2
    · have := (hh g o n c e).1; omega
  · have hje : j = us.length := by
      have := (List.getElem?_eq_some_iff.1 hu).1
      rw [List.length_append, List.length_singleton] at this
      omega
    subst hje
    rw [List.getElem?_append_right (Nat.le_refl _), Nat.sub_self] at hu
    rw [List.getElem?_append_right (by rw [h.len]; exact Nat.le_refl _), h.len, Nat.sub_self] at hp
    simp only [List.getElem?_cons_zero, Option.some.injEq] at hu hp
    subst hu hp
    refine ⟨hs.frD hF (hq.imp id (fun hq g o n c e hg => hq g o n c e g hg rfl)), ?_⟩
    rcases hq with hq | hq
    · exact .inl hq
    · refine hs.lt.imp id (fun hh g o n c e => ⟨Nat.lt_of_lt_of_le (hh g o n c e) hsz2, fun g' hg' e2 => ?_⟩)
      rcases hnew g' hg' with h3 | h3
      · exact hq g o n c e g' h3 e2
      · have := hh g o n c e; omega
/-- A hash of a list, while another list grew. -/
theorem LV.nthD {wA wB wr : World} {bo : Option Addr} {bc : Nat} {us : List Value} {ls : List (List Nat)} {S : Nat → Prop} (h : LV wA wB bo bc us ls) (hF : Fr S wB wr) (hS : ∀ g, S g → g < wA.heap.size) (hSe : ∀ u ∈ us, Bk u (fun g => ¬ S g)) (k : Nat) (hk : k < ls.length) :
    ∃ g yo yc, bo = some ⟨g, 0, none⟩ ∧ wr.cell? ⟨g, k, none⟩ = some (.slice yo ls[k].length yc) ∧ .slice yo ls[k].length yc ∈ us ∧ Sl wr (.slice yo ls[k].length yc) ls[k] ∧ (ls[k] = [] ∨ Bk (.slice yo ls[k].length yc) (fun g => g < wB.heap.size)) := by
  have hku : k < us.length := by rw [h.len]; exact hk
  have hsl := (h.sl k us[k] ls[k] (List.getElem?_eq_getElem hku) (List.getElem?_eq_getElem hk)).1
  obtain ⟨yo, yc, e⟩ := hsl.form
  have hlt := hsl.lt
  have hmem : us[k] ∈ us := List.getElem_mem hku
  have hsl2 := hsl.frD hF (.inr (fun g o m c e' => hSe us[k] hmem g o m c e'))
  rcases h.own.own.2 with ⟨_, e0⟩ | ⟨g, cap, cur, eo, _⟩
  · omega
  · simp only [Value.slice.injEq] at eo
    obtain ⟨rfl, -, rfl⟩ := eo
    obtain ⟨hb, hl⟩ := h.own.own.lt g rfl
    have hc := h.own.own.cellAt k (by omega)
    rw [List.getElem?_eq_getElem hku, e] at hc
    rw [e] at hmem hsl2 hlt
    exact ⟨g, yo, yc, rfl, (hF.cell (p := ⟨g, k, none⟩) hl (fun hs => by have := hS g hs; omega)).trans hc, hmem, hsl2, hlt⟩
/-- The hashes for places, as the document gathers them. -/
def mnyG (i : Int) (ps : List (List Nat)) (zs : List Int) : List (List Nat) :=
  if zs = [] then [mth i ps]
  else if _h : ps.length < 2 then []
  else mnyG i (ps.take (hf ps.length)) (pa ((hf ps.length : Nat) : Int) zs) ++ mnyG i (ps.drop (hf ps.length)) (pb ((hf ps.length : Nat) : Int) zs)
termination_by ps.length
decreasing_by
  · rw [List.length_take]; have := hf_lt ps.length (by omega); omega
  · rw [List.length_drop]; have := hf_pos ps.length; omega
theorem mnyG_nil (i : Int) (ps : List (List Nat)) : mnyG i ps [] = [mth i ps] := by rw [mnyG, if_pos rfl]
theorem mnyG_one {i : Int} {ps : List (List Nat)} {zs : List Int} (hz : zs ≠ []) (h : ps.length < 2) : mnyG i ps zs = [] := by rw [mnyG, if_neg hz, dif_pos h]
theorem mnyG_two {i : Int} {ps : List (List Nat)} {zs : List Int} (hz : zs ≠ []) (h : 2 ≤ ps.length) : mnyG i ps zs = mnyG i (ps.take (hf ps.length)) (pa ((hf ps.length : Nat) : Int) zs) ++ mnyG i (ps.drop (hf ps.length)) (pb ((hf ps.length : Nat) : Int) zs) := by
  conv => lhs; rw [mnyG, if_neg hz, dif_neg (by omega)]
theorem mnyG_lt (i : Int) (k : Nat) : ∀ (ps : List (List Nat)) (zs : List Int), ps.length ≤ k → 1 ≤ ps.length → (mnyG i ps zs).length ≤ ps.length := by
  induction k with
  | zero => intro ps zs h h1; omega
  | succ k ih =>
    intro ps zs h h1
    by_cases hz : zs = []
    · rw [hz, mnyG_nil]; simpa using h1
    · by_cases h2 : ps.length < 2
      · rw [mnyG_one hz h2]; simp
      · have h3 := hf_lt ps.length (by omega)
        have h4 := hf_pos ps.length
        have l1 : (ps.take (hf ps.length)).length = hf ps.length := by rw [List.length_take]; omega
        have l2 : (ps.drop (hf ps.length)).length = ps.length - hf ps.length := by rw [List.length_drop]
        rw [mnyG_two hz (by omega), List.length_append]
        have i1 := ih (ps.take (hf ps.length)) (pa ((hf ps.length : Nat) : Int) zs) (by omega) (by omega)
        have i2 := ih (ps.drop (hf ps.length)) (pb ((hf ps.length : Nat) : Int) zs) (by omega) (by omega)
        omega
theorem mnyG_le (i : Int) (ps : List (List Nat)) (zs : List Int) : (mnyG i ps zs).length ≤ ps.length + 1 := by
  by_cases h : 1 ≤ ps.length
  · have := mnyG_lt i _ ps zs (Nat.le_refl _) h; omega
  · by_cases hz : zs = []
    · rw [hz, mnyG_nil]; simp
    · rw [mnyG_one hz (by omega)]; simp
end Go.Proofs.YtocdnomfpgdglabDoor

namespace Go.Proofs.YtocdnomfpgdglabDoor
open Go.RowKit

def ManyQ (N0 : Nat) (wi : Int) (ps : List (List Nat)) (zs : List Int) (x y : Value) (w : World) : Prop :=
  Calls Tryd.prog 107 #[.int .i64 wi, x, y] w fun e w' => ∃ ao cp us, e = .returned (.slice ao us.length cp) ∧ LV w w' ao cp us (mnyG wi ps zs) ∧ ∀ u ∈ us, Bk u (fun g => g < N0 ∨ w.heap.size ≤ g)
set_option maxRecDepth 100000 in
set_option maxHeartbeats 1000000 in
theorem manyQ_nil (N0 : Nat) (wi : Int) (ps : List (List Nat)) (x y : Value) (vs : List Value) (w : World) (hl8 : ps.length ≤ 8000000) (hr : GR w) (hp : Pcs w x vs ps) (hcx : Cp x) (hB : ∀ p ∈ ps, p.length ≤ 4000000) (hq : ∀ u ∈ vs, Bk u (fun g => g < N0)) (hy : Ints w y []) : ManyQ N0 wi ps [] x y w := by
  have hof := ofQ_any N0 wi ps x vs w hl8 hr hp hcx hB hq
  unfold ManyQ
  unfold OfQ at hof
  rw [mnyG_nil]
  obtain ⟨xo, xc, rfl⟩ := hp.form
  obtain ⟨yo, yc, rfl⟩ := hy.form
  generalize mth wi ps = M at *
  have HG := hide hof
  clear hof hr hp hB hq hy hcx hl8
  generalize ps.length = N at *
  simp only [List.length_nil]
  go_enter Tryd.func107, Tryd.ntmps107
  go_wp2_with fail
  refine (unhide HG).mono ?_
  rintro e w1 ⟨zo, zc, rfl, hS, hF, hK⟩
  obtain ⟨W, hW⟩ : ∃ W, w1.alloc (.cells #[.slice zo M.length zc] 23) = W := ⟨_, rfl⟩
  have H1 := hide (And.intro (LV.lit hF hS W hW) (And.intro hK hW))
  clear hS hF hK hW
  go_wp2_with fail
  go_ret
  have hW := (unhide H1).2.2
  rw [hW]
  exact ⟨_, _, _, rfl, (unhide H1).1, fun u hu => by simp at hu; subst hu; exact (unhide H1).2.1⟩
set_option maxRecDepth 100000 in
set_option maxHeartbeats 1000000 in
theorem manyQ_one (N0 : Nat) (wi : Int) (ps : List (List Nat)) (zs : List Int) (x y : Value) (vs : List Value) (w : World) (hp : Pcs w x vs ps) (hy : Ints w y zs) (hz : zs ≠ []) (h1 : ps.length = 1) : ManyQ N0 wi ps zs x y w := by
  unfold ManyQ
  rw [mnyG_one hz (by omega)]
  obtain ⟨xo, xc, rfl⟩ := hp.form
  obtain ⟨yo, yc, rfl⟩ := hy.form
  have h0 : 0 < zs.length := List.length_pos_iff.2 hz
  have q0 : ((zs.length : Int) == 0) = false := beq_false_of_ne (by omega)
  have q1 : ¬ zs.length = 0 := by omega
  have q2 : ¬ zs = [] := hz
  clear hp hy
  rw [h1]
  clear h1
  generalize zs.length = Z at *
  go_enter Tryd.func107, Tryd.ntmps107
  go_wp2_with fail
  go_ret
  exact ⟨none, 0, [], rfl, LV.nil _, fun u hu => by cases hu⟩
set_option maxRecDepth 100000 in
set_option maxHeartbeats 4000000 in
/-- The document's ManyOf. -/
theorem manyQ_any (N0 : Nat) (wi : Int) (n : Nat) : ∀ (ps : List (List Nat)) (zs : List Int) (x y : Value) (vs : List Value) (w : World), ps.length ≤ n → ps.length ≤ 8000000 - 1 → GR w → Pcs w x vs ps → Cp x → (∀ p ∈ ps, p.length ≤ 4000000) → Ints w y zs → zs.length ≤ 8000000 → (∀ z ∈ zs, 0 ≤ z ∧ z ≤ 16000000) → (zs ≠ [] → 1 ≤ ps.length) → N0 ≤ w.heap.size → (∀ u ∈ vs, Bk u (fun g => g < N0)) → ManyQ N0 wi ps zs x y w := by
  induction n with
  | zero =>
    intro ps zs x y vs w hl hl8 hr hp hcx hB hy hzl hzb hz1 hN0 hq
    have e : zs = [] := Classical.byContradiction fun h => by have := hz1 h; omega
    subst e
    exact manyQ_nil N0 wi ps x y vs w (by omega) hr hp hcx hB hq hy
  | succ n ih =>
    intro ps zs x y vs w hl hl8 hr hp hcx hB hy hzl hzb hz1 hN0 hq
    by_cases hz : zs = []
    · subst hz
      exact manyQ_nil N0 wi ps x y vs w (by omega) hr hp hcx hB hq hy
    · have hp1 := hz1 hz
      by_cases h1 : ps.length = 1
      · exact manyQ_one N0 wi ps zs x y vs w hp hy hz h1
      · obtain ⟨xo, xc, rfl⟩ := hp.form
        obtain ⟨yo, yc, rfl⟩ := hy.form
        obtain ⟨g, o, v, rfl, -⟩ := hp.cell (Fr.refl _ _) 0 (by omega)
        have hk1 := hf_lt ps.length (by omega)
        have hk2 := hf_pos ps.length
        have hle : vs.length = ps.length := hp.len
        have hcapx : ps.length ≤ xc := hcx _ _ _ rfl
        have cp1 : Cp (.slice (some ⟨g, o, none⟩) (hf ps.length) xc) := fun _ _ _ e => by cases e; omega
        have cp2 : Cp (.slice (some ⟨g, o + hf ps.length, none⟩) (ps.length - hf ps.length) (xc - hf ps.length)) := fun _ _ _ e => by cases e; omega
        have hP1 := hp.take (hf ps.length) (by omega)
        have hP2 := hp.drop (hf ps.length) hk1
        have hB1 : ∀ p ∈ ps.take (hf ps.length), p.length ≤ 4000000 := fun p h => hB p (List.mem_of_mem_take h)
        have hB2 : ∀ p ∈ ps.drop (hf ps.length), p.length ≤ 4000000 := fun p h => hB p (List.mem_of_mem_drop h)
        have hl1 : (ps.take (hf ps.length)).length = hf ps.length := by rw [List.length_take]; omega
        have hl2 : (ps.drop (hf ps.length)).length = ps.length - hf ps.length := by rw [List.length_drop]
        have hla := pa_le ((hf ps.length : Nat) : Int) zs
        have hlb := pb_le ((hf ps.length : Nat) : Int) zs
        have hza : ∀ z ∈ pa ((hf ps.length : Nat) : Int) zs, 0 ≤ z ∧ z ≤ 16000000 := fun z h => hzb z (List.mem_filter.1 h).1
        have hzc : ∀ z ∈ pb ((hf ps.length : Nat) : Int) zs, 0 ≤ z ∧ z ≤ 16000000 := fun z h => by
          obtain ⟨z', h', rfl⟩ := List.mem_map.1 h
          have h2 := hzb z' (List.mem_filter.1 h').1
          have h3 := (List.mem_filter.1 h').2
          simp at h3
          omega
        have hha := half_any ps.length w (by omega) (by omega)
        have hpt := parted_any _ zs ((hf ps.length : Nat) : Int) w hy (by omega) (by omega) (fun z hz => by have := hzb z hz; omega)
        have c1 : ∀ w' a, Fr (fun _ => False) w w' → Ints w' a (pa ((hf ps.length : Nat) : Int) zs) → ManyQ N0 wi (ps.take (hf ps.length)) (pa ((hf ps.length : Nat) : Int) zs) (.slice (some ⟨g, o, none⟩) (hf ps.length) xc) a w' := fun w' a hfr ha => ih _ _ _ _ _ w' (by omega) (by omega) (hr.fr0 hfr) (hP1.fr0 hfr) cp1 hB1 ha (by omega) hza (fun _ => by omega) (Nat.le_trans hN0 hfr.size) (fun u hu => hq u (List.mem_of_mem_take hu))
        have c2 : ∀ w' b, Fr (fun _ => False) w w' → Ints w' b (pb ((hf ps.length : Nat) : Int) zs) → ManyQ N0 wi (ps.drop (hf ps.length)) (pb ((hf ps.length : Nat) : Int) zs) (.slice (some ⟨g, o + hf ps.length, none⟩) (ps.length - hf ps.length) (xc - hf ps.length)) b w' := fun w' b hfr hb => ih _ _ _ _ _ w' (by omega) (by omega) (hr.fr0 hfr) (hP2.fr0 hfr) cp2 hB2 hb (by omega) hzc (fun _ => by omega) (Nat.le_trans hN0 hfr.size) (fun u hu => hq u (List.mem_of_mem_drop hu))
        have m1 := mnyG_le wi (ps.take (hf ps.length)) (pa ((hf ps.length : Nat) : Int) zs)
        have m2 := mnyG_le wi (ps.drop (hf ps.length)) (pb ((hf ps.length : Nat) : Int) zs)
        have fa : ∀ w' a, Ints w' a (pa ((hf ps.length : Nat) : Int) zs) → ∃ ao ac, a = .slice ao (pa ((hf ps.length : Nat) : Int) zs).length ac := fun w' a h => h.form
        have fb : ∀ w' a, Ints w' a (pb ((hf ps.length : Nat) : Int) zs) → ∃ ao ac, a = .slice ao (pb ((hf ps.length : Nat) : Int) zs).length ac := fun w' a h => h.form
        unfold ManyQ at c1 c2 ⊢
        rw [mnyG_two hz (by omega)]
        generalize mnyG wi (ps.take (hf ps.length)) (pa ((hf ps.length : Nat) : Int) zs) = A1 at *
        generalize mnyG wi (ps.drop (hf ps.length)) (pb ((hf ps.length : Nat) : Int) zs) = A2 at *
        have m3 : A1.length ≤ 8000000 ∧ A2.length ≤ 8000000 := by omega
        have h0 : 0 < zs.length := List.length_pos_iff.2 hz
        have q0 : ((zs.length : Int) == 0) = false := beq_false_of_ne (by omega)
        have q1 : ¬ zs.length = 0 := by omega
        have q2 : ¬ zs = [] := hz
        have HG := hide (And.intro hha (And.intro hpt (And.intro c1 (And.intro c2 (And.intro m3 (And.intro hN0 (And.intro fa fb)))))))
        clear hr hP1 hP2 c1 c2 hha hpt hB hB1 hB2 hp hl1 hl2 ih cp1 cp2 hcx m1 m2 m3 hla hlb hza hzc hzb hz1 hq hy hle fa fb
        generalize (pa ((hf ps.length : Nat) : Int) zs).length = LA at *
        generalize (pb ((hf ps.length : Nat) : Int) zs).length = LB at *
        generalize hK : hf ps.length = K at *
        have q3 : (K : Int) ≤ (ps.length : Int) := by omega
        have q4 : (K : Int) ≤ (xc : Int) := by omega
        have q5 : ¬ xc = K := by omega
        have q6 : ¬ K = xc := by omega
        have q7 : ((ps.length : Int) == 1) = false := beq_false_of_ne (by omega)
        have q8 : ¬ ps.length = 1 := by omega
        clear hK
        generalize ps.length = N at *
        generalize zs.length = Z at *
        go_enter Tryd.func107, Tryd.ntmps107
        go_wp2_with fail
        refine (unhide HG).1.mono ?_
        rintro e w0 ⟨rfl, rfl⟩
        go_wp2_with fail
        refine (unhide HG).2.1.mono ?_
        rintro e w1 ⟨a, b, rfl, hIa, hIb, hF⟩
        obtain ⟨a0, ac, rfl⟩ := (unhide HG).2.2.2.2.2.2.1 _ _ hIa
        obtain ⟨b0, bc, rfl⟩ := (unhide HG).2.2.2.2.2.2.2 _ _ hIb
        have H1 := hide (And.intro hIa (And.intro hIb hF))
        clear hIa hIb hF
        go_wp2_with fail
        refine ((unhide HG).2.2.1 w1 _ (unhide H1).2.2 (unhide H1).1).mono ?_
        rintro e w2 ⟨ao, cp, us, rfl, hV, hQ⟩
        have H2 := hide (And.intro (hV.base (unhide H1).2.2) (And.intro hV.own.fr (And.intro hQ hV.len)))
        clear hV hQ
        go_wp2_with fail
        refine ((unhide HG).2.2.2.1 w2 _ ((unhide H1).2.2.trans (unhide H2).2.1 (fun _ _ h => h)) ((unhide H1).2.1.fr0 (unhide H2).2.1)).mono ?_
        rintro e w3 ⟨bo, bcp, ts, rfl, hV, hQ⟩
        have htl : ts.length = A2.length := hV.len
        rw [htl]
        have H3 := hide (And.intro hV (And.intro hQ htl))
        clear hV hQ htl
        go_wp2_with fail
        go_loopw [10, 12] (fun ov iv wr => ∃ (k : Nat) (ro : Option Addr) (rc : Nat) (rs : List Value), k ≤ A2.length ∧ iv = .int .i64 (k : Nat) ∧ ov = .slice ro rs.length rc ∧ LV w0 wr ro rc rs (A1 ++ A2.take k) ∧ Fr (fun j => (Value.slice ao us.length cp).ownBlock = some j) w3 wr ∧ (∀ g', (Value.slice ro rs.length rc).ownBlock = some g' → (Value.slice ao us.length cp).ownBlock = some g' ∨ w3.heap.size ≤ g') ∧ ∀ u ∈ rs, Bk u (fun g => g < N0 ∨ w0.heap.size ≤ g)) (fun _ iv _ => A2.length - (intOf iv).toNat)
        case atStart => exact ⟨0, ao, cp, us, Nat.zero_le _, rfl, rfl, by simpa using (unhide H2).1.fr0 (unhide H3).1.own.fr, Fr.refl _ _, fun g h => .inl h, fun u hu g o n c e => ((unhide H2).2.2.1 u hu g o n c e).imp id (fun h => Nat.le_trans (unhide H1).2.2.size h)⟩
        case round =>
          obtain ⟨k, ro, rc, rs, hk, rfl, rfl, hV, hF, hO, hQ⟩ := hrel
          have hm := (unhide HG).2.2.2.2.1
          have hrl : rs.length = A1.length + k := by rw [hV.len, List.length_append, List.length_take]; omega
          by_cases hlt : k < A2.length
          · have hlt' : (k : Int) < (A2.length : Int) := by omega
            have hown : ∀ g', (Value.slice ao us.length cp).ownBlock = some g' → w0.heap.size ≤ g' ∧ g' < w2.heap.size := fun g' hg => (unhide H2).1.own.own.lt g' hg
            have hN0 := (unhide HG).2.2.2.2.2.1
            have h02 : w0.heap.size ≤ w2.heap.size := (unhide H2).1.own.fr.size
            obtain ⟨g2, yo2, yc2, rfl, hcell, hmem, hsl, hl3⟩ := (unhide H3).1.nthD hF (fun g hg => (hown g hg).2) (fun u hu g o n c e hS => by
              have h1 := hown g hS
              rcases (unhide H3).2.1 u hu g o n c e with h2 | h2 <;> omega) k hlt
            have hbk := (unhide H3).2.1 _ hmem
            have hqq : A2[k] = [] ∨ Bk (.slice yo2 A2[k].length yc2) (fun g => ∀ g', (Value.slice ro rs.length rc).ownBlock = some g' → ¬ g = g') := hl3.imp id (fun h g o n c e g' hg' eg => by
              rcases hO g' hg' with h1 | h1
              · have h3 := hown g' h1
                rcases hbk g o n c e with h2 | h2 <;> omega
              · have := h g o n c e; omega)
            obtain ⟨ro', rc', w5, hr, hV5, hF5, hO5⟩ := hV.stepS A2[k] yo2 yc2 hsl hqq (by omega)
            have e1 : A1 ++ A2.take k ++ [A2[k]] = A1 ++ A2.take (k + 1) := by
              rw [List.append_assoc, List.take_add_one, List.getElem?_eq_getElem hlt]; rfl
            rw [e1] at hV5
            have h3r : w3.heap.size ≤ wr.heap.size := hF.size
            have hF6 : Fr (fun j => (Value.slice ao us.length cp).ownBlock = some j) w3 w5 := hF.trans hF5 (fun j hj hT => (hO j hT).resolve_right (by omega))
            have hO6 : ∀ g', (Value.slice ro' (rs ++ [Value.slice yo2 A2[k].length yc2]).length rc').ownBlock = some g' → (Value.slice ao us.length cp).ownBlock = some g' ∨ w3.heap.size ≤ g' := fun g' hg' => by
              rw [List.length_append] at hg'
              rcases hO5 g' hg' with h | h
              · exact hO g' h
              · exact .inr (by omega)
            have hQ6 : ∀ u ∈ rs ++ [Value.slice yo2 A2[k].length yc2], Bk u (fun g => g < N0 ∨ w0.heap.size ≤ g) := fun u hu => by
              rcases List.mem_append.1 hu with hu | hu
              · exact hQ u hu
              · simp at hu
                subst hu
                exact fun g o n c e => (hbk g o n c e).imp id (fun h => by omega)
            have hcell2 : wr.cell? ⟨g2, 0 + k, none⟩ = some (.slice yo2 A2[k].length yc2) := by rw [Nat.zero_add]; exact hcell
            have HR := hide hr
            have HV := hide (And.intro hV5 (And.intro hF6 (And.intro hO6 hQ6)))
            clear hr hV5 hF5 hO5 hF6 hO6 hQ6 hV hF hO hQ hqq hbk hl3 hsl hmem e1 hown
            have w1' : IntKind.i64.wrap ((k : Int) + 1) = (k : Int) + 1 := by rw [IntKind.wrap_i64]; omega
            generalize A2[k].length = EL at *
            generalize A2.length = NB at *
            go_wp2_with (at_builtin; refine wpList_app rfl (.tmp 50) (.tmp 55) 22 22 rfl _ _ _ rfl rfl (unhide HR) ?_)
            exact ⟨⟨k + 1, ro', rc', _, by omega, by go_num, by first | (rw [List.length_append]; rfl) | (rw [List.length_append, hrl]; rfl), (unhide HV).1, (unhide HV).2.1, (unhide HV).2.2.1, (unhide HV).2.2.2⟩, by simp [intOf]; omega⟩
          · have hkN : k = A2.length := by omega
            have hlt' : ¬ (k : Int) < (A2.length : Int) := by omega
            rw [List.take_of_length_le (by omega)] at hV
            have HV := hide (And.intro hV hQ)
            clear hV hQ hkN hO hF hrl
            generalize A2.length = NB at *
            go_wp2_with fail
            go_ret
            exact ⟨ro, rc, rs, rfl, (unhide HV).1, (unhide HV).2⟩
end Go.Proofs.YtocdnomfpgdglabDoor

namespace Go.Proofs.YtocdnomfpgdglabDoor
open Go.RowKit

theorem pcs2 {w : World} {x y : Value} {a b : List Nat} (hx : Sl w x a) (hy : Sl w y b) (W : World) (hW : w.alloc (.cells #[x, y] 23) = W) : Pcs W (.slice (some ⟨w.heap.size, 0, none⟩) 2 2) [x, y] [a, b] := by
  have hF1 : Fr (fun _ => False) w W := by rw [← hW]; exact (Fr.refl _ _).alloc _
  have hx1 := hx.fr0 hF1
  have hy1 := hy.fr0 hF1
  have hc : ∀ j, j < 2 → W.cell? ⟨w.heap.size, 0 + j, none⟩ = (#[x, y] : Array Value)[j]? := fun j hj => by rw [Nat.zero_add, ← hW, World.cell?_alloc_at _ _ _ _ rfl]
  have hc0 := hc 0 (by decide)
  have hl : w.heap.size < W.heap.size := lt_of_cell (v := x) hc0
  refine ⟨rfl, .inr (.inr ⟨w.heap.size, 0, 2, rfl, hl, fun j v hv => ?_⟩), fun j v p hv hp => ?_, fun p hp => ?_⟩
  · match j with
    | 0 => rw [hc 0 (by decide)]; simpa using hv
    | 1 => rw [hc 1 (by decide)]; simpa using hv
    | j + 2 => simp at hv
  · match j with
    | 0 => simp at hv hp; subst hv hp; exact ⟨hx1.s, hx1.cap, hx1.lt⟩
    | 1 => simp at hv hp; subst hv hp; exact ⟨hy1.s, hy1.cap, hy1.lt⟩
    | j + 2 => simp at hv
  · simp at hp
    rcases hp with rfl | rfl
    · exact hx1.b
    · exact hy1.b
/-- What CheckPath answers. -/
def chkP (j : Int) (leaf : List Nat) (i n : Int) (ps : List (List Nat)) (root : List Nat) : Bool :=
  decide (1 ≤ j ∧ j ≤ 32) && (decide (0 ≤ i) && (decide (i < n) && (wdq j [leaf, root] && (wdq j ps && (decide (ps.length = dep 0 n.toNat i.toNat 1) && decide (topv j.toNat leaf 0 n.toNat i.toNat 1 ps = root))))))
set_option maxRecDepth 100000 in
set_option maxHeartbeats 2000000 in
theorem checkPath_any (j i n : Int) (lv rv x : Value) (leaf root : List Nat) (vs : List Value) (ps : List (List Nat)) (w : World) (hg : GS w) (hl : Sl w lv leaf) (hr : Sl w rv root) (hp : Pcs w x vs ps) (hcx : Cp x) (hn : n < 9223372036854775808) (hps : ps.length < 4611686018427387904) :
    Calls Tryd.prog 18 #[.int .i64 j, lv, .int .i64 i, .int .i64 n, x, rv] w fun e w' => e = .returned (.bool (chkP j leaf i n ps root)) ∧ Fr (fun _ => False) w w' := by
  obtain ⟨lo, lc, rfl⟩ := hl.form
  obtain ⟨rr, rc, rfl⟩ := hr.form
  obtain ⟨xo, xc, rfl⟩ := hp.form
  by_cases h1o : j < 1 ∨ 32 < j
  · have h1 : ¬ (1 ≤ j ∧ j ≤ 32) := by omega
    have hB : chkP j leaf i n ps root = false := by rw [chkP, decide_eq_false h1]; rfl
    rw [hB]
    have HM := hide h1
    clear hg hl hr hp hcx hn hps hB h1 h1o
    generalize leaf.length = LL at *
    generalize root.length = RL at *
    generalize ps.length = PL at *
    go_enter Tryd.func18, Tryd.ntmps18
    go_wp2_with (go_at_call 52; refine (maybe_any j _).mono ?_; rintro e' w' ⟨rfl, hw'⟩; rw [hw', decide_eq_false (unhide HM)])
    go_ret
    exact ⟨rfl, Fr.refl _ _⟩
  · have h1 : 1 ≤ j ∧ j ≤ 32 := by omega
    clear h1o
    have HM := hide h1
    by_cases h2' : i < 0
    · have h2 : ¬ 0 ≤ i := by omega
      have hB : chkP j leaf i n ps root = false := by rw [chkP, decide_eq_true h1, decide_eq_false h2]; rfl
      rw [hB]
      clear hg hl hr hp hcx hn hps hB h1
      generalize leaf.length = LL at *
      generalize root.length = RL at *
      generalize ps.length = PL at *
      go_enter Tryd.func18, Tryd.ntmps18
      go_wp2_with (go_at_call 52; refine (maybe_any j _).mono ?_; rintro e' w' ⟨rfl, hw'⟩; rw [hw', decide_eq_true (unhide HM)])
      go_ret
      exact ⟨rfl, Fr.refl _ _⟩
    · have h2 : 0 ≤ i := by omega
      by_cases h3' : n ≤ i
      · have h3 : ¬ i < n := by omega
        have hB : chkP j leaf i n ps root = false := by rw [chkP, decide_eq_true h1, decide_eq_true h2, decide_eq_false h3]; rfl
        rw [hB]
        clear hg hl hr hp hcx hn hps hB h1
        generalize leaf.length = LL at *
        generalize root.length = RL at *
        generalize ps.length = PL at *
        go_enter Tryd.func18, Tryd.ntmps18
        go_wp2_with (go_at_call 52; refine (maybe_any j _).mono ?_; rintro e' w' ⟨rfl, hw'⟩; rw [hw', decide_eq_true (unhide HM)])
        go_ret
        exact ⟨rfl, Fr.refl _ _⟩
      · have h3 : i < n := by omega
        clear h2' h3'
        obtain ⟨wi, rfl⟩ : ∃ k : Nat, j = (k : Int) := ⟨j.toNat, by omega⟩
        obtain ⟨I, rfl⟩ : ∃ k : Nat, i = (k : Int) := ⟨i.toNat, by omega⟩
        obtain ⟨N, rfl⟩ : ∃ k : Nat, n = (k : Int) := ⟨n.toNat, by omega⟩
        have h2' : ¬ (I : Int) < 0 := by omega
        have h3' : ¬ (N : Int) ≤ (I : Int) := by omega
        have hIN : I < N := by omega
        have hrch := rch_one N 0 N I (Nat.le_refl _) (by omega) (by omega)
        obtain ⟨W1, hW1⟩ : ∃ W1, w.alloc (.cells #[.slice lo leaf.length lc, .slice rr root.length rc] 23) = W1 := ⟨_, rfl⟩
        have hF1 : Fr (fun _ => False) w W1 := by rw [← hW1]; exact (Fr.refl _ _).alloc _
        have hwd1 := wide_any wi _ _ [leaf, root] W1 (pcs2 hl hr W1 hW1) (by simp)
        have hwd2 := wide_any wi _ vs ps W1 (hp.fr0 hF1) hps
        have hce : chkP wi leaf I N ps root = (wdq wi [leaf, root] && (wdq wi ps && (decide (ps.length = dep 0 N I 1) && decide (topv wi leaf 0 N I 1 ps = root)))) := by
          rw [chkP, decide_eq_true h1, decide_eq_true h2, decide_eq_true h3]; rfl
        rw [hce]
        clear hce
        cases hq1 : wdq wi [leaf, root] with
        | false =>
          rw [hq1] at hwd1
          rw [Bool.false_and]
          have HC := hide (And.intro hwd1 hF1)
          clear hg hl hr hp hcx hn hps h1 h2 h3 hwd1 hwd2 hF1 hrch hIN hq1
          generalize leaf.length = LL at *
          generalize root.length = RL at *
          generalize ps.length = PL at *
          go_enter Tryd.func18, Tryd.ntmps18
          go_wp2_with (go_at_call 52; refine (maybe_any wi _).mono ?_; rintro e' w' ⟨rfl, hw'⟩; rw [hw', decide_eq_true (unhide HM)])
          refine (unhide HC).1.mono ?_
          rintro e' w2 ⟨rfl, rfl⟩
          go_wp2_with fail
          go_ret
          exact ⟨rfl, (unhide HC).2⟩
        | true =>
          rw [hq1] at hwd1
          rw [Bool.true_and]
          cases hq2 : wdq wi ps with
          | false =>
            rw [hq2] at hwd2
            rw [Bool.false_and]
            have HC := hide (And.intro hwd1 (And.intro hwd2 hF1))
            clear hg hl hr hp hcx hn hps h1 h2 h3 hwd1 hwd2 hF1 hrch hIN hq1 hq2
            generalize leaf.length = LL at *
            generalize root.length = RL at *
            generalize ps.length = PL at *
            go_enter Tryd.func18, Tryd.ntmps18
            go_wp2_with (go_at_call 52; refine (maybe_any wi _).mono ?_; rintro e' w' ⟨rfl, hw'⟩; rw [hw', decide_eq_true (unhide HM)])
            refine (unhide HC).1.mono ?_
            rintro e' w2 ⟨rfl, rfl⟩
            go_wp2_with fail
            refine (unhide HC).2.1.mono ?_
            rintro e' w3 ⟨rfl, rfl⟩
            go_wp2_with fail
            go_ret
            exact ⟨rfl, (unhide HC).2.2⟩
          | true =>
            rw [hq2] at hwd2
            rw [Bool.true_and]
            have hlw : leaf.length = wi := by have := wdq_true hq1 leaf (by simp); omega
            have hpw : ∀ p ∈ ps, p.length = wi := fun p hp => by have := wdq_true hq2 p hp; omega
            have hoe := fun w' => ofEntry_any wi I lo leaf.length lc xo ps.length xc w'
            have hft := fun w' => fits_any wi 0 N I 1 lo leaf.length lc xo ps.length xc w' (by omega) hrch
            by_cases hD : ps.length = dep 0 N I 1
            · have htop := fun w' (hf : Fr (fun _ => False) w w') => top_any wi (by omega) (by omega) N 0 N I 1 w' lo leaf.length lc leaf _ vs ps (Nat.le_refl _) (by omega) hrch (hg.fr0 hf) (hl.fr0 hf) hlw (hp.fr0 hf) hcx hD hpw
              rw [decide_eq_true hD] at hft ⊢
              rw [Bool.true_and]
              have HC := hide (And.intro hwd1 (And.intro hwd2 (And.intro hoe (And.intro hft (And.intro htop (And.intro hr hF1))))))
              clear hg hl hp hcx hn hps h1 h2 h3 hwd1 hwd2 hF1 hrch hIN hq1 hq2 hoe hft htop hD hpw hlw hr
              generalize topv wi leaf 0 N I 1 ps = TV at *
              obtain ⟨BB, hBB⟩ : ∃ BB, decide (TV = root) = BB := ⟨_, rfl⟩
              rw [hBB]
              have HBB := hide hBB
              clear hBB
              generalize leaf.length = LL at *
              generalize root.length = RL at *
              generalize ps.length = PL at *
              unfold sv cv at HC
              have e1 : ((1 : Nat) : Int) = 1 := rfl
              have e0 : ((0 : Nat) : Int) = 0 := rfl
              simp only [e1, e0] at HC
              clear e1 e0
              go_enter Tryd.func18, Tryd.ntmps18
              go_wp2_with (go_at_call 52; refine (maybe_any wi _).mono ?_; rintro e' w' ⟨rfl, hw'⟩; rw [hw', decide_eq_true (unhide HM)])
              refine (unhide HC).1.mono ?_
              rintro e' w2 ⟨rfl, rfl⟩
              go_wp2_with fail
              refine (unhide HC).2.1.mono ?_
              rintro e' w3 ⟨rfl, rfl⟩
              go_wp2_with fail
              refine ((unhide HC).2.2.1 _).mono ?_
              rintro e' wA ⟨rfl, hFA⟩
              have HA := hide ((unhide HC).2.2.2.2.2.2.trans hFA (fun _ _ h => h))
              clear hFA
              go_wp2_with fail
              obtain ⟨W2, hW2⟩ : ∃ W2, (wA.alloc (.cells #[.int .i64 wi, .int .i64 I, .int .i64 1, .slice lo LL lc, .slice xo PL xc] 67)).alloc (.cells #[.int .i64 0, .int .i64 N] 61) = W2 := ⟨_, rfl⟩
              rw [hW2]
              obtain ⟨⟨a0, a1, a2, a3, a4⟩, b0, b1, hF2⟩ := box52 wA _ _ _ _ _ _ _ _ _ W2 hW2
              refine ((unhide HC).2.2.2.1 _).mono ?_
              rintro e' wB ⟨rfl, hFB⟩
              have c0 := (hFB.cell (lt_of_cell a0) (fun h => h)).trans a0
              have c1 := (hFB.cell (lt_of_cell a1) (fun h => h)).trans a1
              have c2 := (hFB.cell (lt_of_cell a2) (fun h => h)).trans a2
              have c3 := (hFB.cell (lt_of_cell a3) (fun h => h)).trans a3
              have c4 := (hFB.cell (lt_of_cell a4) (fun h => h)).trans a4
              have d0 := (hFB.cell (lt_of_cell b0) (fun h => h)).trans b0
              have d1 := (hFB.cell (lt_of_cell b1) (fun h => h)).trans b1
              have HB := hide (((unhide HA).trans hF2 (fun _ _ h => h)).trans hFB (fun _ _ h => h))
              clear hF2 hFB hW2 a0 a1 a2 a3 a4 b0 b1 HA
              generalize wA.heap.size = P at *
              go_wp2_with fail
              refine ((unhide HC).2.2.2.2.1 _ (unhide HB)).mono ?_
              rintro e' wC ⟨uo, un, uc, rfl, hS, hFC⟩
              have HS := hide (And.intro hS ((unhide HB).trans hFC (fun _ _ h => h)))
              clear hS hFC
              go_wp2_with fail
              refine (beq_sl _ _ _ _ _ (unhide HS).1 ((unhide HC).2.2.2.2.2.1.fr0 (unhide HS).2)).mono ?_
              rintro e' wD ⟨rfl, rfl⟩
              rw [unhide HBB]
              go_wp2_with fail
              go_ret
              exact ⟨rfl, (unhide HS).2⟩
            · rw [decide_eq_false hD] at hft ⊢
              rw [Bool.false_and]
              have HC := hide (And.intro hwd1 (And.intro hwd2 (And.intro hoe (And.intro hft hF1))))
              clear hg hl hp hcx hn hps h1 h2 h3 hwd1 hwd2 hF1 hrch hIN hq1 hq2 hoe hft hD hpw hlw hr
              generalize leaf.length = LL at *
              generalize root.length = RL at *
              generalize ps.length = PL at *
              unfold sv cv at HC
              have e1 : ((1 : Nat) : Int) = 1 := rfl
              have e0 : ((0 : Nat) : Int) = 0 := rfl
              simp only [e1, e0] at HC
              clear e1 e0
              go_enter Tryd.func18, Tryd.ntmps18
              go_wp2_with (go_at_call 52; refine (maybe_any wi _).mono ?_; rintro e' w' ⟨rfl, hw'⟩; rw [hw', decide_eq_true (unhide HM)])
              refine (unhide HC).1.mono ?_
              rintro e' w2 ⟨rfl, rfl⟩
              go_wp2_with fail
              refine (unhide HC).2.1.mono ?_
              rintro e' w3 ⟨rfl, rfl⟩
              go_wp2_with fail
              refine ((unhide HC).2.2.1 _).mono ?_
              rintro e' wA ⟨rfl, hFA⟩
              have HA := hide ((unhide HC).2.2.2.2.trans hFA (fun _ _ h => h))
              clear hFA
              go_wp2_with fail
              refine ((unhide HC).2.2.2.1 _).mono ?_
              rintro e' wB ⟨rfl, hFB⟩
              have HB := hide ((unhide HA).trans ((((Fr.refl _ _).alloc _).alloc _).trans hFB (fun _ _ h => h)) (fun _ _ h => h))
              clear hFB
              go_wp2_with fail
              go_ret
              exact ⟨rfl, unhide HB⟩
end Go.Proofs.YtocdnomfpgdglabDoor

namespace Go.Proofs.YtocdnomfpgdglabDoor
open Go.RowKit

set_option maxRecDepth 100000 in
set_option maxHeartbeats 1000000 in
theorem hex_O (s : ByteArray) (w : World) (hs : s.size < 1048576) : Calls Tryd.prog 51 #[.string s] w fun e w' => ∃ yo yc, e = .returned (.slice yo (hxl (bytesOf s)).length yc) ∧ OB w w' yo yc (hxl (bytesOf s)) := by
  go_enter Tryd.func51, Tryd.ntmps51
  go_wp2_with fail
  go_loopw [3, 4] (fun x i wr => ∃ k j : Nat, j = 2 * k ∧ j ≤ s.size ∧ i = .int .i64 j ∧ wr.ownsRow w.heap.size 5 1 x k (cellsOf (hxk (bytesOf s) k)) ∧ Fr (fun _ => False) w wr) (fun _ i _ => s.size - (intOf i).toNat)
  case atStart => exact ⟨0, 0, rfl, Nat.zero_le _, rfl, own_nil w _, Fr.refl _ _⟩
  case round =>
    obtain ⟨k, j, hj, hjs, rfl, ho, hF⟩ := hrel
    rename World => wr
    rename_i x'
    by_cases hlt : j + 1 < s.size
    · have hlt1 : j < s.size := by omega
      have hlt2 : j < s.data.size := hlt1
      have hlt3 : j + 1 < s.data.size := hlt
      have a0 : s[j].toNat < 256 := s[j].toNat_lt
      have a1 : s[j + 1].toNat < 256 := s[j + 1].toNat_lt
      have e0 : (bytesOf s).getD (2 * k) 0 = s[j].toNat := by
        rw [← hj, List.getD, List.getElem?_eq_getElem (by rw [bytesOf_length]; exact hlt1)]; simp [bytesOf]; rfl
      have e1 : (bytesOf s).getD (2 * k + 1) 0 = s[j + 1].toNat := by
        rw [← hj, List.getD, List.getElem?_eq_getElem (by rw [bytesOf_length]; exact hlt)]; simp [bytesOf]; rfl
      have hv : hbl (bytesOf s) k = (dg s[j].toNat * 16 % 256) ||| dg s[j + 1].toNat := by rw [hbl, e0, e1]
      have hj2 : j + 2 ≤ s.size := by omega
      obtain ⟨xo, xcap, rfl⟩ := own_form ho
      have x0 : ∀ w0 : World, (Instr.index 9 (.string s) (.int .i64 (j : Int))).run Tryd.prog w0 = .ok (.int .u8 (s[j].toNat : Int)) w0 := fun w0 => by
        rw [run_index_string _ _ _ _ _ Tryd.underlying9, dif_pos ⟨by omega, by omega⟩]
        simp only [Int.toNat_natCast]
      have x1 : ∀ w0 : World, (Instr.index 9 (.string s) (.int .i64 ((j : Int) + 1))).run Tryd.prog w0 = .ok (.int .u8 (s[j + 1].toNat : Int)) w0 := fun w0 => by
        have e : (j : Int) + 1 = ((j + 1 : Nat) : Int) := by omega
        rw [e, run_index_string _ _ _ _ _ Tryd.underlying9, dif_pos ⟨by omega, by omega⟩]
        simp only [Int.toNat_natCast]
      generalize s[j].toNat = A at *
      generalize s[j + 1].toNat = B1 at *
      have i1 : (j : Int) + 1 < (s.size : Int) := by omega
      have r0 : IntKind.i64.wrap ((j : Int) + 1) = (j : Int) + 1 := by rw [IntKind.wrap_i64]; omega
      have j0 : (0 : Int) ≤ (j : Int) + 1 := by omega
      have d0 := dg_lt A a0
      have d1 := dg_lt B1 a1
      have hd0 := fun w0 => digit_any A w0 a0
      have hd1 := fun w0 => digit_any B1 w0 a1
      generalize dg A = DA at *
      generalize dg B1 = DB at *
      have p1 : IntKind.u8.wrap ((DA : Int) * 16) = ((DA * 16 % 256 : Nat) : Int) := by rw [IntKind.wrap_u8]; omega
      have p1' : (DA : Int) * 16 % 256 = ((DA * 16 % 256 : Nat) : Int) := by omega
      have p2 := u8_or_nat (DA * 16 % 256) DB (Nat.mod_lt _ (by decide)) d1
      have vlt : (DA * 16 % 256) ||| DB < 256 := Nat.or_lt_two_pow (n := 8) (Nat.mod_lt _ (by decide)) d1
      generalize DA * 16 % 256 = P at *
      generalize P ||| DB = V at *
      have ho2 : (wr.alloc (.cells #[.int .u8 (V : Int)] 5)).drew.ownsRow w.heap.size 5 1 (.slice xo k xcap) k (cellsOf (hxk (bytesOf s) k)) := ownsRow_of_block (w' := (wr.alloc (.cells #[.int .u8 (V : Int)] 5)).drew) ho (fun g hg => Below.heap_alloc _ _ _ (ho.lt g hg).2)
      have hsr : Src (wr.alloc (.cells #[.int .u8 (V : Int)] 5)).drew (.slice (some ⟨wr.heap.size, 0, none⟩) 1 1) [V] := (lit_src wr [V] #[.int .u8 (V : Int)] 1 1 rfl (by simp [cellsOf, B, Nat.mod_eq_of_lt vlt])).fr0 (Fr.refl _ _).drew
      obtain ⟨ao, c', w2, hr, hown, hgrow, hat⟩ := run_app_sl _ 23 w.heap.size k _ _ _ [V] ho2 hsr (by simp; omega) (by have := hF.size; simp; omega)
      have hF2 : Fr (fun _ => False) w w2 := ((hF.alloc _).drew).grown hgrow (fun g hg => .inr (ho.lt g hg).1)
      have hnew : w2.ownsRow w.heap.size 5 1 (.slice ao (k + 1) c') (k + 1) (cellsOf (hxk (bytesOf s) (k + 1))) := by
        rw [hxk_succ, hv, cellsOf_append]; exact hown
      have hj' : j + 2 = 2 * (k + 1) := by omega
      have HR := hide hr
      have HV := hide (And.intro hnew (And.intro hF2 hj'))
      clear hv hj ho hF e0 e1 hlt1 hlt2 hlt3 ho2 hsr hr hown hgrow hat hF2 hnew hj'
      go_wp2_with fail
      go_region_held3 (fun _ => True) (trivial) (first
        | (go_at_call 90; refine (hd0 _).mono ?_; rintro e w' ⟨rfl, rfl⟩; clear hd0)
        | (go_at_call 90; refine (hd1 _).mono ?_; rintro e w' ⟨rfl, rfl⟩)
        | (refine step_app rfl (.tmp 12) (.tmp 24) 23 23 rfl (.slice xo k xcap) (.slice (some ⟨wr.heap.size, 0, none⟩) 1 1) _ (by simp [Act.eval]) (by simp [Act.eval]) (unhide HR) ?_))
      all_goals
        go_wp2_with fail
        exact ⟨⟨k + 1, j + 2, (unhide HV).2.2, hj2, by go_num, (unhide HV).1, (unhide HV).2.1⟩, by simp [intOf]; omega⟩
    · have hlt' : ¬ (j : Int) + 1 < (s.size : Int) := by omega
      have e : hxl (bytesOf s) = hxk (bytesOf s) k := by rw [hxl, bytesOf_length]; congr 1; omega
      obtain ⟨xo, xcap, rfl⟩ := own_form ho
      have hO : OB w wr xo xcap (hxk (bytesOf s) k) := ⟨by rw [hxk_len]; exact ho, hF⟩
      have hl := hxk_len (bytesOf s) k
      rw [← e] at hO hl
      have HV := hide (And.intro hO hl)
      clear hO hF ho e hj hl
      go_wp2_with fail
      go_ret
      exact ⟨xo, xcap, by rw [(unhide HV).2]; rfl, (unhide HV).1⟩
/-- A literal of slices of bytes. -/
theorem pcs_lit {w : World} {vs : List Value} {ps : List (List Nat)} (hl : vs.length = ps.length) (hs : ∀ (j : Nat) v p, vs[j]? = some v → ps[j]? = some p → Sl w v p) (W : World) (hW : w.alloc (.cells vs.toArray 23) = W) (n : Nat) (hn : vs.length = n) : Pcs W (.slice (some ⟨w.heap.size, 0, none⟩) n n) vs ps ∧ Fr (fun _ => False) w W := by
  have hF1 : Fr (fun _ => False) w W := by rw [← hW]; exact (Fr.refl _ _).alloc _
  have hc : ∀ j, W.cell? ⟨w.heap.size, 0 + j, none⟩ = vs.toArray[j]? := fun j => by rw [Nat.zero_add, ← hW, World.cell?_alloc_at _ _ _ _ rfl]
  have hlt : w.heap.size < W.heap.size := by rw [← hW]; simp
  refine ⟨⟨hl, .inr (.inr ⟨w.heap.size, 0, n, by rw [hn], hlt, fun j v hv => ?_⟩), fun j v p hv hp => ?_, fun p hp => ?_⟩, hF1⟩
  · rw [hc j]; simpa using hv
  · have := (hs j v p hv hp).fr0 hF1
    exact ⟨this.s, this.cap, this.lt⟩
  · obtain ⟨j, hj, rfl⟩ := List.getElem_of_mem hp
    exact (hs j (vs[j]'(by omega)) ps[j] (List.getElem?_eq_getElem _) (List.getElem?_eq_getElem hj)).b
/-- The entries of the document's examples. -/
def tes : List (List Nat) := [[], [0], [16], [32, 33], [48, 49], [64, 65, 66, 67], [80, 81, 82, 83, 84, 85, 86, 87], [96, 97, 98, 99, 100, 101, 102, 103, 104, 105, 106, 107, 108, 109, 110, 111]]
theorem hex_lit (s : ByteArray) (l : List Nat) (w : World) (hs : s.size < 1048576) (hl : hxl (bytesOf s) = l) (n : Nat) (hn : l.length = n) (hb : ∀ v ∈ l, v < 256) : Calls Tryd.prog 51 #[.string s] w fun e w' => ∃ yo yc, e = .returned (.slice yo n yc) ∧ Sl w' (.slice yo n yc) l ∧ Fr (fun _ => False) w w' := by
  refine (hex_O s w hs).mono ?_
  rintro e w' ⟨yo, yc, rfl, hO⟩
  rw [hl] at hO ⊢
  have := hO.sl hb
  rw [hn] at this ⊢
  exact ⟨yo, yc, rfl, this, hO.fr⟩
theorem sl_nil (w : World) : Sl w (.slice none 0 0) [] := ⟨.inl ⟨rfl, rfl⟩, fun _ _ _ e => by cases e; exact Nat.le_refl _, .inl rfl, fun _ h => by cases h⟩
set_option maxRecDepth 100000 in
set_option maxHeartbeats 4000000 in
theorem tests_any (w : World) : Calls Tryd.prog 50 #[] w fun e w' => ∃ g vs, e = .returned (.slice (some ⟨g, 0, none⟩) 8 8) ∧ Pcs w' (.slice (some ⟨g, 0, none⟩) 8 8) vs tes ∧ Fr (fun _ => False) w w' := by
  go_enter Tryd.func50, Tryd.ntmps50
  go_wp2_with fail
  refine (hex_lit ⟨#[48, 48]⟩ [0] _ (by decide) (by decide) 1 rfl (by decide)).mono ?_
  rintro e w1 ⟨a1, c1, rfl, hS, hF⟩
  have S1 := hide hS
  have F1 := hide hF
  clear hS hF
  go_wp2_with fail
  refine (hex_lit ⟨#[49, 48]⟩ [16] _ (by decide) (by decide) 1 rfl (by decide)).mono ?_
  rintro e w2 ⟨a2, c2, rfl, hS, hF⟩
  have S1 := hide ((unhide S1).fr0 hF)
  have S2 := hide hS
  have F2 := hide ((unhide F1).trans hF (fun _ _ h => h))
  clear hS hF
  go_wp2_with fail
  refine (hex_lit ⟨#[50, 48, 50, 49]⟩ [32, 33] _ (by decide) (by decide) 2 rfl (by decide)).mono ?_
  rintro e w3 ⟨a3, c3, rfl, hS, hF⟩
  have S1 := hide ((unhide S1).fr0 hF)
  have S2 := hide ((unhide S2).fr0 hF)
  have S3 := hide hS
  have F3 := hide ((unhide F2).trans hF (fun _ _ h => h))
  clear hS hF
  go_wp2_with fail
  refine (hex_lit ⟨#[51, 48, 51, 49]⟩ [48, 49] _ (by decide) (by decide) 2 rfl (by decide)).mono ?_
  rintro e w4 ⟨a4, c4, rfl, hS, hF⟩
  have S1 := hide ((unhide S1).fr0 hF)
  have S2 := hide ((unhide S2).fr0 hF)
  have S3 := hide ((unhide S3).fr0 hF)
  have S4 := hide hS
  have F4 := hide ((unhide F3).trans hF (fun _ _ h => h))
  clear hS hF
  go_wp2_with fail
  refine (hex_lit ⟨#[52, 48, 52, 49, 52, 50, 52, 51]⟩ [64, 65, 66, 67] _ (by decide) (by decide) 4 rfl (by decide)).mono ?_
  rintro e w5 ⟨a5, c5, rfl, hS, hF⟩
  have S1 := hide ((unhide S1).fr0 hF)
  have S2 := hide ((unhide S2).fr0 hF)
  have S3 := hide ((unhide S3).fr0 hF)
  have S4 := hide ((unhide S4).fr0 hF)
  have S5 := hide hS
  have F5 := hide ((unhide F4).trans hF (fun _ _ h => h))
  clear hS hF
  go_wp2_with fail
  refine (hex_lit ⟨#[53, 48, 53, 49, 53, 50, 53, 51, 53, 52, 53, 53, 53, 54, 53, 55]⟩ [80, 81, 82, 83, 84, 85, 86, 87] _ (by decide) (by decide) 8 rfl (by decide)).mono ?_
  rintro e w6 ⟨a6, c6, rfl, hS, hF⟩
  have S1 := hide ((unhide S1).fr0 hF)
  have S2 := hide ((unhide S2).fr0 hF)
  have S3 := hide ((unhide S3).fr0 hF)
  have S4 := hide ((unhide S4).fr0 hF)
  have S5 := hide ((unhide S5).fr0 hF)
  have S6 := hide hS
  have F6 := hide ((unhide F5).trans hF (fun _ _ h => h))
  clear hS hF
  go_wp2_with fail
  refine (hex_lit ⟨#[54, 48, 54, 49, 54, 50, 54, 51, 54, 52, 54, 53, 54, 54, 54, 55, 54, 56, 54, 57, 54, 97, 54, 98, 54, 99, 54, 100, 54, 101, 54, 102]⟩ [96, 97, 98, 99, 100, 101, 102, 103, 104, 105, 106, 107, 108, 109, 110, 111] _ (by decide) (by decide) 16 rfl (by decide)).mono ?_
  rintro e w7 ⟨a7, c7, rfl, hS, hF⟩
  have S1 := hide ((unhide S1).fr0 hF)
  have S2 := hide ((unhide S2).fr0 hF)
  have S3 := hide ((unhide S3).fr0 hF)
  have S4 := hide ((unhide S4).fr0 hF)
  have S5 := hide ((unhide S5).fr0 hF)
  have S6 := hide ((unhide S6).fr0 hF)
  have S7 := hide hS
  have F7 := hide ((unhide F6).trans hF (fun _ _ h => h))
  clear hS hF
  go_wp2_with fail
  go_ret
  obtain ⟨hP, hF⟩ := pcs_lit (w := w7) (vs := [.slice none 0 0, .slice a1 1 c1, .slice a2 1 c2, .slice a3 2 c3, .slice a4 2 c4, .slice a5 4 c5, .slice a6 8 c6, .slice a7 16 c7]) (ps := tes) rfl (fun j v p hv hp => by
    match j with
    | 0 => simp [tes] at hv hp; subst hv hp; exact sl_nil _
    | 1 => simp [tes] at hv hp; subst hv hp; exact unhide S1
    | 2 => simp [tes] at hv hp; subst hv hp; exact unhide S2
    | 3 => simp [tes] at hv hp; subst hv hp; exact unhide S3
    | 4 => simp [tes] at hv hp; subst hv hp; exact unhide S4
    | 5 => simp [tes] at hv hp; subst hv hp; exact unhide S5
    | 6 => simp [tes] at hv hp; subst hv hp; exact unhide S6
    | 7 => simp [tes] at hv hp; subst hv hp; exact unhide S7
    | j + 8 => simp at hv) _ rfl 8 rfl
  exact ⟨_, _, rfl, hP, (unhide F7).trans hF (fun _ _ h => h)⟩
end Go.Proofs.YtocdnomfpgdglabDoor

namespace Go.Proofs.YtocdnomfpgdglabDoor
open Go.RowKit

/-- SUB. -/
def subF (wi : Nat) (ls : List (List Nat)) (m : Nat) (b : Bool) : List (List Nat) :=
  if _h : m = ls.length ∨ ls.length < 2 then (if b then [] else [mth wi ls])
  else if m ≤ hf ls.length then subF wi (ls.take (hf ls.length)) m b ++ [mth wi (ls.drop (hf ls.length))]
  else subF wi (ls.drop (hf ls.length)) (m - hf ls.length) false ++ [mth wi (ls.take (hf ls.length))]
termination_by ls.length
decreasing_by
  · rw [List.length_take]; have := hf_lt ls.length (by omega); omega
  · rw [List.length_drop]; have := hf_pos ls.length; omega
theorem subF_eq {wi : Nat} {ls : List (List Nat)} {m : Nat} {b : Bool} (h : m = ls.length) : subF wi ls m b = if b then [] else [mth wi ls] := by rw [subF, dif_pos (.inl h)]
theorem subF_l {wi : Nat} {ls : List (List Nat)} {m : Nat} {b : Bool} (h : 2 ≤ ls.length) (hne : ¬ m = ls.length) (hi : m ≤ hf ls.length) : subF wi ls m b = subF wi (ls.take (hf ls.length)) m b ++ [mth wi (ls.drop (hf ls.length))] := by
  conv => lhs; rw [subF, dif_neg (by omega), if_pos hi]
theorem subF_r {wi : Nat} {ls : List (List Nat)} {m : Nat} {b : Bool} (h : 2 ≤ ls.length) (hne : ¬ m = ls.length) (hi : ¬ m ≤ hf ls.length) : subF wi ls m b = subF wi (ls.drop (hf ls.length)) (m - hf ls.length) false ++ [mth wi (ls.take (hf ls.length))] := by
  conv => lhs; rw [subF, dif_neg (by omega), if_neg hi]
theorem subF_le (wi : Nat) (k : Nat) : ∀ (ls : List (List Nat)) (m : Nat) (b : Bool), ls.length ≤ k → (subF wi ls m b).length ≤ ls.length + 1 := by
  induction k with
  | zero => intro ls m b h; rw [subF, dif_pos (by omega)]; split <;> simp
  | succ k ih =>
    intro ls m b h
    by_cases h2 : m = ls.length ∨ ls.length < 2
    · rw [subF, dif_pos h2]; split <;> simp
    · have h3 := hf_lt ls.length (by omega)
      have h4 := hf_pos ls.length
      by_cases hi : m ≤ hf ls.length
      · rw [subF_l (by omega) (by omega) hi, List.length_append]
        have := ih (ls.take (hf ls.length)) m b (by rw [List.length_take]; omega)
        rw [List.length_take] at this
        simp; omega
      · rw [subF_r (by omega) (by omega) hi, List.length_append]
        have := ih (ls.drop (hf ls.length)) (m - hf ls.length) false (by rw [List.length_drop]; omega)
        rw [List.length_drop] at this
        simp; omega
/-- SUB by the part where it ends. -/
theorem sub_bes (wi : Nat) (L : List (List Nat)) (k : Nat) : ∀ f n m, n ≤ k → f + n ≤ L.length → 0 < m → m ≤ n →
    subF wi (blk L f n) m true = (if (endF f n (f + m)).1 = f then bes wi L f n (endF f n (f + m)).1 (endF f n (f + m)).2 else mth wi (blk L (endF f n (f + m)).1 (endF f n (f + m)).2) :: bes wi L f n (endF f n (f + m)).1 (endF f n (f + m)).2) ∧
    subF wi (blk L f n) m false = mth wi (blk L (endF f n (f + m)).1 (endF f n (f + m)).2) :: bes wi L f n (endF f n (f + m)).1 (endF f n (f + m)).2 := by
  induction k with
  | zero => intro f n m h1 _ h2 h3; omega
  | succ k ih =>
    intro f n m h1 hL h2 h3
    have hlen := blk_len L f n hL
    by_cases e : m = n
    · subst e
      rw [endF_eq rfl, subF_eq hlen.symm, subF_eq hlen.symm, if_pos rfl, bes_eq]
      exact ⟨by rw [if_pos rfl], by simp⟩
    · have hlt := hf_lt n (by omega)
      have hp := hf_pos n
      by_cases hl : m ≤ hf n
      · obtain ⟨i1, i2⟩ := ih f (hf n) m (by omega) (by omega) h2 hl
        obtain ⟨o1, o2, o3, o4, o5⟩ := endF_ok (hf n) f (hf n) (f + m) (Nat.le_refl _) (by omega) (by omega)
        have e1 : ∀ b, subF wi (blk L f n) m b = subF wi (blk L f (hf n)) m b ++ [mth wi (blk L (f + hf n) (n - hf n))] := fun b => by
          rw [subF_l (by omega) (by omega) (by rw [hlen]; exact hl), hlen, blk_take _ _ _ _ (by omega), blk_drop]
        have e2 : endF f n (f + m) = endF f (hf n) (f + m) := endF_l (by omega) (by omega) (by omega)
        rw [e1 true, e1 false, i1, i2, e2]
        generalize endF f (hf n) (f + m) = E at *
        have e3 : bes wi L f n E.1 E.2 = bes wi L f (hf n) E.1 E.2 ++ [mth wi (blk L (f + hf n) (n - hf n))] := bes_l (by omega) (by omega) (by omega)
        rw [e3]
        refine ⟨?_, by simp⟩
        split
        · rfl
        · simp
      · obtain ⟨i1, i2⟩ := ih (f + hf n) (n - hf n) (m - hf n) (by omega) (by omega) (by omega) (by omega)
        have ee : f + hf n + (m - hf n) = f + m := by omega
        rw [ee] at i1 i2
        obtain ⟨o1, o2, o3, o4, o5⟩ := endF_ok (n - hf n) (f + hf n) (n - hf n) (f + m) (Nat.le_refl _) (by omega) (by omega)
        have e1 : ∀ b, subF wi (blk L f n) m b = subF wi (blk L (f + hf n) (n - hf n)) (m - hf n) false ++ [mth wi (blk L f (hf n))] := fun b => by
          rw [subF_r (by omega) (by omega) (by rw [hlen]; exact hl), hlen, blk_take _ _ _ _ (by omega), blk_drop]
        have e2 : endF f n (f + m) = endF (f + hf n) (n - hf n) (f + m) := endF_r (by omega) (by omega) (by omega)
        rw [e1 true, e1 false, i2, e2]
        generalize endF (f + hf n) (n - hf n) (f + m) = E at *
        have e3 : bes wi L f n E.1 E.2 = bes wi L (f + hf n) (n - hf n) E.1 E.2 ++ [mth wi (blk L f (hf n))] := bes_r (by omega) (by omega) (by omega)
        rw [e3, if_neg (by omega)]
        exact ⟨by simp, by simp⟩
theorem prf_sub (wi : Nat) (L : List (List Nat)) (m : Nat) (hm : m ≤ L.length) : prf wi L L.length m = if m = 0 ∨ m = L.length then [] else subF wi L m true := by
  rw [prf]
  by_cases h0 : m = 0
  · rw [if_pos h0, if_pos (.inl h0)]
  · rw [if_neg h0]
    by_cases h1 : m = L.length
    · have e1 : (if m = 0 ∨ m = L.length then ([] : List (List Nat)) else subF wi L m true) = [] := if_pos (.inr h1)
      rw [e1, endF_eq (by omega), if_pos rfl, bes_eq]
    · have e1 : (if m = 0 ∨ m = L.length then ([] : List (List Nat)) else subF wi L m true) = subF wi L m true := if_neg (by omega)
      have := (sub_bes wi L L.length 0 L.length m (Nat.le_refl _) (by omega) (by omega) hm).1
      rw [blk_all, Nat.zero_add] at this
      rw [e1]
      exact this.symm
def SubSays (wi : Nat) (ls : List (List Nat)) (I : Nat) (b : Bool) (x : Value) (w : World) : Prop :=
  Calls Tryd.prog 118 #[.int .i64 wi, .int .i64 I, x, .bool b] w fun e w' => ∃ yo yc us, e = .returned (.slice yo (subF wi ls I b).length yc) ∧ Pcs w' (.slice yo (subF wi ls I b).length yc) us (subF wi ls I b) ∧ Fr (fun _ => False) w w'
theorem pcs_nil (w : World) : Pcs w (.slice none 0 0) [] [] := ⟨rfl, .inl ⟨rfl, rfl⟩, (fun j v p h => by simp at h), (fun p h => by cases h)⟩
set_option maxRecDepth 100000 in
set_option maxHeartbeats 1000000 in
theorem gsub_end (wi : Nat) (ps : List (List Nat)) (b : Bool) (x : Value) (vs : List Value) (w : World) (hr : GR w) (hp : Pcs w x vs ps) (hcx : Cp x) (hn : ps.length ≤ 8000000) (hB : ∀ p ∈ ps, p.length ≤ 4000000) : SubSays wi ps ps.length b x w := by
  have hof := of_any wi _ ps x vs w (Nat.le_refl _) hn hr hp hcx hB
  unfold SubSays
  unfold OfSays at hof
  rw [subF_eq rfl]
  obtain ⟨xo, xc, rfl⟩ := hp.form
  generalize mth wi ps = M at *
  have HC := hide hof
  clear hof hp hcx hn hB hr
  generalize ps.length = N at *
  have q1 : ((N : Int) == (N : Int)) = true := by simp
  cases b
  · go_enter Tryd.func118, Tryd.ntmps118
    go_wp2_with fail
    refine (unhide HC).mono ?_
    rintro e w1 ⟨yo, yc, rfl, hS, hF⟩
    obtain ⟨W, hW⟩ : ∃ W, w1.alloc (.cells #[.slice yo M.length yc] 23) = W := ⟨_, rfl⟩
    obtain ⟨hP, hF2⟩ := pcs_lit (w := w1) (vs := [.slice yo M.length yc]) (ps := [M]) rfl (fun j v p hv hp => by
      match j with
      | 0 => simp at hv hp; subst hv hp; exact hS
      | j + 1 => simp at hv) W hW 1 rfl
    have H1 := hide (And.intro hP (hF.trans hF2 (fun _ _ h => h)))
    clear hP hF hF2 hS
    generalize M.length = ML at *
    go_wp2_with fail
    go_ret
    first | exact ⟨_, 1, _, rfl, (unhide H1).1, (unhide H1).2⟩ | exact ⟨_, 1, rfl, ⟨_, (unhide H1).1⟩, (unhide H1).2⟩
  · go_enter Tryd.func118, Tryd.ntmps118
    go_wp2_with fail
    go_ret
    first | exact ⟨none, 0, [], rfl, pcs_nil _, Fr.refl _ _⟩ | exact ⟨none, 0, rfl, ⟨[], pcs_nil _⟩, Fr.refl _ _⟩ | exact ⟨none, 0, rfl, [], pcs_nil _, Fr.refl _ _⟩
set_option maxRecDepth 100000 in
set_option maxHeartbeats 1000000 in
/-- The ref's sub. -/
theorem gsub_any (wi : Nat) (n : Nat) : ∀ (ps : List (List Nat)) (I : Nat) (b : Bool) (x : Value) (vs : List Value) (w : World), ps.length ≤ n → ps.length ≤ 8000000 - 1 → 0 < I → I ≤ ps.length → GR w → Pcs w x vs ps → Cp x → (∀ p ∈ ps, p.length ≤ 4000000) → SubSays wi ps I b x w := by
  induction n with
  | zero => intro ps I b x vs w hl _ h0 hI; omega
  | succ n ih =>
    intro ps I b x vs w hl hl8 h0 hIl hr hp hcx hB
    by_cases hne : I = ps.length
    · subst hne
      exact gsub_end wi ps b x vs w hr hp hcx (by omega) hB
    · obtain ⟨xo, xc, rfl⟩ := hp.form
      obtain ⟨g, o, v, rfl, -⟩ := hp.cell (Fr.refl _ _) 0 (by omega)
      have hk1 := hf_lt ps.length (by omega)
      have hk2 := hf_pos ps.length
      have hle : vs.length = ps.length := hp.len
      have hcapx : ps.length ≤ xc := hcx _ _ _ rfl
      have cp1 : Cp (.slice (some ⟨g, o, none⟩) (hf ps.length) xc) := fun _ _ _ e => by cases e; omega
      have cp2 : Cp (.slice (some ⟨g, o + hf ps.length, none⟩) (ps.length - hf ps.length) (xc - hf ps.length)) := fun _ _ _ e => by cases e; omega
      have hP1 := hp.take (hf ps.length) (by omega)
      have hP2 := hp.drop (hf ps.length) hk1
      have hB1 : ∀ p ∈ ps.take (hf ps.length), p.length ≤ 4000000 := fun p h => hB p (List.mem_of_mem_take h)
      have hB2 : ∀ p ∈ ps.drop (hf ps.length), p.length ≤ 4000000 := fun p h => hB p (List.mem_of_mem_drop h)
      have hl1 : (ps.take (hf ps.length)).length = hf ps.length := by rw [List.length_take]; omega
      have hl2 : (ps.drop (hf ps.length)).length = ps.length - hf ps.length := by rw [List.length_drop]
      have hha := half_any ps.length w (by omega) (by omega)
      by_cases hI : I ≤ hf ps.length
      · have hmt := subF_l (wi := wi) (ls := ps) (m := I) (b := b) (by omega) hne hI
        have c1 : ∀ w', Fr (fun _ => False) w w' → SubSays wi (ps.take (hf ps.length)) I b (.slice (some ⟨g, o, none⟩) (hf ps.length) xc) w' := fun w' hfr => ih _ _ _ _ _ w' (by omega) (by omega) (by omega) (by omega) (hr.fr0 hfr) (hP1.fr0 hfr) cp1 hB1
        have c2 : ∀ w', Fr (fun _ => False) w w' → OfSays wi (ps.drop (hf ps.length)) (.slice (some ⟨g, o + hf ps.length, none⟩) (ps.length - hf ps.length) (xc - hf ps.length)) w' := fun w' hfr => of_any wi _ _ _ _ w' (Nat.le_refl _) (by omega) (hr.fr0 hfr) (hP2.fr0 hfr) cp2 hB2
        have hplen : (subF wi (ps.take (hf ps.length)) I b).length ≤ 8000000 := Nat.le_trans (subF_le wi _ _ _ _ (Nat.le_refl _)) (by omega)
        unfold SubSays at c1 ⊢
        unfold OfSays at c2
        rw [hmt]
        generalize subF wi (ps.take (hf ps.length)) I b = P1 at *
        generalize mth wi (ps.drop (hf ps.length)) = M2 at *
        have hwith : ∀ (x y : Value) us w', Pcs w' x us P1 → Sl w' y M2 → _ := fun x y us w' h1 h2 => with_any x y us P1 M2 w' h1 h2 hplen
        have HG := hide (And.intro c1 (And.intro c2 (And.intro hwith hha)))
        clear hr hP1 hP2 c1 c2 hha hmt hB hB1 hB2 hp hl1 hl2 ih cp1 cp2 hcx hwith hplen
        generalize hK : hf ps.length = K at *
        have q1 : (K : Int) ≤ (ps.length : Int) := by omega
        have q2 : (K : Int) ≤ (xc : Int) := by omega
        have q3 : ¬ (I : Int) = (ps.length : Int) := by omega
        have q3b : ((I : Int) == (ps.length : Int)) = false := beq_false_of_ne q3
        have q4 : ¬ ps.length < 2 := by omega
        have q7 : (I : Int) ≤ (K : Int) := by omega
        have q8 : IntKind.i64.wrap ((I : Int) - (K : Int)) = ((I - K : Nat) : Int) ∨ True := .inr trivial
        clear q8 hK
        generalize ps.length = N at *
        go_enter Tryd.func118, Tryd.ntmps118
        go_wp2_with fail
        refine (unhide HG).2.2.2.mono ?_
        rintro e w0 ⟨rfl, rfl⟩
        go_wp2_with fail
        have q5 : ¬ xc = K := by omega
        have q6 : ¬ K = xc := by omega
        go_region_held3 (fun _ => True) (trivial) (first
          | (go_at_call 118; refine ((unhide HG).1 _ ((Fr.refl _ _).drew)).mono ?_; rintro e wA ⟨yA, cA, uA, rfl, sA, fA⟩)
          | (go_at_call 41; refine ((unhide HG).2.1 _ (((Fr.refl _ _).drew).trans fA (fun _ _ h => h))).mono ?_; rintro e wB ⟨yB, cB, rfl, sB, fB⟩)
          | (go_at_call 117; refine ((unhide HG).2.2.1 _ _ _ wB (sA.fr0 fB) sB).mono ?_; rintro e wC ⟨zo, zc, rfl, oC, fC⟩))
        have hFC : Fr (fun _ => False) w0 wC := ((((Fr.refl (fun _ => False) w0).drew).trans fA (fun _ _ h => h)).trans fB (fun _ _ h => h)).trans fC (fun _ _ h => h)
        have HE := hide (And.intro oC hFC)
        clear hFC oC
        go_wp2_with fail
        go_ret
        exact ⟨zo, zc, _, by rw [List.length_append]; rfl, by rw [List.length_append]; exact (unhide HE).1, (unhide HE).2⟩
      · have hmt := subF_r (wi := wi) (ls := ps) (m := I) (b := b) (by omega) hne hI
        have c1 : ∀ w', Fr (fun _ => False) w w' → SubSays wi (ps.drop (hf ps.length)) (I - hf ps.length) false (.slice (some ⟨g, o + hf ps.length, none⟩) (ps.length - hf ps.length) (xc - hf ps.length)) w' := fun w' hfr => ih _ _ _ _ _ w' (by omega) (by omega) (by omega) (by omega) (hr.fr0 hfr) (hP2.fr0 hfr) cp2 hB2
        have c2 : ∀ w', Fr (fun _ => False) w w' → OfSays wi (ps.take (hf ps.length)) (.slice (some ⟨g, o, none⟩) (hf ps.length) xc) w' := fun w' hfr => of_any wi _ _ _ _ w' (Nat.le_refl _) (by omega) (hr.fr0 hfr) (hP1.fr0 hfr) cp1 hB1
        have hplen : (subF wi (ps.drop (hf ps.length)) (I - hf ps.length) false).length ≤ 8000000 := Nat.le_trans (subF_le wi _ _ _ _ (Nat.le_refl _)) (by omega)
        unfold SubSays at c1 ⊢
        unfold OfSays at c2
        rw [hmt]
        generalize subF wi (ps.drop (hf ps.length)) (I - hf ps.length) false = P1 at *
        generalize mth wi (ps.take (hf ps.length)) = M2 at *
        have hwith : ∀ (x y : Value) us w', Pcs w' x us P1 → Sl w' y M2 → _ := fun x y us w' h1 h2 => with_any x y us P1 M2 w' h1 h2 hplen
        have HG := hide (And.intro c1 (And.intro c2 (And.intro hwith hha)))
        clear hr hP1 hP2 c1 c2 hha hmt hB hB1 hB2 hp hl1 hl2 ih cp1 cp2 hcx hwith hplen
        generalize hK : hf ps.length = K at *
        have q1 : (K : Int) ≤ (ps.length : Int) := by omega
        have q2 : (K : Int) ≤ (xc : Int) := by omega
        have q3 : ¬ (I : Int) = (ps.length : Int) := by omega
        have q3b : ((I : Int) == (ps.length : Int)) = false := beq_false_of_ne q3
        have q4 : ¬ ps.length < 2 := by omega
        have q7 : ¬ (I : Int) ≤ (K : Int) := by omega
        have q8 : IntKind.i64.wrap ((I : Int) - (K : Int)) = ((I - K : Nat) : Int) ∨ True := .inr trivial
        have q9 : IntKind.i64.wrap ((I : Int) - (K : Int)) = (I : Int) - (K : Int) := by rw [IntKind.wrap_i64]; omega
        have q10 : ((I - K : Nat) : Int) = (I : Int) - (K : Int) := by omega
        rw [q10] at HG
        clear q8 hK q10
        generalize ps.length = N at *
        go_enter Tryd.func118, Tryd.ntmps118
        go_wp2_with fail
        refine (unhide HG).2.2.2.mono ?_
        rintro e w0 ⟨rfl, rfl⟩
        go_wp2_with fail
        have q5 : ¬ xc = K := by omega
        have q6 : ¬ K = xc := by omega
        go_region_held3 (fun _ => True) (trivial) (first
          | (go_at_call 118; refine ((unhide HG).1 _ ((Fr.refl _ _).drew)).mono ?_; rintro e wA ⟨yA, cA, uA, rfl, sA, fA⟩)
          | (go_at_call 41; refine ((unhide HG).2.1 _ (((Fr.refl _ _).drew).trans fA (fun _ _ h => h))).mono ?_; rintro e wB ⟨yB, cB, rfl, sB, fB⟩)
          | (go_at_call 117; refine ((unhide HG).2.2.1 _ _ _ wB (sA.fr0 fB) sB).mono ?_; rintro e wC ⟨zo, zc, rfl, oC, fC⟩))
        have hFC : Fr (fun _ => False) w0 wC := ((((Fr.refl (fun _ => False) w0).drew).trans fA (fun _ _ h => h)).trans fB (fun _ _ h => h)).trans fC (fun _ _ h => h)
        have HE := hide (And.intro oC hFC)
        clear hFC oC
        go_wp2_with fail
        go_ret
        exact ⟨zo, zc, _, by rw [List.length_append]; rfl, by rw [List.length_append]; exact (unhide HE).1, (unhide HE).2⟩
end Go.Proofs.YtocdnomfpgdglabDoor

namespace Go.Proofs.YtocdnomfpgdglabDoor
open Go.RowKit

set_option maxRecDepth 100000 in
set_option maxHeartbeats 1000000 in
/-- The ref's ProofOf. -/
theorem gproofOf_any (wi : Nat) (ps : List (List Nat)) (m : Nat) (x : Value) (vs : List Value) (w : World) (hr : GR w) (hp : Pcs w x vs ps) (hcx : Cp x) (hn : ps.length ≤ 4000000) (hB : ∀ p ∈ ps, p.length ≤ 4000000) (hm : m ≤ ps.length) :
    Calls Tryd.prog 105 #[.int .i64 wi, x, .int .i64 m] w fun e w' => ∃ yo yc us, e = .returned (.slice yo (prf wi ps ps.length m).length yc) ∧ Pcs w' (.slice yo (prf wi ps ps.length m).length yc) us (prf wi ps ps.length m) ∧ Fr (fun _ => False) w w' := by
  rw [prf_sub wi ps m hm]
  by_cases h0 : m = 0 ∨ m = ps.length
  · rw [if_pos h0]
    obtain ⟨xo, xc, rfl⟩ := hp.form
    clear hp hcx hn hB hm hr
    rcases h0 with h0 | h0
    · subst h0
      generalize ps.length = N at *
      have e0 : ((0 : Nat) : Int) = 0 := rfl
      simp only [e0]
      go_enter Tryd.func105, Tryd.ntmps105
      go_wp2_with fail
      go_ret
      first | exact ⟨none, 0, [], rfl, pcs_nil _, Fr.refl _ _⟩ | exact ⟨none, 0, rfl, ⟨[], pcs_nil _⟩, Fr.refl _ _⟩
    · subst h0
      generalize ps.length = N at *
      by_cases hN : N = 0
      · subst hN
        have e0 : ((0 : Nat) : Int) = 0 := rfl
        simp only [e0]
        go_enter Tryd.func105, Tryd.ntmps105
        go_wp2_with fail
        go_ret
        first | exact ⟨none, 0, [], rfl, pcs_nil _, Fr.refl _ _⟩ | exact ⟨none, 0, rfl, ⟨[], pcs_nil _⟩, Fr.refl _ _⟩
      · have q0 : ((N : Int) == 0) = false := beq_false_of_ne (by omega)
        go_enter Tryd.func105, Tryd.ntmps105
        go_wp2_with fail
        go_ret
        first | exact ⟨none, 0, [], rfl, pcs_nil _, Fr.refl _ _⟩ | exact ⟨none, 0, rfl, ⟨[], pcs_nil _⟩, Fr.refl _ _⟩
  · rw [if_neg h0]
    have hs := gsub_any wi _ ps m true x vs w (Nat.le_refl _) (by omega) (by omega) hm hr hp hcx hB
    unfold SubSays at hs
    obtain ⟨xo, xc, rfl⟩ := hp.form
    generalize subF wi ps m true = SB at *
    have HC := hide hs
    have q0 : ((m : Int) == 0) = false := beq_false_of_ne (by omega)
    have q1 : ((m : Int) == (ps.length : Int)) = false := beq_false_of_ne (by omega)
    have q2 : ¬ m = 0 := by omega
    have q3 : ¬ (m : Int) = (ps.length : Int) := by omega
    clear hs hp hcx hn hB hm hr h0
    generalize ps.length = N at *
    go_enter Tryd.func105, Tryd.ntmps105
    go_wp2_with fail
    refine (unhide HC).mono ?_
    rintro e w1 ⟨yo, yc, us, rfl, hP, hF⟩
    have H1 := hide (And.intro hP hF)
    clear hP hF
    go_wp2_with fail
    go_ret
    first | exact ⟨yo, yc, us, rfl, (unhide H1).1, (unhide H1).2⟩ | exact ⟨yo, yc, rfl, ⟨us, (unhide H1).1⟩, (unhide H1).2⟩
/-- The leaves of a tree, as the ref has them. -/
theorem gleaves_C (i : Int) (x : Value) (vs : List Value) (es : List (List Nat)) (w : World) (hr : GR w) (hp : Pcs w x vs es) (hB : ∀ e ∈ es, e.length ≤ 4000000) (hn : es.length ≤ 8000000) :
    Calls Tryd.prog 39 #[.int .i64 i, x] w fun e' w' => ∃ ao cp us, e' = .returned (.slice ao es.length cp) ∧ Pcs w' (.slice ao es.length cp) us (es.map (lf i)) ∧ Fr (fun _ => False) w w' ∧ Cp (.slice ao es.length cp) := by
  refine (gleaves_any i x vs es w hr hp hB hn).mono ?_
  rintro e w' ⟨ao, cp, us, rfl, h1, h2, h3⟩
  exact ⟨ao, cp, us, rfl, h1, h2, fun _ _ _ e => by cases e; exact h3⟩
set_option maxRecDepth 100000 in
set_option maxHeartbeats 1000000 in
theorem gpath_in (wi : Nat) (hw1 : 1 ≤ wi) (hw32 : wi ≤ 32) (x : Value) (vs : List Value) (es : List (List Nat)) (m : Nat) (w : World) (hr : GR w) (hp : Pcs w x vs es) (hB : ∀ e ∈ es, e.length ≤ 4000000) (hn : es.length ≤ 4000000) (hm : m < es.length) :
    Calls Tryd.prog 69 #[.int .i64 wi, x, .int .i64 m] w fun e w' => ∃ yo yc us, e = .returned (.tuple #[.slice yo (pth wi (es.map (lf wi)) m).length yc, .int .i64 0]) ∧ Pcs w' (.slice yo (pth wi (es.map (lf wi)) m).length yc) us (pth wi (es.map (lf wi)) m) ∧ Fr (fun _ => False) w w' := by
  have hlv := gleaves_C wi x vs es w hr hp hB (by omega)
  have hll : (es.map (lf (wi : Int))).length = es.length := List.length_map _
  have hin : ∀ w' (x : Value) us, GR w' → Pcs w' x us (es.map (lf wi)) → Cp x → PathSays wi (es.map (lf wi)) m x w' := fun w' x us h1 h2 h3 => gpath_any wi _ (es.map (lf wi)) m x us w' (Nat.le_refl _) (by omega) (by omega) h1 h2 h3 (fun p hp => by have := map_lf_len wi hw1 hw32 es p hp; omega)
  unfold PathSays at hin
  generalize pth wi (es.map (lf wi)) m = V at *
  obtain ⟨xo, xc, rfl⟩ := hp.form
  have HC := hide (And.intro hlv (And.intro hin hr))
  have hj : 1 ≤ (wi : Int) ∧ (wi : Int) ≤ 32 := by omega
  have HJ := hide hj
  have q1 : ¬ (m : Int) < 0 := by omega
  have q2 : ¬ (es.length : Int) ≤ (m : Int) := by omega
  have q3 : ¬ es.length ≤ m := by omega
  clear hlv hin hr hp hB hn hm hj
  generalize es.length = N at *
  go_enter Tryd.func69, Tryd.ntmps69
  go_wp2_with fail
  refine (may_yes wi _ (unhide HJ).1 (unhide HJ).2).mono ?_
  rintro e w0 ⟨rfl, rfl⟩
  go_wp2_with fail
  refine (unhide HC).1.mono ?_
  rintro e w1 ⟨ao, cp, us, rfl, hP, hF, hC⟩
  have H1 := hide (And.intro hP (And.intro hF hC))
  clear hP hF hC
  go_wp2_with fail
  refine ((unhide HC).2.1 w1 _ us ((unhide HC).2.2.fr0 (unhide H1).2.1) (unhide H1).1 (unhide H1).2.2).mono ?_
  rintro e w2 ⟨yo, yc, us2, rfl, hP, hF⟩
  have H2 := hide (And.intro hP ((unhide H1).2.1.trans hF (fun _ _ h => h)))
  clear hP hF
  go_wp2_with fail
  go_returns
  first | exact ⟨yo, yc, us2, rfl, (unhide H2).1, (unhide H2).2⟩ | exact ⟨yo, yc, rfl, ⟨us2, (unhide H2).1⟩, (unhide H2).2⟩
set_option maxRecDepth 100000 in
set_option maxHeartbeats 1000000 in
theorem gpath_no (j i : Int) (x : Value) (vs : List Value) (es : List (List Nat)) (w : World) (hp : Pcs w x vs es) (h : (j < 1 ∨ 32 < j) ∨ i < 0 ∨ (es.length : Int) ≤ i) :
    Calls Tryd.prog 69 #[.int .i64 j, x, .int .i64 i] w fun e w' => e = .returned (.tuple #[.slice none 0 0, .int .i64 1]) ∧ w' = w := by
  obtain ⟨xo, xc, rfl⟩ := hp.form
  clear hp
  generalize es.length = N at *
  by_cases hj : j < 1 ∨ 32 < j
  · clear h
    go_enter Tryd.func69, Tryd.ntmps69
    go_wp2_with fail
    refine (may_no j _ hj).mono ?_
    rintro e w0 ⟨rfl, rfl⟩
    go_wp2_with fail
    go_returns
    exact ⟨rfl, rfl⟩
  · have HJ := hide (show 1 ≤ j ∧ j ≤ 32 by omega)
    by_cases hi : i < 0
    · clear h hj
      go_enter Tryd.func69, Tryd.ntmps69
      go_wp2_with fail
      refine (may_yes j _ (unhide HJ).1 (unhide HJ).2).mono ?_
      rintro e w0 ⟨rfl, rfl⟩
      go_wp2_with fail
      go_returns
      exact ⟨rfl, rfl⟩
    · have hk : (N : Int) ≤ i := by omega
      clear h hj
      go_enter Tryd.func69, Tryd.ntmps69
      go_wp2_with fail
      refine (may_yes j _ (unhide HJ).1 (unhide HJ).2).mono ?_
      rintro e w0 ⟨rfl, rfl⟩
      go_wp2_with fail
      go_returns
      exact ⟨rfl, rfl⟩
set_option maxRecDepth 100000 in
set_option maxHeartbeats 1000000 in
theorem gproof_in (wi : Nat) (hw1 : 1 ≤ wi) (hw32 : wi ≤ 32) (x : Value) (vs : List Value) (es : List (List Nat)) (m : Nat) (w : World) (hr : GR w) (hp : Pcs w x vs es) (hB : ∀ e ∈ es, e.length ≤ 4000000) (hn : es.length ≤ 4000000) (hm : m ≤ es.length) :
    Calls Tryd.prog 70 #[.int .i64 wi, x, .int .i64 m] w fun e w' => ∃ yo yc us, e = .returned (.tuple #[.slice yo (prf wi (es.map (lf wi)) es.length m).length yc, .int .i64 0]) ∧ Pcs w' (.slice yo (prf wi (es.map (lf wi)) es.length m).length yc) us (prf wi (es.map (lf wi)) es.length m) ∧ Fr (fun _ => False) w w' := by
  have hlv := gleaves_C wi x vs es w hr hp hB (by omega)
  have hll : (es.map (lf (wi : Int))).length = es.length := List.length_map _
  have hin : ∀ w' (x : Value) us, GR w' → Pcs w' x us (es.map (lf wi)) → Cp x → _ := fun w' x us h1 h2 h3 => gproofOf_any wi (es.map (lf wi)) m x us w' h1 h2 h3 (by omega) (fun p hp => by have := map_lf_len wi hw1 hw32 es p hp; omega) (by omega)
  rw [hll] at hin
  generalize prf wi (es.map (lf wi)) es.length m = V at *
  obtain ⟨xo, xc, rfl⟩ := hp.form
  have HC := hide (And.intro hlv (And.intro hin hr))
  have hj : 1 ≤ (wi : Int) ∧ (wi : Int) ≤ 32 := by omega
  have HJ := hide hj
  have q1 : ¬ (m : Int) < 0 := by omega
  have q2 : ¬ (es.length : Int) < (m : Int) := by omega
  have q3 : ¬ es.length < m := by omega
  clear hlv hin hr hp hB hn hm hj
  generalize es.length = N at *
  go_enter Tryd.func70, Tryd.ntmps70
  go_wp2_with fail
  refine (may_yes wi _ (unhide HJ).1 (unhide HJ).2).mono ?_
  rintro e w0 ⟨rfl, rfl⟩
  go_wp2_with fail
  refine (unhide HC).1.mono ?_
  rintro e w1 ⟨ao, cp, us, rfl, hP, hF, hC⟩
  have H1 := hide (And.intro hP (And.intro hF hC))
  clear hP hF hC
  go_wp2_with fail
  refine ((unhide HC).2.1 w1 _ us ((unhide HC).2.2.fr0 (unhide H1).2.1) (unhide H1).1 (unhide H1).2.2).mono ?_
  rintro e w2 ⟨yo, yc, us2, rfl, hP, hF⟩
  have H2 := hide (And.intro hP ((unhide H1).2.1.trans hF (fun _ _ h => h)))
  clear hP hF
  go_wp2_with fail
  go_returns
  first | exact ⟨yo, yc, us2, rfl, (unhide H2).1, (unhide H2).2⟩ | exact ⟨yo, yc, rfl, ⟨us2, (unhide H2).1⟩, (unhide H2).2⟩
set_option maxRecDepth 100000 in
set_option maxHeartbeats 1000000 in
theorem gproof_no (j i : Int) (x : Value) (vs : List Value) (es : List (List Nat)) (w : World) (hp : Pcs w x vs es) (h : (j < 1 ∨ 32 < j) ∨ i < 0 ∨ (es.length : Int) < i) :
    Calls Tryd.prog 70 #[.int .i64 j, x, .int .i64 i] w fun e w' => e = .returned (.tuple #[.slice none 0 0, .int .i64 1]) ∧ w' = w := by
  obtain ⟨xo, xc, rfl⟩ := hp.form
  clear hp
  generalize es.length = N at *
  by_cases hj : j < 1 ∨ 32 < j
  · clear h
    go_enter Tryd.func70, Tryd.ntmps70
    go_wp2_with fail
    refine (may_no j _ hj).mono ?_
    rintro e w0 ⟨rfl, rfl⟩
    go_wp2_with fail
    go_returns
    exact ⟨rfl, rfl⟩
  · have HJ := hide (show 1 ≤ j ∧ j ≤ 32 by omega)
    by_cases hi : i < 0
    · clear h hj
      go_enter Tryd.func70, Tryd.ntmps70
      go_wp2_with fail
      refine (may_yes j _ (unhide HJ).1 (unhide HJ).2).mono ?_
      rintro e w0 ⟨rfl, rfl⟩
      go_wp2_with fail
      go_returns
      exact ⟨rfl, rfl⟩
    · have hk : (N : Int) < i := by omega
      clear h hj
      go_enter Tryd.func70, Tryd.ntmps70
      go_wp2_with fail
      refine (may_yes j _ (unhide HJ).1 (unhide HJ).2).mono ?_
      rintro e w0 ⟨rfl, rfl⟩
      go_wp2_with fail
      go_returns
      exact ⟨rfl, rfl⟩
end Go.Proofs.YtocdnomfpgdglabDoor

namespace Go.Proofs.YtocdnomfpgdglabDoor

/-- The hash of a tree, with a bound on the halvings. -/
def mthF (i : Int) : Nat → List (List Nat) → List Nat
  | 0, _ => []
  | k + 1, ps => if ps.length < 2 then (match ps with | [] => sm i [] | p :: _ => p) else nd i (mthF i k (ps.take (hf ps.length))) (mthF i k (ps.drop (hf ps.length)))
theorem mthF_eq (i : Int) (k : Nat) : ∀ ps : List (List Nat), ps.length < k → mthF i k ps = mth i ps := by
  induction k with
  | zero => intro ps h; omega
  | succ k ih =>
    intro ps h
    unfold mthF
    by_cases h2 : ps.length < 2
    · rw [if_pos h2]
      match ps, h2 with
      | [], _ => rw [mth_nil]
      | [p], _ => rw [mth_one]
    · have h3 := hf_lt ps.length (by omega)
      have h4 := hf_pos ps.length
      rw [if_neg h2, mth_two i ps (by omega), ih _ (by rw [List.length_take]; omega), ih _ (by rw [List.length_drop]; omega)]
def rootB : List Nat := [93, 201, 218, 121, 167, 6, 89, 169, 173, 85, 156, 183, 1, 222, 217, 162, 171, 157, 130, 58, 173, 47, 73, 96, 207, 227, 112, 239, 244, 96, 67, 40]
def leafB : List Nat := [110, 52, 11, 156, 255, 179, 122, 152, 156, 165, 68, 230, 187, 120, 10, 44, 120, 144, 29, 63, 179, 55, 56, 118, 133, 17, 163, 6, 23, 175, 160, 29]
theorem rootB_hex : hxl (bytesOf ⟨#[53, 100, 99, 57, 100, 97, 55, 57, 97, 55, 48, 54, 53, 57, 97, 57, 97, 100, 53, 53, 57, 99, 98, 55, 48, 49, 100, 101, 100, 57, 97, 50, 97, 98, 57, 100, 56, 50, 51, 97, 97, 100, 50, 102, 52, 57, 54, 48, 99, 102, 101, 51, 55, 48, 101, 102, 102, 52, 54, 48, 52, 51, 50, 56]⟩) = rootB := by decide +kernel
theorem leafB_hex : hxl (bytesOf ⟨#[54, 101, 51, 52, 48, 98, 57, 99, 102, 102, 98, 51, 55, 97, 57, 56, 57, 99, 97, 53, 52, 52, 101, 54, 98, 98, 55, 56, 48, 97, 50, 99, 55, 56, 57, 48, 49, 100, 51, 102, 98, 51, 51, 55, 51, 56, 55, 54, 56, 53, 49, 49, 97, 51, 48, 54, 49, 55, 97, 102, 97, 48, 49, 100]⟩) = leafB := by decide +kernel
theorem leaf_nil : lf 32 [] = leafB := by decide +kernel
theorem root_tes : mthF 32 9 (tes.map (lf 32)) = rootB := by decide +kernel
theorem root_tests : mth 32 (tes.map (lf 32)) = rootB := by rw [← mthF_eq 32 9 _ (by decide)]; exact root_tes
theorem dep_tests : dep 0 8 0 1 = 3 := by
  have h8 : hf 8 = 4 := by decide +kernel
  have h4 : hf 4 = 2 := by decide +kernel
  have h2 : hf 2 = 1 := by decide +kernel
  rw [dep_l (by decide) (by decide) (by rw [h8]; decide), h8, dep_l (by decide) (by decide) (by rw [h4]; decide), h4, dep_l (by decide) (by decide) (by rw [h2]; decide), h2, dep_eq]
end Go.Proofs.YtocdnomfpgdglabDoor

namespace Go.Proofs.YtocdnomfpgdglabDoor
open Go.RowKit

theorem bes_wid (wi : Nat) (hw1 : 1 ≤ wi) (hw32 : wi ≤ 32) (L : List (List Nat)) (hL : ∀ p ∈ L, p.length = wi) (m : Nat) : ∀ f n tf tn, n ≤ m → ∀ p ∈ bes wi L f n tf tn, p.length = wi := by
  induction m with
  | zero => intro f n tf tn h p hp; rw [bes, dif_pos (by omega)] at hp; cases hp
  | succ m ih =>
    intro f n tf tn h p hp
    by_cases e : (f = tf ∧ n = tn) ∨ n < 2
    · rw [bes, dif_pos e] at hp; cases hp
    · have hlt := hf_lt n (by omega)
      have hpos := hf_pos n
      by_cases hl : tf < f + hf n
      · rw [bes_l (by omega) (by omega) hl] at hp
        rcases List.mem_append.1 hp with hp | hp
        · exact ih _ _ _ _ (by omega) p hp
        · simp at hp; subst hp; exact mth_wid wi hw1 hw32 _ (fun p hp => hL p (blk_mem _ _ _ p hp))
      · rw [bes_r (by omega) (by omega) hl] at hp
        rcases List.mem_append.1 hp with hp | hp
        · exact ih _ _ _ _ (by omega) p hp
        · simp at hp; subst hp; exact mth_wid wi hw1 hw32 _ (fun p hp => hL p (blk_mem _ _ _ p hp))
theorem wdq_of {j : Int} {ps : List (List Nat)} (h : ∀ p ∈ ps, (p.length : Int) = j) : wdq j ps = true := by
  rw [wdq, List.all_eq_true]
  intro p hp
  simpa using h p hp
/-- A path that the tree tells is taken. -/
theorem chkP_bes (wi : Nat) (hw1 : 1 ≤ wi) (hw32 : wi ≤ 32) (L : List (List Nat)) (hL : ∀ p ∈ L, p.length = wi) (i : Nat) (hi : i < L.length) : chkP wi (L[i]) i L.length (bes wi L 0 L.length i 1) (mth wi L) = true := by
  have hb : blk L i 1 = [L[i]] := by
    rw [blk, List.drop_eq_getElem_cons hi]; rfl
  have ht := topv_bes wi L L.length 0 L.length i 1 (Nat.le_refl _) (by omega) (rch_one _ 0 L.length i (Nat.le_refl _) (by omega) (by omega))
  rw [hb, mth_one, blk_all] at ht
  rw [chkP, decide_eq_true (by omega), decide_eq_true (by omega), decide_eq_true (by omega), wdq_of (fun p hp => ?_), wdq_of (fun p hp => ?_), Int.toNat_natCast, Int.toNat_natCast, Int.toNat_natCast, bes_len _ _ _ _ _ _ _ (Nat.le_refl _), decide_eq_true rfl, ht, decide_eq_true rfl]
  · rfl
  · have := bes_wid wi hw1 hw32 L hL _ 0 L.length i 1 (Nat.le_refl _) p hp
    omega
  · simp at hp
    rcases hp with rfl | rfl
    · have := hL L[i] (List.getElem_mem _); omega
    · have := mth_wid wi hw1 hw32 L hL; omega
theorem chkP_tests : chkP 32 (lf 32 []) 0 8 (bes 32 (tes.map (lf 32)) 0 8 0 1) rootB = true := by
  have := chkP_bes 32 (by decide) (by decide) (tes.map (lf 32)) (map_lf_len 32 (by decide) (by decide) _) 0 (by simp [tes])
  have e : mth ((32 : Nat) : Int) (tes.map (lf 32)) = rootB := root_tests
  rw [e] at this
  exact this
set_option maxRecDepth 100000 in
set_option maxHeartbeats 4000000 in
theorem mlives_any (w : World) (hg : GS w) (ht : GT w) : Calls Tryd.prog 16 #[] w fun e w' => e = .returned (.bool true) ∧ Fr (fun _ => False) w w' := by
  have hB : ∀ e ∈ tes, e.length ≤ 16000000 := by decide
  have hnew : ∀ w', GS w' → Calls Tryd.prog 27 #[.int .i64 32] w' fun e w'' => ∃ tb, e = .returned (.pointer (some ⟨tb, 0, none⟩)) ∧ TrAt w'' w'.heap.size tb 32 0 none 0 [] [] ∧ 6 ≤ w'.heap.size ∧ w'.heap.size ≤ tb ∧ Fr (fun _ => False) w' w'' := fun w' hg' => by
    refine (mnew_any 32 w').mono ?_
    rintro e w'' ⟨rfl, h1, h2⟩
    exact ⟨_, rfl, h1, hg'.1.2, Nat.le_refl _, h2⟩
  have hadd : ∀ (w' : World) (base tb : Nat), GS w' → GT w' → TrAt w' base tb 32 0 none 0 [] [] → 6 ≤ base → Calls Tryd.prog 30 #[.pointer (some ⟨tb, 0, none⟩), .slice none 0 0] w' fun e w'' => e = .returned (.int .i64 0) ∧ Tk w'' tb 32 [lf 32 []] ∧ Fr (TOwn tb none []) w' w'' := fun w' base tb hg' ht' hT hb => by
    refine (add_in 32 (by decide) (by decide) base tb 0 hb w' none 0 [] [] (.slice none 0 0) [] hT hg' (sl_nil _) (by decide) (fun j row h => by simp at h) (by decide) (by decide)).mono ?_
    rintro e w'' ⟨rfl, xo, cp, vs, hT2, hF, _⟩
    have hlo : ∀ k, k < 6 → ¬ TOwn tb none [] k := fun k hk hO => by
      have := (hT.lt k hO).1; omega
    refine ⟨rfl, ⟨⟨base, xo, cp, vs, _, hT2, ?_⟩, hg'.fr hF hlo, ht'.fr hF hlo, fun p hp => ?_, fun p hp => ?_, by decide⟩, hF⟩
    · exact (rows_nil 32).add (by decide) (by decide) (lf 32 []) (fun p hp => by simp at hp; subst hp; exact lf_len 32 (by decide) (by decide) _)
    · simp at hp; subst hp; exact lf_len 32 (by decide) (by decide) _
    · simp at hp; subst hp; exact lf_lt _ _
  have hp0 := fun w' x vs (h1 : GS w') (h2 : GT w') (h3 : Pcs w' x vs tes) => mpath_in 32 (by decide) (by decide) x vs tes 0 w' h1 h2 h3 hB (by decide) (by decide)
  have hr0 : ∀ w' x vs, GS w' → GT w' → Pcs w' x vs tes → Calls Tryd.prog 17 #[.int .i64 32, x] w' fun e w'' => ∃ yo yc, e = .returned (.slice yo 32 yc) ∧ OB w' w'' yo yc rootB := fun w' x vs h1 h2 h3 => by
    have := mroot_in 32 (by decide) (by decide) x vs tes w' h1 h2 h3 hB (by decide)
    rw [← root_tests]
    exact this
  have hr1 : ∀ w' tb, Tk w' tb 32 [lf 32 []] → Calls Tryd.prog 32 #[.pointer (some ⟨tb, 0, none⟩), .int .i64 1] w' fun e w'' => ∃ yo yc, e = .returned (.tuple #[.slice yo 32 yc, .int .i64 0]) ∧ OB w' w'' yo yc leafB := fun w' tb h => by
    have := troot_in tb 32 (by decide) (by decide) _ 1 w' h (by decide)
    have e : mth (32 : Nat) (blk [lf 32 []] 0 1) = leafB := by
      have : blk [lf 32 []] 0 1 = [lf 32 []] := rfl
      rw [this, mth_one, leaf_nil]
    rw [← e]
    exact this
  have hlf : ∀ w', GS w' → Calls Tryd.prog 19 #[.int .i64 32, .slice none 0 0] w' fun e w'' => ∃ yo, e = .returned (.slice yo 32 32) ∧ OB w' w'' yo 32 (lf 32 []) := fun w' h => by
    have := leaf_any 32 (.slice none 0 0) [] w' h (sl_nil _) (by decide)
    have e : (lf 32 []).length = 32 := lf_len 32 (by decide) (by decide) _
    rw [e] at this
    exact this
  have hbl : (bes 32 (tes.map (lf 32)) 0 8 0 1).length = 3 := by rw [bes_len _ _ _ _ _ _ _ (Nat.le_refl _), dep_tests]
  have hck := chkP_tests
  have e8 : tes.length = 8 := rfl
  simp only [e8] at hp0
  have e0 : ((0 : Nat) : Int) = 0 := rfl
  have e32 : ((32 : Nat) : Int) = 32 := rfl
  simp only [e0, e32] at hp0
  generalize bes 32 (tes.map (lf 32)) 0 8 0 1 = BS at *
  have hrb : ∀ v ∈ rootB, v < 256 := by decide
  have hlb : ∀ v ∈ leafB, v < 256 := by decide
  have HG := hide (And.intro hg ht)
  have HC := hide (And.intro hnew (And.intro hadd (And.intro hp0 (And.intro hr0 (And.intro hr1 (And.intro hlf (And.intro hbl (And.intro hck (And.intro hrb hlb)))))))))
  clear hnew hadd hp0 hr0 hr1 hlf hbl hck hrb hlb hg ht hB e8 e0 e32
  go_enter Tryd.func16, Tryd.ntmps16
  go_wp2_with fail
  refine (tests_any w).mono ?_
  rintro e w1 ⟨g1, vs1, rfl, hP, hF⟩
  have F1 := hide hF
  have P1 := hide hP
  clear hF hP
  go_wp2_with fail
  refine ((unhide HC).2.2.1 _ _ _ ((unhide HG).1.fr0 (unhide F1)) ((unhide HG).2.fr0 (unhide F1)) (unhide P1)).mono ?_
  rintro e w2 ⟨ao, cp, us, rfl, hO⟩
  have hus : us.length = 3 := hO.len.trans (unhide HC).2.2.2.2.2.2.1
  rw [hus]
  have F2 := hide ((unhide F1).trans hO.own.fr (fun _ _ h => h))
  have P2 := hide ((unhide P1).fr0 hO.own.fr)
  have O2 := hide hO
  have HU := hide hus
  clear hO hus
  go_wp2_with fail
  refine ((unhide HC).1 _ ((unhide HG).1.fr0 (unhide F2))).mono ?_
  rintro e w3 ⟨tb, rfl, hT, hb1, hb2, hF⟩
  have T3 := hide (And.intro hT (And.intro hb1 hb2))
  have F23 := hide hF
  have F3 := hide ((unhide F2).trans hF (fun _ _ h => h))
  have P3 := hide ((unhide P2).fr0 hF)
  have O3 := hide ((unhide O2).fr0 hF)
  clear hT hb1 hb2 hF
  go_wp2_with fail
  refine ((unhide HC).2.1 _ _ _ ((unhide HG).1.fr0 (unhide F3)) ((unhide HG).2.fr0 (unhide F3)) (unhide T3).1 (unhide T3).2.1).mono ?_
  rintro e w4 ⟨rfl, hT, hF⟩
  have hF24 : Fr (fun _ => False) w2 w4 := (unhide F23).trans hF (fun k hk hO => by
    have h2 := (unhide T3).2.2
    rcases hO with rfl | ⟨o, e⟩ | ⟨v, hv, _⟩
    · omega
    · cases e
    · cases hv)
  have F4 := hide ((unhide F2).trans hF24 (fun _ _ h => h))
  have P4 := hide ((unhide P2).fr0 hF24)
  have O4 := hide ((unhide O2).fr0 hF24)
  have T4 := hide hT
  clear hT hF hF24 T3 F3
  go_wp2_with fail
  refine ((unhide HC).2.2.2.2.1 _ _ (unhide T4)).mono ?_
  rintro e w5 ⟨lo, lc, rfl, hO⟩
  have F5 := hide ((unhide F4).trans hO.fr (fun _ _ h => h))
  have P5 := hide ((unhide P4).fr0 hO.fr)
  have O5 := hide ((unhide O4).fr0 hO.fr)
  have L5 := hide (hO.sl (unhide HC).2.2.2.2.2.2.2.2.2)
  clear hO
  go_wp2_with fail
  refine ((unhide HC).2.2.2.1 _ _ _ ((unhide HG).1.fr0 (unhide F5)) ((unhide HG).2.fr0 (unhide F5)) (unhide P5)).mono ?_
  rintro e w6 ⟨ro, rc, rfl, hO⟩
  have F6 := hide ((unhide F5).trans hO.fr (fun _ _ h => h))
  have O6 := hide ((unhide O5).fr0 hO.fr)
  have L6 := hide ((unhide L5).fr0 hO.fr)
  have R6 := hide (hO.sl (unhide HC).2.2.2.2.2.2.2.2.1)
  clear hO
  go_wp2_with fail
  refine (hex_lit ⟨#[53, 100, 99, 57, 100, 97, 55, 57, 97, 55, 48, 54, 53, 57, 97, 57, 97, 100, 53, 53, 57, 99, 98, 55, 48, 49, 100, 101, 100, 57, 97, 50, 97, 98, 57, 100, 56, 50, 51, 97, 97, 100, 50, 102, 52, 57, 54, 48, 99, 102, 101, 51, 55, 48, 101, 102, 102, 52, 54, 48, 52, 51, 50, 56]⟩ rootB _ (by decide) rootB_hex 32 rfl (by decide)).mono ?_
  rintro e w7 ⟨xo, xc, rfl, hS, hF⟩
  have F7 := hide ((unhide F6).trans hF (fun _ _ h => h))
  have O7 := hide ((unhide O6).fr0 hF)
  have L7 := hide ((unhide L6).fr0 hF)
  have R7 := hide (And.intro ((unhide R6).fr0 hF) hS)
  clear hS hF
  go_wp2_with fail
  refine (same_T (unhide R7).1.s (unhide R7).2.s (by decide) (sameB_refl _)).mono ?_
  rintro e w8 ⟨rfl, hF⟩
  have F8 := hide ((unhide F7).trans hF (fun _ _ h => h))
  have O8 := hide ((unhide O7).fr0 hF)
  have L8 := hide ((unhide L7).fr0 hF)
  clear hF R7 R6
  go_wp2_with fail
  refine ((unhide HC).2.2.2.2.2.1 _ ((unhide HG).1.fr0 (unhide F8))).mono ?_
  rintro e w9 ⟨fo, rfl, hO⟩
  have F9 := hide ((unhide F8).trans hO.fr (fun _ _ h => h))
  have O9 := hide ((unhide O8).fr0 hO.fr)
  have L9 := hide ((unhide L8).fr0 hO.fr)
  have hsl := hO.sl (lf_lt 32 [])
  have e32 : (lf 32 []).length = 32 := lf_len 32 (by decide) (by decide) _
  rw [e32] at hsl
  have K9 := hide hsl
  clear hO hsl e32
  go_wp2_with fail
  refine (hex_lit ⟨#[53, 100, 99, 57, 100, 97, 55, 57, 97, 55, 48, 54, 53, 57, 97, 57, 97, 100, 53, 53, 57, 99, 98, 55, 48, 49, 100, 101, 100, 57, 97, 50, 97, 98, 57, 100, 56, 50, 51, 97, 97, 100, 50, 102, 52, 57, 54, 48, 99, 102, 101, 51, 55, 48, 101, 102, 102, 52, 54, 48, 52, 51, 50, 56]⟩ rootB _ (by decide) rootB_hex 32 rfl (by decide)).mono ?_
  rintro e w10 ⟨yo, yc, rfl, hS, hF⟩
  have F10 := hide ((unhide F9).trans hF (fun _ _ h => h))
  have O10 := hide ((unhide O9).fr0 hF)
  have L10 := hide ((unhide L9).fr0 hF)
  have K10 := hide (And.intro ((unhide K9).fr0 hF) hS)
  clear hS hF
  have hpc := (unhide O10).pcs
  have hcp := (unhide O10).cap
  rw [unhide HU] at hpc hcp
  have PC := hide (And.intro hpc hcp)
  clear hpc hcp
  go_wp2_with fail
  refine (checkPath_any 32 0 8 _ _ _ _ _ us BS _ ((unhide HG).1.fr0 (unhide F10)) (unhide K10).1 (unhide K10).2 (unhide PC).1 (fun _ _ _ e => by cases e; exact (unhide PC).2) (by decide) (by rw [(unhide HC).2.2.2.2.2.2.1]; decide)).mono ?_
  rintro e w11 ⟨rfl, hF⟩
  rw [(unhide HC).2.2.2.2.2.2.2.1]
  have F11 := hide ((unhide F10).trans hF (fun _ _ h => h))
  have L11 := hide ((unhide L10).fr0 hF)
  clear hF
  go_wp2_with fail
  refine (hex_lit ⟨#[54, 101, 51, 52, 48, 98, 57, 99, 102, 102, 98, 51, 55, 97, 57, 56, 57, 99, 97, 53, 52, 52, 101, 54, 98, 98, 55, 56, 48, 97, 50, 99, 55, 56, 57, 48, 49, 100, 51, 102, 98, 51, 51, 55, 51, 56, 55, 54, 56, 53, 49, 49, 97, 51, 48, 54, 49, 55, 97, 102, 97, 48, 49, 100]⟩ leafB _ (by decide) leafB_hex 32 rfl (by decide)).mono ?_
  rintro e w12 ⟨zo, zc, rfl, hS, hF⟩
  have F12 := hide ((unhide F11).trans hF (fun _ _ h => h))
  have L12 := hide (And.intro ((unhide L11).fr0 hF) hS)
  clear hS hF
  go_wp2_with fail
  refine (same_T (unhide L12).1.s (unhide L12).2.s (by decide) (sameB_refl _)).mono ?_
  rintro e w13 ⟨rfl, hF⟩
  have F13 := hide ((unhide F12).trans hF (fun _ _ h => h))
  clear hF
  go_wp2_with fail
  go_ret
  exact ⟨rfl, unhide F13⟩
end Go.Proofs.YtocdnomfpgdglabDoor

namespace Go.Proofs.YtocdnomfpgdglabDoor
open Go.RowKit

theorem OL.stepH {w wr w1 : World} {ao : Option Addr} {cp : Nat} {vs : List Value} {ps : List (List Nat)} (h : OL w wr ao cp vs ps) (l : List Nat) (yo : Option Addr) (yc : Nat) (hO : OB wr w1 yo yc l) (hb : ∀ v ∈ l, v < 256) (hn : vs.length < 16000000) :
    ∃ ao' cp' w2, (Builtin.append_ #[22, 22] 22 #[.slice ao vs.length cp, .slice (some ⟨w1.heap.size, 0, none⟩) 1 1]).run Tryd.prog (w1.alloc (.cells #[.slice yo l.length yc] 23)) = .ok (.slice ao' (vs.length + 1) cp') w2 ∧ OL w w2 ao' cp' (vs ++ [.slice yo l.length yc]) (ps ++ [l]) ∧
      (w1.alloc (.cells #[.slice yo l.length yc] 23)).grownBy w2 (Value.slice ao vs.length cp).ownBlock ∧ ((Value.slice ao' (vs.length + 1) cp').ownBlock = (Value.slice ao vs.length cp).ownBlock ∨ (Value.slice ao' (vs.length + 1) cp').ownBlock = some (w1.heap.size + 1)) := by
  obtain ⟨ao', cp', w2, hr, hOL⟩ := h.step l yo yc hO hb hn
  have hown : (w1.alloc (.cells #[.slice yo l.length yc] 23)).ownsRow w.heap.size 23 1 (.slice ao vs.length cp) vs.length vs := (h.fr0 (hO.fr.alloc _)).own.own
  obtain ⟨a2, c2, w3, hr2, _, hg, hat⟩ := run_app_ss (w1.alloc (.cells #[.slice yo l.length yc] 23)) w.heap.size vs.length _ (.slice (some ⟨w1.heap.size, 0, none⟩) 1 1) vs [.slice yo l.length yc] hown ⟨.inr (.inr ⟨w1.heap.size, 0, 1, rfl, fun j u hu => by
    rw [World.cell?_alloc_at _ _ _ _ (by simp)]
    match j with
    | 0 => simpa using hu
    | j + 1 => simp at hu⟩), fun u hu => by simp at hu; subst hu; exact ⟨_, _, _, rfl⟩⟩ (by simp; omega) (by have := h.own.fr.size; have := hO.fr.size; simp; omega)
  rw [hr] at hr2
  injection hr2 with e1 e2
  subst e2
  injection e1 with e1 _ e3
  subst e1 e3
  refine ⟨ao', cp', w2, hr, hOL, hg, ?_⟩
  simpa using hat
/-- What guarded has made so far. -/
structure GI (w wr : World) (es qs : List (List Nat)) (so : Option Addr) (sc : Nat) (svs : List Value) (ao : Option Addr) (ac : Nat) (avs : List Value) : Prop where
  all : OL w wr ao ac avs qs
  sho : wr.ownsRow w.heap.size 23 1 (.slice so svs.length sc) svs.length svs
  sln : svs.length = avs.length
  ne : ∀ g, (Value.slice so svs.length sc).ownBlock = some g → (Value.slice ao avs.length ac).ownBlock = some g → False
  sls : ∀ u ∈ svs, ∃ a n c, u = .slice a n c
  pre : ∀ (j : Nat) v v' e, svs[j]? = some v → avs[j]? = some v' → es[j]? = some e → ∃ g c, v = .slice (some ⟨g, 0, none⟩) e.length c ∧ v' = .slice (some ⟨g, 0, none⟩) (e.length + 9) c
theorem GI.nil (w : World) (es : List (List Nat)) : GI w w es [] none 0 [] none 0 [] :=
  ⟨OL.nil w, ⟨rfl, .inl ⟨rfl, rfl⟩⟩, rfl, (fun g h => by cases h), (fun u h => by cases h), (fun j v v' e h => by simp at h)⟩
theorem GI.fr0 {w wr wq : World} {es qs : List (List Nat)} {so : Option Addr} {sc : Nat} {svs : List Value} {ao : Option Addr} {ac : Nat} {avs : List Value} (h : GI w wr es qs so sc svs ao ac avs) (hf : Fr (fun _ => False) wr wq) : GI w wq es qs so sc svs ao ac avs :=
  ⟨h.all.fr0 hf, ownsRow_of_block h.sho (fun g hg => hf.block g (h.sho.lt g hg).2 (fun h => h)), h.sln, h.ne, h.sls, h.pre⟩
/-- One list more. -/
theorem GI.step {w wr w1 : World} {es qs : List (List Nat)} {so : Option Addr} {sc : Nat} {svs : List Value} {ao : Option Addr} {ac : Nat} {avs : List Value} (h : GI w wr es qs so sc svs ao ac avs) (l : List Nat) (g lc n : Nat) (hO : OB wr w1 (some ⟨g, 0, none⟩) lc l) (hb : ∀ v ∈ l, v < 256) (hn : avs.length < 16000000)
    (hpre : ∀ e, es[svs.length]? = some e → n = e.length ∧ l.length = e.length + 9) (L : Nat) (hL : l.length = L) :
    ∃ ao' ac' w2, (Builtin.append_ #[22, 22] 22 #[.slice ao avs.length ac, .slice (some ⟨w1.heap.size, 0, none⟩) 1 1]).run Tryd.prog (w1.alloc (.cells #[.slice (some ⟨g, 0, none⟩) L lc] 23)) = .ok (.slice ao' (avs.length + 1) ac') w2 ∧ Fr (fun _ => False) w w2 ∧
      w2.cell? ⟨match ao' with | some a => a.block | none => 0, avs.length, none⟩ = some (.slice (some ⟨g, 0, none⟩) L lc) ∧ (∃ q, ao' = some ⟨q, 0, none⟩) ∧
      ∃ so' sc' w3, (Builtin.append_ #[22, 22] 22 #[.slice so svs.length sc, .slice (some ⟨w2.heap.size, 0, none⟩) 1 1]).run Tryd.prog (w2.alloc (.cells #[.slice (some ⟨g, 0, none⟩) n lc] 23)) = .ok (.slice so' (svs.length + 1) sc') w3 ∧
      GI w w3 es (qs ++ [l]) so' sc' (svs ++ [.slice (some ⟨g, 0, none⟩) n lc]) ao' ac' (avs ++ [.slice (some ⟨g, 0, none⟩) L lc]) := by
  subst hL
  obtain ⟨ao', ac', w2, hr, hOL, hg, hat⟩ := h.all.stepH l (some ⟨g, 0, none⟩) lc hO hb hn
  have hs1 := (h.fr0 (hO.fr.alloc (.cells #[.slice (some ⟨g, 0, none⟩) l.length lc] 23))).sho
  have hslt := h.sho.lt
  have hsz := hO.fr.size
  have hs2 : w2.ownsRow w.heap.size 23 1 (.slice so svs.length sc) svs.length svs := ownsRow_of_block hs1 (fun q hq => hg.block q (hs1.lt q hq).2 (fun e => h.ne q hq e.symm))
  have hs3 : (w2.alloc (.cells #[.slice (some ⟨g, 0, none⟩) n lc] 23)).ownsRow w.heap.size 23 1 (.slice so svs.length sc) svs.length svs := hs2.alloc _
  obtain ⟨so', sc', w3, hr3, hown3, hg3, hat3⟩ := run_app_ss _ w.heap.size svs.length _ (.slice (some ⟨w2.heap.size, 0, none⟩) 1 1) svs [.slice (some ⟨g, 0, none⟩) n lc] hs3 ⟨.inr (.inr ⟨w2.heap.size, 0, 1, rfl, fun j u hu => by
    rw [World.cell?_alloc_at _ _ _ _ (by simp)]
    match j with
    | 0 => simpa using hu
    | j + 1 => simp at hu⟩), fun u hu => by simp at hu; subst hu; exact ⟨_, _, _, rfl⟩⟩ (by have := h.sln; simp; omega) (by have := hOL.own.fr.size; simp; omega)
  have hlen1 : (avs ++ [Value.slice (some ⟨g, 0, none⟩) l.length lc]).length = avs.length + 1 := by simp
  have hne2 : ∀ q, (Value.slice so svs.length sc).ownBlock = some q → (Value.slice ao' (avs.length + 1) ac').ownBlock = some q → False := fun q h1 h2 => by
    rcases hat with e | e
    · rw [e] at h2; exact h.ne q h1 h2
    · rw [e] at h2
      have := (hslt q h1).2
      simp at h2
      omega
  have hF3 : Fr (fun k => (Value.slice so svs.length sc).ownBlock = some k) w2 w3 := ((Fr.refl _ _).alloc _).grown hg3 (fun q hq => .inl hq)
  have hOL3 : OL w w3 ao' ac' (avs ++ [.slice (some ⟨g, 0, none⟩) l.length lc]) (qs ++ [l]) := by
    refine ⟨⟨ownsRow_of_block hOL.own.own (fun q hq => hF3.block q (hOL.own.own.lt q hq).2 (fun e => hne2 q e (by rw [hlen1] at hq; exact hq))), ?_⟩, hOL.len, fun j v p hv hp => ?_, hOL.apart, hOL.byt⟩
    · exact hOL.own.fr.trans hF3 (fun k hk hk2 => by have := (hslt k hk2).1; omega)
    · obtain ⟨bo, c, e, hOw⟩ := hOL.row j v p hv hp
      exact ⟨bo, c, e, ownsRow_of_block hOw (fun q hq => hF3.block q (World.ownsRow.lt hOw q hq).2 (fun e => own_ne hs2 hOw q e hq))⟩
  obtain ⟨q, rfl⟩ : ∃ q, ao' = some ⟨q, 0, none⟩ := by
    rcases hOL.own.own.2 with ⟨_, e⟩ | ⟨q, cap, cur, e, _⟩
    · rw [hlen1] at e; omega
    · simp only [Value.slice.injEq] at e
      exact ⟨q, e.1⟩
  refine ⟨_, ac', w2, hr, hOL.own.fr, ?_, ⟨q, rfl⟩, so', sc', w3, by simpa using hr3, hOL3, by rw [List.length_append]; exact hown3, by rw [List.length_append, List.length_append, h.sln]; rfl, fun q' h1 h2 => ?_, fun u hu => ?_, fun j v v' e hv hv' he => ?_⟩
  · have := hOL.own.own.cellAt avs.length (by rw [hlen1]; omega)
    rw [this, List.getElem?_append_right (Nat.le_refl _), Nat.sub_self]
    rfl
  · rw [hlen1] at h2
    rw [List.length_append] at h1
    rcases hat3 with e | e
    · rw [show svs.length + [Value.slice (some ⟨g, 0, none⟩) n lc].length = svs.length + [Value.slice (some ⟨g, 0, none⟩) n lc].length from rfl, e] at h1
      exact hne2 q' h1 h2
    · rw [e] at h1
      have := (hOL.own.own.lt q' (by rw [hlen1]; exact h2)).2
      simp at h1
      omega
  · rcases List.mem_append.1 hu with hu | hu
    · exact h.sls u hu
    · simp at hu; subst hu; exact ⟨_, _, _, rfl⟩
  · by_cases hj : j < svs.length
    · rw [List.getElem?_append_left hj] at hv
      rw [List.getElem?_append_left (by rw [← h.sln]; exact hj)] at hv'
      exact h.pre j v v' e hv hv' he
    · have hje : j = svs.length := by
        have := (List.getElem?_eq_some_iff.1 hv).1
        rw [List.length_append, List.length_singleton] at this
        omega
      subst hje
      rw [List.getElem?_append_right (Nat.le_refl _), Nat.sub_self] at hv
      rw [List.getElem?_append_right (by rw [h.sln]; exact Nat.le_refl _), h.sln, Nat.sub_self] at hv'
      simp only [List.getElem?_cons_zero, Option.some.injEq] at hv hv'
      subst hv hv'
      obtain ⟨e1, e2⟩ := hpre e he
      exact ⟨g, lc, by rw [e1], by rw [e2]⟩
end Go.Proofs.YtocdnomfpgdglabDoor

namespace Go.Proofs.YtocdnomfpgdglabDoor
open Go.RowKit

/-- Bytes and k guards. -/
def gdj (e : List Nat) (k : Nat) : List Nat := e ++ List.replicate k 77
theorem gdj_len (e : List Nat) (k : Nat) : (gdj e k).length = e.length + k := by simp [gdj]
theorem gdj_succ (e : List Nat) (k : Nat) : gdj e k ++ [77] = gdj e (k + 1) := by simp [gdj, List.replicate_succ']
theorem gdj_lt {e : List Nat} (h : ∀ v ∈ e, v < 256) (k : Nat) : ∀ v ∈ gdj e k, v < 256 := fun v hv => by
  simp only [gdj, List.mem_append, List.mem_replicate] at hv
  rcases hv with h1 | h1
  · exact h v h1
  · omega
/-- What guarded makes: the lists with guards behind each, then guards. -/
def gls (es : List (List Nat)) : List (List Nat) := es.map (fun e => gdj e 9) ++ List.replicate 9 [7]
def glk (es : List (List Nat)) (t : Nat) : List (List Nat) := es.map (fun e => gdj e 9) ++ List.replicate t [7]
theorem glk_succ (es : List (List Nat)) (t : Nat) : glk es t ++ [[7]] = glk es (t + 1) := by simp [glk, List.replicate_succ']
set_option maxRecDepth 100000 in
set_option maxHeartbeats 1000000 in
theorem mguarded_any (x : Value) (vs : List Value) (es : List (List Nat)) (w : World) (hp : Pcs w x vs es) (hB : ∀ e ∈ es, e.length ≤ 4000000) (hn : es.length ≤ 8000000) :
    Calls Tryd.prog 8 #[x] w fun e w' => ∃ so sc svs ao ac avs, e = .returned (.tuple #[.slice so es.length sc, .slice ao (es.length + 9) ac]) ∧ svs.length = es.length + 9 ∧ GI w w' es (gls es) so sc svs ao ac avs := by
  obtain ⟨xo, xc, rfl⟩ := hp.form
  have HG := hide (And.intro hp (And.intro hB hn))
  clear hp hB hn
  generalize hN : es.length = N at *
  go_enter Tryd.func8, Tryd.ntmps8
  go_wp2_with fail
  go_loopw [4, 5, 6] (fun sv av iv wr => ∃ (k : Nat) (so : Option Addr) (sc : Nat) (svs : List Value) (ao : Option Addr) (ac : Nat) (avs : List Value), k ≤ N ∧ iv = .int .i64 (k : Nat) ∧ sv = .slice so k sc ∧ av = .slice ao k ac ∧ svs.length = k ∧ GI w wr es ((es.take k).map fun e => gdj e 9) so sc svs ao ac avs) (fun _ _ iv _ => N - (intOf iv).toNat)
  case atStart => exact ⟨0, none, 0, [], none, 0, [], Nat.zero_le _, rfl, rfl, rfl, rfl, GI.nil w es⟩
  case round =>
    obtain ⟨k, so, sc, svs, ao, ac, avs, hk, rfl, rfl, rfl, hsl, hI⟩ := hrel
    have hN8 := (unhide HG).2.2
    by_cases hlt : k < N
    · have hlt' : (k : Int) < (N : Int) := by omega
      have hke : k < es.length := by omega
      have hF := hI.all.own.fr
      obtain ⟨g, o, vo, vc, rfl, hcw, hSw⟩ := (unhide HG).1.nth (Fr.refl _ _) k hke
      have hcell := (hF.cell (p := ⟨g, o + k, none⟩) (lt_of_cell hcw) (fun h => h)).trans hcw
      have hS := hSw.fr0 hF
      have hgl : g < wr.heap.size := lt_of_cell hcell
      have hel := (unhide HG).2.1 es[k] (List.getElem_mem hke)
      have htk : (es.take (k + 1)).map (fun e => gdj e 9) = (es.take k).map (fun e => gdj e 9) ++ [gdj es[k] 9] := by
        rw [List.take_add_one, List.getElem?_eq_getElem hke, Option.toList_some, List.map_append]; rfl
      have hek : es[k]? = some es[k] := List.getElem?_eq_getElem hke
      generalize es[k] = e at *
      generalize hE : e.length = E at *
      obtain ⟨w1, hr1, ho1, hF1⟩ := make0 (E + 9) wr (by omega)
      have hO1 : OB wr w1 (some ⟨wr.heap.size, 0, none⟩) (E + 9) [] := ⟨ho1, hF1⟩
      have c1 := (hF1.cell (p := ⟨g, o + k, none⟩) hgl (fun h => h)).trans hcell
      obtain ⟨a2, c2, w2, hr2, hO2⟩ := hO1.app _ e (hS.s.fr0 hF1) (by rw [hE]; simp; omega)
      have hO2' : OB wr w2 a2 c2 (gdj e 0) := by simpa [gdj] using hO2
      have e2 : (([] : List Nat) ++ e).length = E := hE
      rw [e2] at hr2
      have HR1 := hide (show (Instr.makeSlice 23 (.int .i64 0) (.int .i64 ((E : Int) + 9))).run Tryd.prog wr = .ok (.slice (some ⟨wr.heap.size, 0, none⟩) 0 (E + 9)) w1 from hr1)
      have HR2 := hide hr2
      have HI := hide (And.intro hI (And.intro hO2' (And.intro htk (And.intro hek (And.intro hS (And.intro hcw hgl))))))
      clear hcw hSw hI hO2' htk hek hS hr1 hr2 ho1 hF1 hO1 hO2 e2 hF
      have r0 : IntKind.i64.wrap ((E : Int) + 9) = (E : Int) + 9 := by rw [IntKind.wrap_i64]; omega
      have hr1 := unhide HR1
      go_wp2_with (first | (at_builtin; refine wpList_app rfl (.tmp 23) (.tmp 27) 23 23 rfl _ _ _ rfl rfl (unhide HR2) ?_))
      clear hr1 c1 hcell
      go_loopw [7, 8] (fun lv jv wq => ∃ (t : Nat) (lo : Option Addr) (lc : Nat), t ≤ 9 ∧ jv = .int .i64 (t : Nat) ∧ lv = .slice lo (E + t) lc ∧ OB wr wq lo lc (gdj e t)) (fun _ jv _ => 9 - (intOf jv).toNat)
      case atStart => exact ⟨0, a2, c2, Nat.zero_le _, rfl, rfl, (unhide HI).2.1⟩
      case round =>
        obtain ⟨t, lo, lc, ht, rfl, rfl, hO⟩ := hrel
        rename World => wq
        by_cases hl9 : t < 9
        · have hl9' : (t : Int) < 9 := by omega
          have hlp : (gdj e t).length = E + t := by rw [gdj_len, hE]
          obtain ⟨a4, c4, w4, hr4, hO4⟩ := hO.app1 77 (by decide) (by rw [hlp]; omega)
          rw [List.length_append, hlp] at hr4
          rw [gdj_succ] at hO4
          have HR4 := hide hr4
          have HO4 := hide hO4
          clear hr4 hO4 hlp hO
          go_wp2_with (at_builtin; refine wpList_app rfl (.tmp 33) (.tmp 34) 23 23 rfl _ _ _ rfl rfl (unhide HR4) ?_)
          exact ⟨⟨t + 1, _, _, by omega, by go_num, rfl, unhide HO4⟩, by simp [intOf]; omega⟩
        · have hte : t = 9 := by omega
          subst hte
          have hl9' : ¬ (9 : Int) < 9 := by decide
          obtain ⟨hI, _, htk, hek, hS, hcell, hgl2⟩ := unhide HI
          obtain ⟨gg, rfl, hg1, hg2, hcap, _⟩ := hO.at_ (by rw [gdj_len]; omega)
          have hlp : (gdj e 9).length = E + 9 := by rw [gdj_len, hE]
          rw [hlp] at hcap
          have hal : avs.length = k := by rw [← hI.sln]; exact hsl
          obtain ⟨ao', ac', w5, hr5, hF5, hc5, ⟨qb, rfl⟩, so', sc', w6, hr6, hI6⟩ := hI.step (gdj e 9) gg lc E hO (gdj_lt hS.b 9) (by omega) (fun e' he' => by
            rw [hsl, hek] at he'
            cases he'
            exact ⟨hE.symm, by rw [hlp, hE]⟩) (E + 9) hlp
          rw [hal] at hr5
          rw [hsl] at hr6
          rw [← htk] at hI6
          have c5 : w5.cell? ⟨g, o + k, none⟩ = some (.slice vo E vc) := (hF5.cell (p := ⟨g, o + k, none⟩) (lt_of_cell hcell) (fun h => h)).trans hcell
          have HR5 := hide hr5
          have HR6 := hide hr6
          have H6 := hide (And.intro hI6 hsl)
          clear hr5 hr6 hI6 hI htk hek hS hcell hO hF5 hc5 hlp hal
          have hE9 : (E : Int) ≤ (lc : Int) := by omega
          go_wp2_with (first | (at_builtin; refine wpList_app rfl (.tmp 36) (.tmp 38) 22 22 rfl _ _ _ rfl rfl (unhide HR5) ?_) | (at_builtin; refine wpList_app rfl (.tmp 40) (.tmp 48) 22 22 rfl _ _ _ rfl rfl (unhide HR6) ?_))
          exact ⟨⟨k + 1, so', sc', _, _, ac', _, by omega, by go_num, rfl, rfl, by rw [List.length_append, (unhide H6).2]; rfl, (unhide H6).1⟩, by simp [intOf]; omega⟩
    · have hkN : k = N := by omega
      have hlt' : ¬ (k : Int) < (N : Int) := by omega
      have htk : es.take k = es := List.take_of_length_le (by omega)
      rw [htk] at hI
      have hI0 : GI w wr es (glk es 0) so sc svs ao ac avs := by simpa [glk] using hI
      have HI := hide (And.intro hI0 (And.intro hsl hkN))
      clear hI hI0 htk hkN hsl
      go_wp2_with fail
      go_loopw [4, 5, 9] (fun sv av jv wq => ∃ (t : Nat) (so : Option Addr) (sc : Nat) (svs : List Value) (ao : Option Addr) (ac : Nat) (avs : List Value), t ≤ 9 ∧ jv = .int .i64 (t : Nat) ∧ sv = .slice so (k + t) sc ∧ av = .slice ao (k + t) ac ∧ svs.length = k + t ∧ GI w wq es (glk es t) so sc svs ao ac avs) (fun _ _ jv _ => 9 - (intOf jv).toNat)
      case atStart => exact ⟨0, so, sc, svs, ao, ac, avs, Nat.zero_le _, rfl, rfl, rfl, (unhide HI).2.1, (unhide HI).1⟩
      case round =>
        obtain ⟨t, so, sc, svs, ao, ac, avs, ht, rfl, rfl, rfl, hsl, hI⟩ := hrel
        rename World => wq
        have hkN := (unhide HI).2.2
        by_cases hl9 : t < 9
        · have hl9' : (t : Int) < 9 := by omega
          have hal : avs.length = k + t := by rw [← hI.sln]; exact hsl
          obtain ⟨ao', ac', w5, hr5, hF5, hc5, ⟨qb, rfl⟩, so', sc', w6, hr6, hI6⟩ := hI.step [7] wq.heap.size 1 1 (ob_lit1 wq 7 (by decide)) (by decide) (by omega) (fun e' he' => by
            have := (List.getElem?_eq_some_iff.1 he').1
            omega) 1 rfl
          rw [hal] at hr5 hc5
          rw [hsl] at hr6
          rw [glk_succ] at hI6
          have e7 : ((7 : Nat) : Int) = 7 := rfl
          have hz : (wq.alloc (.cells #[.int .u8 7] 5)).heap.size = wq.heap.size + 1 := by simp
          simp only [e7, hz] at hr5
          clear e7 hz
          have HR5 := hide hr5
          have HR6 := hide hr6
          have H6 := hide (And.intro hI6 hsl)
          clear hr5 hr6 hI6 hI hF5 hal hsl hkN
          have r1 : IntKind.i64.wrap ((k : Int) + (t : Int) + 1 - 1) = (k : Int) + (t : Int) := by rw [IntKind.wrap_i64]; omega
          simp only at hc5
          go_wp2_with (first | (at_builtin; refine wpList_app rfl (.tmp 54) (.tmp 56) 22 22 rfl _ _ _ rfl rfl (unhide HR5) ?_) | (at_builtin; refine wpList_app rfl (.tmp 58) (.tmp 65) 22 22 rfl _ _ _ rfl rfl (unhide HR6) ?_))
          exact ⟨⟨t + 1, so', sc', _, _, ac', _, by omega, by go_num, rfl, rfl, by rw [List.length_append, (unhide H6).2]; rfl, (unhide H6).1⟩, by simp [intOf]; omega⟩
        · have hte : t = 9 := by omega
          subst hte
          have hl9' : ¬ (9 : Int) < 9 := by decide
          have hcp : k ≤ sc := by
            rcases hI.sho.2 with ⟨e, e2⟩ | ⟨g, cap, cur, e, _, _, h3, _⟩
            · omega
            · simp only [Value.slice.injEq, true_and] at e
              rw [e.2]; omega
          have hI' : GI w wq es (gls es) so sc svs ao ac avs := hI
          have H6 := hide (And.intro hI' (And.intro hsl hkN))
          clear hI hI' hsl hkN
          have hcp' : (k : Int) ≤ (sc : Int) := by omega
          go_wp2_with fail
          go_returns
          obtain ⟨h1, h2, h3⟩ := unhide H6
          subst h3
          exact ⟨so, sc, svs, ao, ac, rfl, h2, avs, h1⟩
end Go.Proofs.YtocdnomfpgdglabDoor

namespace Go.Proofs.YtocdnomfpgdglabDoor
open Go.RowKit

theorem gls_len (es : List (List Nat)) : (gls es).length = es.length + 9 := by simp [gls]
theorem gls_lo (es : List (List Nat)) (i : Nat) (h : i < es.length) : (gls es)[i]'(by rw [gls_len]; omega) = gdj es[i] 9 := by
  simp only [gls]
  rw [List.getElem_append_left (by simpa using h)]
  simp
theorem gls_hi (es : List (List Nat)) (i : Nat) (h : es.length ≤ i) (h2 : i < es.length + 9) : (gls es)[i]'(by rw [gls_len]; omega) = [7] := by
  simp only [gls]
  rw [List.getElem_append_right (by simpa using h), List.getElem_replicate]
theorem gdj_at (m : List Nat) (k j : Nat) (hj : j < m.length + k) : (gdj m k).getD j 0 = if j < m.length then m.getD j 0 else 77 := by
  rw [gdj, List.getD, List.getD]
  by_cases h : j < m.length
  · rw [if_pos h, List.getElem?_append_left h]
  · rw [if_neg h, List.getElem?_append_right (by omega), List.getElem?_replicate, if_pos (by omega)]; rfl
set_option maxRecDepth 100000 in
set_option maxHeartbeats 1000000 in
theorem mleft_any (x y z : Value) (vs us ts : List Value) (es : List (List Nat)) (w : World) (hx : Pcs w x vs es) (hy : Pcs w y us es) (hz : Pcs w z ts (gls es)) (hB : ∀ e ∈ es, e.length ≤ 4000000) (hn : es.length ≤ 8000000) :
    Calls Tryd.prog 12 #[x, y, z] w fun e w' => e = .returned (.bool true) ∧ Fr (fun _ => False) w w' := by
  obtain ⟨xo, xc, rfl⟩ := hx.form
  obtain ⟨yo, yc, rfl⟩ := hy.form
  obtain ⟨zo, zc, rfl⟩ := hz.form
  rw [gls_len] at hz ⊢
  have HG := hide (And.intro hx (And.intro hy (And.intro hz (And.intro hB hn))))
  clear hx hy hz hB hn
  generalize hN : es.length = N at *
  go_enter Tryd.func12, Tryd.ntmps12
  go_wp2_with fail
  go_loopw [7] (fun iv wr => ∃ (i q : Nat), i ≤ N + 9 ∧ iv = .int .i64 (i : Nat) ∧ wr = w.drewN q) (fun iv _ => N + 9 - (intOf iv).toNat)
  case atStart => exact ⟨0, 0, Nat.zero_le _, rfl, rfl⟩
  case round =>
    obtain ⟨i, q, hi, rfl, rfl⟩ := hrel
    have hN8 := (unhide HG).2.2.2.2
    by_cases hlt : i < N + 9
    · have hlt' : (i : Int) < (N : Int) + 9 := by omega
      obtain ⟨gz, oz, ao, ac, rfl, cz, sz⟩ := (unhide HG).2.2.1.nth (Fr.refl _ _) i (by rw [gls_len, hN]; exact hlt)
      by_cases hiN : i < N
      · have hiN' : ¬ (N : Int) ≤ (i : Int) := by omega
        have hiN2 : ¬ N ≤ i := by omega
        have hie : i < es.length := by omega
        obtain ⟨gx, ox, bo, bc, rfl, cx, sx⟩ := (unhide HG).1.nth (Fr.refl _ _) i hie
        obtain ⟨gy, oy, so, sc, rfl, cy, -⟩ := (unhide HG).2.1.nth (Fr.refl _ _) i hie
        rw [gls_lo es i hie] at cz sz
        rw [gdj_len] at cz sz
        have hel := (unhide HG).2.2.2.1 es[i] (List.getElem_mem hie)
        generalize es[i] = e at *
        have HS := hide (And.intro sz sx)
        clear sz sx
        generalize hE : e.length = E at *
        have hiN3 : (i : Int) < (N : Int) := by omega
        go_wp2_with fail
        go_quiet (fail)
        go_wp2_with fail
        go_loopw [8] (fun jv wq => ∃ (j p : Nat), j ≤ E + 9 ∧ jv = .int .i64 (j : Nat) ∧ wq = w.drewN p) (fun jv _ => E + 9 - (intOf jv).toNat)
        case atStart => exact ⟨0, q + nq, Nat.zero_le _, rfl, by rw [World.drewN_drewN]⟩
        case round =>
          obtain ⟨j, p, hj, rfl, rfl⟩ := hrel
          by_cases hjl : j < E + 9
          · have hjl' : (j : Int) < (E : Int) + 9 := by omega
            obtain ⟨g1, o1, rfl, b1⟩ := src_cell (unhide HS).1.s j (by rw [gdj_len, hE]; exact hjl) (unhide HS).1.b
            rw [gdj_at e 9 j (by rw [hE]; exact hjl), hE] at b1
            by_cases hjE : j < E
            · rw [if_pos hjE] at b1
              obtain ⟨g2, o2, rfl, b2⟩ := src_cell (unhide HS).2.s j (by rw [hE]; exact hjE) (unhide HS).2.b
              have hjE' : (j : Int) < (E : Int) := by omega
              have hjE2 : ¬ (E : Int) ≤ (j : Int) := by omega
              have hjE3 : ¬ E ≤ j := by omega
              generalize e.getD j 0 = v at *
              go_wp2_with fail
              go_quiet (fail)
              go_wp2_with fail
              exact ⟨⟨j + 1, p + nq, by omega, by go_num, rfl⟩, by simp [intOf]; omega⟩
            · rw [if_neg hjE] at b1
              have hjE' : ¬ (j : Int) < (E : Int) := by omega
              have hjE2 : (E : Int) ≤ (j : Int) := by omega
              go_wp2_with fail
              go_quiet (fail)
              go_wp2_with fail
              exact ⟨⟨j + 1, p + nq, by omega, by go_num, rfl⟩, by simp [intOf]; omega⟩
          · have hjl' : ¬ (j : Int) < (E : Int) + 9 := by omega
            go_wp2_with fail
            exact ⟨⟨i + 1, p, by omega, by go_num, rfl⟩, by simp [intOf]; omega⟩
      · have hiN' : (N : Int) ≤ (i : Int) := by omega
        rw [gls_hi es i (by omega) (by omega)] at cz sz
        obtain ⟨g1, o1, rfl, b1⟩ := src_cell sz.s 0 (by decide) sz.b
        have b2 : w.cell? ⟨g1, o1, none⟩ = some (.int .u8 7) := b1
        clear b1 sz
        simp only [List.length_singleton] at cz
        go_wp2_with fail
        exact ⟨⟨i + 1, q, by omega, by go_num, rfl⟩, by simp [intOf]; omega⟩
    · have hlt' : ¬ (i : Int) < (N : Int) + 9 := by omega
      go_wp2_with fail
      go_ret
      exact ⟨rfl, (Fr.refl _ _).drewN q⟩
end Go.Proofs.YtocdnomfpgdglabDoor

namespace Go.Proofs.YtocdnomfpgdglabDoor
open Go.RowKit

theorem GI.pcsA {w wr : World} {es qs : List (List Nat)} {so : Option Addr} {sc : Nat} {svs : List Value} {ao : Option Addr} {ac : Nat} {avs : List Value} (h : GI w wr es qs so sc svs ao ac avs) : Pcs wr (.slice ao avs.length ac) avs qs := h.all.pcs
theorem GI.pcsS {w wr : World} {es : List (List Nat)} {so : Option Addr} {sc : Nat} {svs : List Value} {ao : Option Addr} {ac : Nat} {avs : List Value} (h : GI w wr es (gls es) so sc svs ao ac avs) (hl : svs.length = es.length + 9) (hb : ∀ e ∈ es, ∀ v ∈ e, v < 256) : Pcs wr (.slice so es.length sc) (svs.take es.length) es ∧ Cp (.slice so es.length sc) := by
  have hal : avs.length = es.length + 9 := by rw [← h.sln]; exact hl
  obtain ⟨gs, rfl⟩ : ∃ g, so = some ⟨g, 0, none⟩ := by
    rcases h.sho.2 with ⟨_, e⟩ | ⟨g, cap, cur, e, _⟩
    · omega
    · simp only [Value.slice.injEq] at e
      exact ⟨g, e.1⟩
  have hsc : svs.length ≤ sc := by
    rcases h.sho.2 with ⟨e, _⟩ | ⟨g, cap, cur, e, _, _, h3, _⟩
    · simp at e
    · simp only [Value.slice.injEq, true_and] at e
      rw [e.2]; exact h3
  have hlt := (h.sho.lt gs rfl).2
  have htl : (svs.take es.length).length = es.length := by rw [List.length_take]; omega
  refine ⟨⟨htl, .inr (.inr ⟨gs, 0, sc, by rw [htl], hlt, fun j v hv => ?_⟩), fun j v p hv hp => ?_, hb⟩, fun _ _ _ e => by cases e; omega⟩
  · rw [List.getElem?_take] at hv
    split at hv
    · rename_i hj
      rw [Nat.zero_add, h.sho.cellAt j (by omega)]; exact hv
    · cases hv
  · rw [List.getElem?_take] at hv
    split at hv
    · rename_i hj
      have hpe : es[j] = p := by
        rw [List.getElem?_eq_getElem hj] at hp
        exact Option.some.inj hp
      have hv' : avs[j]? = some (avs[j]'(by omega)) := List.getElem?_eq_getElem _
      obtain ⟨g, c, e1, e2⟩ := h.pre j v _ p hv hv' hp
      obtain ⟨bo, c', e3, hO⟩ := h.all.row j _ _ hv' (List.getElem?_eq_getElem (l := gls es) (by rw [gls_len]; omega))
      rw [gls_lo es j hj, hpe] at e3 hO
      rw [e2] at e3
      simp only [Value.slice.injEq] at e3
      obtain ⟨rfl, _, rfl⟩ := e3
      have hbp : ∀ v ∈ gdj p 9, v < 256 := gdj_lt (hb p (List.mem_of_getElem? hp)) 9
      have hs := hO.part 0 p.length (by rw [gdj_len]; omega) hbp
      have ee : ((gdj p 9).drop 0).take p.length = p := by rw [List.drop_zero, gdj, List.take_left]
      rw [ee, Nat.sub_zero] at hs
      rw [e1]
      exact ⟨hs.s, hs.cap, hs.lt⟩
    · cases hv
/-- The root, whatever the width. -/
def mr (j : Int) (es : List (List Nat)) : List Nat := if 1 ≤ j ∧ j ≤ 32 then mth j (es.map (lf j)) else []
theorem mr_lt (j : Int) (es : List (List Nat)) : ∀ v ∈ mr j es, v < 256 := by
  unfold mr
  split
  · exact mth_lt _ _ _ (Nat.le_refl _) (fun p hp => by
      obtain ⟨e, _, rfl⟩ := List.mem_map.1 hp
      exact lf_lt _ _)
  · intro v h; cases h
theorem mr_len (j : Int) (es : List (List Nat)) : (mr j es).length ≤ 32 := by
  unfold mr
  split
  · rename_i h
    obtain ⟨wi, rfl⟩ : ∃ k : Nat, j = (k : Int) := ⟨j.toNat, by omega⟩
    rw [mth_wid wi (by omega) (by omega) _ (map_lf_len wi (by omega) (by omega) es)]; omega
  · exact Nat.zero_le _
theorem mrootU (j : Int) (x : Value) (us : List Value) (es : List (List Nat)) (w : World) (hg : GS w) (ht : GT w) (hp : Pcs w x us es) (hB : ∀ e ∈ es, e.length ≤ 16000000) (hn : es.length ≤ 8000000) :
    Calls Tryd.prog 17 #[.int .i64 j, x] w fun e w' => ∃ yo yc, e = .returned (.slice yo (mr j es).length yc) ∧ OB w w' yo yc (mr j es) := by
  by_cases h : 1 ≤ j ∧ j ≤ 32
  · obtain ⟨wi, rfl⟩ : ∃ k : Nat, j = (k : Int) := ⟨j.toNat, by omega⟩
    have := mroot_in wi (by omega) (by omega) x us es w hg ht hp hB hn
    have hm := mth_wid wi (by omega) (by omega) _ (map_lf_len wi (by omega) (by omega) es)
    rw [mr, if_pos h, hm]
    exact this
  · refine (mroot_out j (by omega) x us es w hp hn).mono ?_
    rintro e w' ⟨rfl, hF⟩
    rw [mr, if_neg h]
    exact ⟨none, 0, rfl, own_nil _ _, hF⟩
set_option maxRecDepth 100000 in
theorem groot_out (i : Int) (x : Value) (w : World) (h : i < 1 ∨ 32 < i) : Calls Tryd.prog 68 #[.int .i64 i, x] w fun e w' => e = .returned (.slice none 0 0) ∧ w' = w := by
  go_enter Tryd.func68, Tryd.ntmps68
  go_wp2_with fail
  refine (may_no i w h).mono ?_
  rintro e w0 ⟨rfl, rfl⟩
  go_wp2_with fail
  go_ret
  exact ⟨rfl, rfl⟩
theorem grootU (j : Int) (x : Value) (vs : List Value) (es : List (List Nat)) (w : World) (hr : GR w) (hp : Pcs w x vs es) (hB : ∀ e ∈ es, e.length ≤ 4000000) (hn : es.length ≤ 8000000) :
    Calls Tryd.prog 68 #[.int .i64 j, x] w fun e w' => ∃ yo yc, e = .returned (.slice yo (mr j es).length yc) ∧ Sl w' (.slice yo (mr j es).length yc) (mr j es) ∧ Fr (fun _ => False) w w' := by
  by_cases h : 1 ≤ j ∧ j ≤ 32
  · rw [mr, if_pos h]
    exact groot_any j x vs es w hr hp hB hn h.1 h.2
  · refine (groot_out j x w (by omega)).mono ?_
    rintro e w' ⟨rfl, rfl⟩
    rw [mr, if_neg h]
    exact ⟨none, 0, rfl, sl_nil _, Fr.refl _ _⟩
theorem OB.ptr {w wr : World} {xo : Option Addr} {cp : Nat} {l : List Nat} (h : OB w wr xo cp l) : l = [] ∨ ∃ g, xo = some ⟨g, 0, none⟩ ∧ w.heap.size ≤ g ∧ g < wr.heap.size := by
  rcases h.own.2 with ⟨e, e2⟩ | ⟨g, cap, cur, e, _⟩
  · exact .inl (List.length_eq_zero_iff.1 e2)
  · simp only [Value.slice.injEq] at e
    obtain ⟨rfl, _⟩ := e
    exact .inr ⟨g, rfl, h.own.lt g rfl⟩
end Go.Proofs.YtocdnomfpgdglabDoor

namespace Go.Proofs.YtocdnomfpgdglabDoor
open Go.RowKit

theorem filt (t : Int) : ∀ zs : List Int, zs.Pairwise (· < ·) → zs.filter (fun z => decide (z < t)) = zs.take (zs.countP (· < t)) ∧ zs.filter (fun z => !decide (z < t)) = zs.drop (zs.countP (· < t)) := by
  intro zs
  induction zs with
  | nil => intro _; simp
  | cons a r ih =>
    intro h
    rw [List.pairwise_cons] at h
    obtain ⟨h1, h2⟩ := h
    obtain ⟨i1, i2⟩ := ih h2
    by_cases ha : a < t
    · rw [List.countP_cons_of_pos (by simpa using ha), List.filter_cons_of_pos (by simpa using ha), List.filter_cons_of_neg (by simpa using ha), List.take_succ_cons, List.drop_succ_cons, i1, i2]
      exact ⟨rfl, rfl⟩
    · have hr : ∀ z ∈ r, ¬ z < t := fun z hz => by have := h1 z hz; omega
      have hc : r.countP (· < t) = 0 := List.countP_eq_zero.2 (fun z hz => by simpa using hr z hz)
      rw [hc] at i1 i2
      rw [List.countP_cons_of_neg (by simpa using ha), List.filter_cons_of_neg (by simpa using ha), List.filter_cons_of_pos (by simpa using ha), hc, i1, i2]
      exact ⟨rfl, rfl⟩
theorem pa_map (f : Int) (k : Int) (zs : List Int) : pa k (zs.map (· - f)) = (zs.filter (fun z => decide (z < f + k))).map (· - f) := by
  rw [pa, List.filter_map]
  congr 1
  apply List.filter_congr
  intro z _
  simp only [Function.comp]
  congr 1
  exact propext ⟨fun h => by omega, fun h => by omega⟩
theorem pb_map (f : Int) (k : Int) (zs : List Int) : pb k (zs.map (· - f)) = (zs.filter (fun z => !decide (z < f + k))).map (· - (f + k)) := by
  rw [pb, List.filter_map, List.map_map]
  have e : (zs.filter ((fun z => !decide (z < k)) ∘ fun x => x - f)) = zs.filter (fun z => !decide (z < f + k)) := by
    apply List.filter_congr
    intro z _
    simp only [Function.comp]
    congr 2
    exact propext ⟨fun h => by omega, fun h => by omega⟩
  rw [e]
  apply List.map_congr_left
  intro z _
  simp only [Function.comp]
  omega
theorem mnyG_eq (wi : Nat) (L : List (List Nat)) (m : Nat) : ∀ (f n : Nat) (zs : List Int), n ≤ m → f + n ≤ L.length → zs.Pairwise (· < ·) → mnyG wi (blk L f n) (zs.map (· - (f : Int))) = mny wi L f n zs := by
  induction m with
  | zero =>
    intro f n zs h hL hs
    by_cases hz : zs = []
    · subst hz; rw [mny_nil]; exact mnyG_nil _ _
    · rw [mny_one hz (by omega), mnyG_one (by simpa using hz) (by rw [blk_len L f n hL]; omega)]
  | succ m ih =>
    intro f n zs h hL hs
    by_cases hz : zs = []
    · subst hz; rw [mny_nil]; exact mnyG_nil _ _
    · have hlen := blk_len L f n hL
      by_cases h2 : n < 2
      · rw [mny_one hz h2, mnyG_one (by simpa using hz) (by rw [hlen]; omega)]
      · have h3 := hf_lt n (by omega)
        have h4 := hf_pos n
        rw [mny_two hz (by omega), mnyG_two (by simpa using hz) (by omega), hlen, blk_take _ _ _ _ (by omega), blk_drop, pa_map, pb_map]
        have e : (f : Int) + ((hf n : Nat) : Int) = ((f + hf n : Nat) : Int) := by omega
        rw [e]
        obtain ⟨e1, e2⟩ := filt ((f + hf n : Nat) : Int) zs hs
        rw [e1, e2, ih f (hf n) _ (by omega) (by omega) (hs.sublist (List.take_sublist _ _)), ih (f + hf n) (n - hf n) _ (by omega) (by omega) (hs.sublist (List.drop_sublist _ _))]
theorem mnyG_top (wi : Nat) (L : List (List Nat)) (zs : List Int) (hs : zs.Pairwise (· < ·)) : mnyG wi L zs = mny wi L 0 L.length zs := by
  have := mnyG_eq wi L L.length 0 L.length zs (Nat.le_refl _) (by omega) hs
  rw [blk_all] at this
  rw [← this]
  congr 1
  simp
theorem mny_wid (wi : Nat) (hw1 : 1 ≤ wi) (hw32 : wi ≤ 32) (L : List (List Nat)) (hL : ∀ p ∈ L, p.length = wi) (m : Nat) : ∀ f n zs, n ≤ m → ∀ p ∈ mny wi L f n zs, p.length = wi := by
  induction m with
  | zero =>
    intro f n zs h p hp
    by_cases hz : zs = []
    · rw [hz, mny_nil] at hp; simp at hp; subst hp; exact mth_wid wi hw1 hw32 _ (fun p hp => hL p (blk_mem _ _ _ p hp))
    · rw [mny_one hz (by omega)] at hp; cases hp
  | succ m ih =>
    intro f n zs h p hp
    by_cases hz : zs = []
    · rw [hz, mny_nil] at hp; simp at hp; subst hp; exact mth_wid wi hw1 hw32 _ (fun p hp => hL p (blk_mem _ _ _ p hp))
    · by_cases h2 : n < 2
      · rw [mny_one hz h2] at hp; cases hp
      · have h3 := hf_lt n (by omega)
        have h4 := hf_pos n
        rw [mny_two hz (by omega)] at hp
        rcases List.mem_append.1 hp with hp | hp
        · exact ih _ _ _ (by omega) p hp
        · exact ih _ _ _ (by omega) p hp
set_option maxRecDepth 100000 in
set_option maxHeartbeats 1000000 in
theorem gmany_in (wi : Nat) (hw1 : 1 ≤ wi) (hw32 : wi ≤ 32) (x y : Value) (vs : List Value) (es : List (List Nat)) (zs : List Int) (w : World) (hr : GR w) (hp : Pcs w x vs es) (hB : ∀ e ∈ es, e.length ≤ 4000000) (hn : es.length ≤ 4000000) (hy : Ints w y zs) (hzl : zs.length ≤ 4000000) (hri : rsF es.length 0 zs = true) :
    Calls Tryd.prog 71 #[.int .i64 wi, x, y] w fun e w' => ∃ yo yc us, e = .returned (.tuple #[.slice yo (mny wi (es.map (lf wi)) 0 es.length zs).length yc, .int .i64 0]) ∧ Pcs w' (.slice yo (mny wi (es.map (lf wi)) 0 es.length zs).length yc) us (mny wi (es.map (lf wi)) 0 es.length zs) ∧ Fr (fun _ => False) w w' := by
  have hlv := gleaves_C wi x vs es w hr hp hB (by omega)
  have hll : (es.map (lf (wi : Int))).length = es.length := List.length_map _
  obtain ⟨s1, s2⟩ := rsF_ok es.length zs 0 hri
  have hgr := grising_any y zs es.length w hy (by omega) (fun z hz => by have := s2 z hz; omega)
  rw [hri] at hgr
  have hin : ∀ w' (x : Value) us, GR w' → Pcs w' x us (es.map (lf wi)) → Cp x → Ints w' y zs → Calls Tryd.prog 107 #[.int .i64 wi, x, y] w' fun e w'' => ∃ yo yc us, e = .returned (.slice yo (mny wi (es.map (lf wi)) 0 es.length zs).length yc) ∧ Pcs w'' (.slice yo (mny wi (es.map (lf wi)) 0 es.length zs).length yc) us (mny wi (es.map (lf wi)) 0 es.length zs) ∧ Fr (fun _ => False) w' w'' := fun w' x us h1 h2 h3 h4 => by
    have hq : ∀ u ∈ us, Bk u (fun g => g < w'.heap.size) := fun u hu => by
      obtain ⟨j, hj, rfl⟩ := List.getElem_of_mem hu
      have hj2 : j < (es.map (lf (wi : Int))).length := by rw [← h2.len]; exact hj
      rcases (h2.src j us[j] _ (List.getElem?_eq_getElem hj) (List.getElem?_eq_getElem hj2)).2.2 with h | h
      · have := map_lf_len wi hw1 hw32 es _ (List.getElem_mem hj2)
        rw [h] at this
        simp at this
        omega
      · exact h
    have := manyQ_any w'.heap.size wi _ (es.map (lf wi)) zs x y us w' (Nat.le_refl _) (by omega) h1 h2 h3 (fun p hp => by have := map_lf_len wi hw1 hw32 es p hp; omega) h4 (by omega) (fun z hz => by have := s2 z hz; omega) (fun hz => by
      rcases zs with _ | ⟨a, r⟩
      · exact absurd rfl hz
      · have := s2 a (by simp); omega) (Nat.le_refl _) hq
    unfold ManyQ at this
    rw [mnyG_top wi _ zs s1, hll] at this
    refine this.mono ?_
    rintro e w'' ⟨ao, cp, us, rfl, hV, _⟩
    have hpc := hV.pcs
    rw [hV.len] at hpc ⊢
    exact ⟨ao, cp, us, rfl, hpc, hV.own.fr⟩
  generalize mny wi (es.map (lf wi)) 0 es.length zs = V at *
  obtain ⟨xo, xc, rfl⟩ := hp.form
  obtain ⟨yo, yc, rfl⟩ := hy.form
  have hri2 := hide hy
  have hlv2 := fun w' (hf : Fr (fun _ => False) w w') => gleaves_C wi _ vs es w' (hr.fr0 hf) (hp.fr0 hf) hB (by omega)
  have HC := hide (And.intro hlv2 (And.intro hin (And.intro hr hgr)))
  have hj : 1 ≤ (wi : Int) ∧ (wi : Int) ≤ 32 := by omega
  have HJ := hide hj
  clear hlv hlv2 hin hr hp hB hn hj hgr hy hzl hri s1 s2
  generalize es.length = N at *
  generalize hZ : zs.length = Z at *
  go_enter Tryd.func71, Tryd.ntmps71
  go_wp2_with fail
  refine (may_yes wi _ (unhide HJ).1 (unhide HJ).2).mono ?_
  rintro e w0 ⟨rfl, rfl⟩
  go_wp2_with fail
  refine (unhide HC).2.2.2.mono ?_
  rintro e w1 ⟨rfl, hF⟩
  have H0 := hide hF
  clear hF
  go_wp2_with fail
  refine ((unhide HC).1 w1 (unhide H0)).mono ?_
  rintro e w2 ⟨ao, cp, us, rfl, hP, hF, hC⟩
  have H1 := hide (And.intro hP (And.intro ((unhide H0).trans hF (fun _ _ h => h)) hC))
  clear hP hF hC
  go_wp2_with fail
  refine ((unhide HC).2.1 w2 _ us ((unhide HC).2.2.1.fr0 (unhide H1).2.1) (unhide H1).1 (unhide H1).2.2 ((unhide hri2).fr0 (unhide H1).2.1)).mono ?_
  rintro e w3 ⟨yo, yc, us2, rfl, hP, hF⟩
  have H2 := hide (And.intro hP ((unhide H1).2.1.trans hF (fun _ _ h => h)))
  clear hP hF
  go_wp2_with fail
  go_returns
  first | exact ⟨yo, yc, us2, rfl, (unhide H2).1, (unhide H2).2⟩ | exact ⟨yo, yc, rfl, ⟨us2, (unhide H2).1⟩, (unhide H2).2⟩
set_option maxRecDepth 100000 in
set_option maxHeartbeats 1000000 in
theorem gmany_no (j : Int) (x y : Value) (vs : List Value) (es : List (List Nat)) (zs : List Int) (w : World) (hp : Pcs w x vs es) (hy : Ints w y zs) (hl : zs.length ≤ 4000000) (hb : ∀ z ∈ zs, -9223372036854775808 ≤ z) (h : (j < 1 ∨ 32 < j) ∨ rsF es.length 0 zs = false) :
    Calls Tryd.prog 71 #[.int .i64 j, x, y] w fun e w' => e = .returned (.tuple #[.slice none 0 0, .int .i64 1]) ∧ Fr (fun _ => False) w w' := by
  have hgr := grising_any y zs es.length w hy (by omega) hb
  obtain ⟨xo, xc, rfl⟩ := hp.form
  obtain ⟨yo, yc, rfl⟩ := hy.form
  clear hp hy hl hb
  by_cases hj : j < 1 ∨ 32 < j
  · clear h hgr
    generalize es.length = N at *
    generalize zs.length = Z at *
    go_enter Tryd.func71, Tryd.ntmps71
    go_wp2_with fail
    refine (may_no j _ hj).mono ?_
    rintro e w0 ⟨rfl, rfl⟩
    go_wp2_with fail
    go_returns
    exact ⟨rfl, Fr.refl _ _⟩
  · have HJ := hide (show 1 ≤ j ∧ j ≤ 32 by omega)
    rw [h.resolve_left hj] at hgr
    have HG := hide hgr
    clear h hj hgr
    generalize es.length = N at *
    generalize zs.length = Z at *
    go_enter Tryd.func71, Tryd.ntmps71
    go_wp2_with fail
    refine (may_yes j _ (unhide HJ).1 (unhide HJ).2).mono ?_
    rintro e w0 ⟨rfl, rfl⟩
    go_wp2_with fail
    refine (unhide HG).mono ?_
    rintro e w1 ⟨rfl, hF⟩
    have H0 := hide hF
    clear hF
    go_wp2_with fail
    go_returns
    exact ⟨rfl, unhide H0⟩
/-- What Many tells, whatever it is asked. -/
def okM (j : Int) (es : List (List Nat)) (zs : List Int) : Prop := 1 ≤ j ∧ j ≤ 32 ∧ rsF es.length 0 zs = true
instance (j : Int) (es : List (List Nat)) (zs : List Int) : Decidable (okM j es zs) := inferInstanceAs (Decidable (_ ∧ _))
def plM (j : Int) (es : List (List Nat)) (zs : List Int) : List (List Nat) := if okM j es zs then mny j.toNat (es.map (lf j)) 0 es.length zs else []
def pcM (j : Int) (es : List (List Nat)) (zs : List Int) : Int := if okM j es zs then 0 else 1
theorem plM_ok (j : Int) (es : List (List Nat)) (zs : List Int) : (∀ p ∈ plM j es zs, p.length ≤ 1000) ∧ (plM j es zs).length ≤ es.length + 1 := by
  rw [plM]
  split
  · rename_i h
    obtain ⟨h1, h2, h3⟩ := h
    obtain ⟨wi, rfl⟩ : ∃ k : Nat, j = (k : Int) := ⟨j.toNat, by omega⟩
    refine ⟨fun p hp => ?_, mny_le _ _ _ _ _⟩
    have := mny_wid wi (by omega) (by omega) _ (map_lf_len wi (by omega) (by omega) es) _ _ _ _ (Nat.le_refl _) p hp
    omega
  · exact ⟨fun p hp => (by cases hp), Nat.zero_le _⟩
theorem gmanyU (j : Int) (x y : Value) (vs : List Value) (es : List (List Nat)) (zs : List Int) (w : World) (hr : GR w) (hp : Pcs w x vs es) (hB : ∀ e ∈ es, e.length ≤ 4000000) (hn : es.length ≤ 4000000) (hy : Ints w y zs) (hl : zs.length ≤ 4000000) (hb : ∀ z ∈ zs, -9223372036854775808 ≤ z) :
    Calls Tryd.prog 71 #[.int .i64 j, x, y] w fun e w' => ∃ yo yc us, e = .returned (.tuple #[.slice yo (plM j es zs).length yc, .int .i64 (pcM j es zs)]) ∧ Pcs w' (.slice yo (plM j es zs).length yc) us (plM j es zs) ∧ Fr (fun _ => False) w w' := by
  by_cases h : okM j es zs
  · rw [pcM, plM, if_pos h, if_pos h]
    obtain ⟨h1, h2, h3⟩ := h
    obtain ⟨wi, rfl⟩ : ∃ k : Nat, j = (k : Int) := ⟨j.toNat, by omega⟩
    exact gmany_in wi (by omega) (by omega) x y vs es zs w hr hp hB hn hy hl h3
  · rw [pcM, plM, if_neg h, if_neg h]
    refine (gmany_no j x y vs es zs w hp hy hl hb (by
      unfold okM at h
      by_cases hj : j < 1 ∨ 32 < j
      · exact .inl hj
      · right
        cases hc : rsF es.length 0 zs
        · rfl
        · exact absurd ⟨by omega, by omega, hc⟩ h)).mono ?_
    rintro e w' ⟨rfl, hF⟩
    exact ⟨none, 0, [], rfl, pcs_nil _, hF⟩
theorem mmanyU (j : Int) (x y : Value) (vs : List Value) (es : List (List Nat)) (zs : List Int) (w : World) (hg : GS w) (ht : GT w) (hp : Pcs w x vs es) (hB : ∀ e ∈ es, e.length ≤ 16000000) (hn : es.length ≤ 8000000) (hy : Ints w y zs) (hl : zs.length ≤ 4000000) (hb : ∀ z ∈ zs, -9223372036854775808 ≤ z) :
    Calls Tryd.prog 25 #[.int .i64 j, x, y] w fun e w' => ∃ ao cp us, e = .returned (.tuple #[.slice ao us.length cp, .int .i64 (pcM j es zs)]) ∧ OL w w' ao cp us (plM j es zs) := by
  by_cases h : okM j es zs
  · rw [pcM, plM, if_pos h, if_pos h]
    obtain ⟨h1, h2, h3⟩ := h
    obtain ⟨wi, rfl⟩ : ∃ k : Nat, j = (k : Int) := ⟨j.toNat, by omega⟩
    exact mmany_in wi (by omega) (by omega) x y vs es zs w hg ht hp hB hn hy (by omega) h3
  · rw [pcM, plM, if_neg h, if_neg h]
    refine (mmany_no j x y vs es zs w hg hp hB hn hy (by omega) hb (by
      unfold okM at h
      by_cases hj : j < 1 ∨ 32 < j
      · exact .inl hj
      · right
        cases hc : rsF es.length 0 zs
        · rfl
        · exact absurd ⟨by omega, by omega, hc⟩ h)).mono ?_
    rintro e w' ⟨rfl, hF⟩
    exact ⟨none, 0, [], rfl, (OL.nil w).fr0 hF⟩
end Go.Proofs.YtocdnomfpgdglabDoor

namespace Go.Proofs.YtocdnomfpgdglabDoor
open Go.RowKit

/-- The root that leaves' hashes at places and further hashes give, and what is left of these. -/
def gth (wi : Nat) (f n : Nat) (zs : List Int) (ls hs : List (List Nat)) : Option (List Nat × List (List Nat)) :=
  if zs = [] then (match hs with
    | [] => none
    | h :: r => some (h, r))
  else if _h : n < 2 then some (ls.headD [], hs)
  else (gth wi f (hf n) (zs.take (zs.countP (· < ((f + hf n : Nat) : Int)))) (ls.take (zs.countP (· < ((f + hf n : Nat) : Int)))) hs).bind fun a =>
    (gth wi (f + hf n) (n - hf n) (zs.drop (zs.countP (· < ((f + hf n : Nat) : Int)))) (ls.drop (zs.countP (· < ((f + hf n : Nat) : Int)))) a.2).bind fun b => some (nd wi a.1 b.1, b.2)
termination_by n
decreasing_by
  · exact hf_lt n (by omega)
  · have := hf_pos n; omega
theorem gth_nil (wi f n : Nat) (ls : List (List Nat)) : gth wi f n [] ls [] = none := by rw [gth, if_pos rfl]
theorem gth_next (wi f n : Nat) (ls : List (List Nat)) (h : List Nat) (r : List (List Nat)) : gth wi f n [] ls (h :: r) = some (h, r) := by rw [gth, if_pos rfl]
theorem gth_one {wi f n : Nat} {zs : List Int} {ls hs : List (List Nat)} (hz : zs ≠ []) (h : n < 2) : gth wi f n zs ls hs = some (ls.headD [], hs) := by rw [gth.eq_def, if_neg hz, dif_pos h]
theorem gth_two {wi f n : Nat} {zs : List Int} {ls hs : List (List Nat)} (hz : zs ≠ []) (h : 2 ≤ n) : gth wi f n zs ls hs = (gth wi f (hf n) (zs.take (zs.countP (· < ((f + hf n : Nat) : Int)))) (ls.take (zs.countP (· < ((f + hf n : Nat) : Int)))) hs).bind fun a =>
    (gth wi (f + hf n) (n - hf n) (zs.drop (zs.countP (· < ((f + hf n : Nat) : Int)))) (ls.drop (zs.countP (· < ((f + hf n : Nat) : Int)))) a.2).bind fun b => some (nd wi a.1 b.1, b.2) := by
  conv => lhs; rw [gth.eq_def, if_neg hz, dif_neg (by omega)]
theorem cnt_le (t : Int) (zs : List Int) : zs.countP (· < t) ≤ zs.length := List.countP_le_length
/-- Its root is as wide as the hashes are; what is left is an end of them. -/
theorem gth_wid (wi : Nat) (hw1 : 1 ≤ wi) (hw32 : wi ≤ 32) (m : Nat) : ∀ f n zs (ls hs : List (List Nat)) t r, n ≤ m → ls.length = zs.length → (∀ p ∈ ls, p.length = wi) → (∀ p ∈ hs, p.length = wi) → gth wi f n zs ls hs = some (t, r) → t.length = wi ∧ ∃ j, j ≤ hs.length ∧ r = hs.drop j := by
  induction m with
  | zero =>
    intro f n zs ls hs t r h hl hlw hhw he
    by_cases hz : zs = []
    · subst hz
      rcases hs with _ | ⟨a, b⟩
      · rw [gth_nil] at he; cases he
      · rw [gth_next] at he; cases he
        exact ⟨hhw _ (by simp), 1, by simp, rfl⟩
    · rw [gth_one hz (by omega)] at he; cases he
      refine ⟨?_, 0, Nat.zero_le _, rfl⟩
      rcases ls with _ | ⟨a, b⟩
      · exact absurd (List.length_eq_zero_iff.1 hl.symm) hz
      · exact hlw a (by simp)
  | succ m ih =>
    intro f n zs ls hs t r h hl hlw hhw he
    by_cases hz : zs = []
    · subst hz
      rcases hs with _ | ⟨a, b⟩
      · rw [gth_nil] at he; cases he
      · rw [gth_next] at he; cases he
        exact ⟨hhw _ (by simp), 1, by simp, rfl⟩
    · by_cases h2 : n < 2
      · rw [gth_one hz h2] at he; cases he
        refine ⟨?_, 0, Nat.zero_le _, rfl⟩
        rcases ls with _ | ⟨a, b⟩
        · exact absurd (List.length_eq_zero_iff.1 hl.symm) hz
        · exact hlw a (by simp)
      · rw [gth_two hz (by omega)] at he
        have h3 := hf_lt n (by omega)
        have h4 := hf_pos n
        have hc := cnt_le ((f + hf n : Nat) : Int) zs
        generalize zs.countP (· < ((f + hf n : Nat) : Int)) = C at *
        obtain ⟨a, ha, he⟩ := Option.bind_eq_some_iff.1 he
        obtain ⟨b, hb, he⟩ := Option.bind_eq_some_iff.1 he
        cases he
        obtain ⟨-, j, hj, e⟩ := ih f (hf n) _ _ hs a.1 a.2 (by omega) (by rw [List.length_take, List.length_take, hl]) (fun p hp => hlw p (List.mem_of_mem_take hp)) hhw ha
        obtain ⟨-, k, hk, e2⟩ := ih (f + hf n) (n - hf n) _ _ a.2 b.1 b.2 (by omega) (by rw [List.length_drop, List.length_drop, hl]) (fun p hp => hlw p (List.mem_of_mem_drop hp)) (fun p hp => by rw [e] at hp; exact hhw p (List.mem_of_mem_drop hp)) hb
        refine ⟨nd_len wi hw1 hw32 _ _, j + k, ?_, ?_⟩
        · rw [e, List.length_drop] at hk; omega
        · rw [e2, e, List.drop_drop]
/-- What is told is taken: the hashes for places, with others behind them. -/
theorem gth_mny (wi : Nat) (L : List (List Nat)) (m : Nat) : ∀ f n zs (rest : List (List Nat)), n ≤ m → f + n ≤ L.length → zs.Pairwise (· < ·) → (∀ z ∈ zs, (f : Int) ≤ z ∧ z < ((f + n : Nat) : Int)) → gth wi f n zs (zs.map fun z => L.getD z.toNat []) (mny wi L f n zs ++ rest) = some (mth wi (blk L f n), rest) := by
  induction m with
  | zero =>
    intro f n zs rest h hL hs hb
    have hz : zs = [] := by
      rcases zs with _ | ⟨a, r⟩
      · rfl
      · have := hb a (by simp); omega
    subst hz
    rw [mny_nil]; exact gth_next _ _ _ _ _ _
  | succ m ih =>
    intro f n zs rest h hL hs hb
    by_cases hz : zs = []
    · subst hz; rw [mny_nil]; exact gth_next _ _ _ _ _ _
    · by_cases h2 : n < 2
      · rw [mny_one hz h2, gth_one hz h2]
        rcases zs with _ | ⟨a, r⟩
        · exact absurd rfl hz
        · have h1 := hb a (by simp)
          have hn : n = 1 := by omega
          subst hn
          have ha : a.toNat = f := by omega
          simp only [List.map_cons, List.headD_cons, List.nil_append, ha]
          have hfl : f < L.length := by omega
          rw [blk, List.drop_eq_getElem_cons hfl, List.take_succ_cons, List.take_zero, mth_one]
          rw [List.getD, List.getElem?_eq_getElem hfl]; rfl
      · have h3 := hf_lt n (by omega)
        have h4 := hf_pos n
        rw [mny_two hz (by omega), gth_two hz (by omega)]
        obtain ⟨s1, s2⟩ := count_split ((f + hf n : Nat) : Int) zs hs
        generalize zs.countP (· < ((f + hf n : Nat) : Int)) = C at *
        rw [← List.map_take, ← List.map_drop, List.append_assoc, ih f (hf n) _ _ (by omega) (by omega) (hs.sublist (List.take_sublist _ _)) (fun z hz => ⟨(hb z (List.mem_of_mem_take hz)).1, s1 z hz⟩)]
        rw [Option.bind_some]
        simp only
        rw [ih (f + hf n) (n - hf n) _ _ (by omega) (by omega) (hs.sublist (List.drop_sublist _ _)) (fun z hz => ⟨s2 z hz, by have := (hb z (List.mem_of_mem_drop hz)).2; omega⟩)]
        rw [Option.bind_some]
        simp only
        rw [blk_halves L f n (by omega) hL wi]
/-- Nothing is left, and what comes out is the root. -/
def gEnd (G : Option (List Nat × List (List Nat))) (root : List Nat) : Bool :=
  match G with
  | some (t, []) => decide (t = root)
  | _ => false
/-- Whether CheckMany takes hashes. -/
def chkM (j n : Int) (ls : List (List Nat)) (zs : List Int) (hs : List (List Nat)) (root : List Nat) : Bool :=
  decide (1 ≤ j ∧ j ≤ 32) && (decide (0 ≤ n) && (rsF n 0 zs && (decide (ls.length = zs.length) && (decide ((root.length : Int) = j) && (wdq j ls && (wdq j hs &&
    gEnd (gth j.toNat 0 n.toNat zs ls hs) root))))))
theorem chkM_true {j n : Int} {ls : List (List Nat)} {zs : List Int} {hs : List (List Nat)} {root : List Nat} (h1 : 1 ≤ j) (h2 : j ≤ 32) (h3 : 0 ≤ n) (h4 : rsF n 0 zs = true) (h5 : ls.length = zs.length) (h6 : (root.length : Int) = j) (h7 : wdq j ls = true) (h8 : wdq j hs = true) : chkM j n ls zs hs root = gEnd (gth j.toNat 0 n.toNat zs ls hs) root := by
  rw [chkM, decide_eq_true ⟨h1, h2⟩, decide_eq_true h3, h4, decide_eq_true h5, decide_eq_true h6, h7, h8]
  simp only [Bool.true_and]
theorem chkM_false {j n : Int} {ls : List (List Nat)} {zs : List Int} {hs : List (List Nat)} {root : List Nat} (h : ¬ (1 ≤ j ∧ j ≤ 32 ∧ 0 ≤ n ∧ rsF n 0 zs = true ∧ ls.length = zs.length ∧ (root.length : Int) = j ∧ wdq j ls = true ∧ wdq j hs = true)) : chkM j n ls zs hs root = false := by
  cases hq : chkM j n ls zs hs root with
  | false => rfl
  | true =>
    refine absurd ?_ h
    unfold chkM at hq
    simp only [Bool.and_eq_true, decide_eq_true_eq] at hq
    obtain ⟨⟨a1, a2⟩, a3, a4, a5, a6, a7, a8, -⟩ := hq
    exact ⟨a1, a2, a3, a4, a5, a6, a7, a8⟩
end Go.Proofs.YtocdnomfpgdglabDoor

namespace Go.Proofs.YtocdnomfpgdglabDoor
open Go.RowKit

theorem Pcs.zero {w : World} (a : Addr) (c : Nat) : Pcs w (.slice (some a) 0 c) [] [] := ⟨rfl, .inr (.inl ⟨_, _, rfl, rfl⟩), (fun j v p h => by simp at h), (fun p h => by cases h)⟩
/-- What lies behind the first k. -/
theorem Pcs.rest {w : World} {g o n c : Nat} {vs : List Value} {ps : List (List Nat)} (h : Pcs w (.slice (some ⟨g, o, none⟩) n c) vs ps) (hn : n = ps.length) (k : Nat) (hk : k ≤ n) : Pcs w (.slice (some ⟨g, o + k, none⟩) (n - k) (c - k)) (vs.drop k) (ps.drop k) := by
  by_cases e : k = n
  · subst e
    have h1 : ps.drop k = [] := List.drop_eq_nil_of_le (by omega)
    have h2 : vs.drop k = [] := List.drop_eq_nil_of_le (by rw [h.len]; omega)
    rw [h1, h2, Nat.sub_self]
    exact Pcs.zero _ _
  · exact h.drop k (by omega)
/-- A manyClaim at mb: its width, the hashes not used yet; W0: the world in which these lay already. -/
structure McAt (W0 w : World) (mb wi : Nat) (hs : List (List Nat)) : Prop where
  fr : Fr (fun _ => False) W0 w
  lo : W0.heap.size ≤ mb
  c0 : w.cell? ⟨mb, 0, none⟩ = some (.int .i64 wi)
  fz : w.frozen? ⟨mb, 1, none⟩ = false
  c1 : ∃ x us, w.cell? ⟨mb, 1, none⟩ = some x ∧ Pcs W0 x us hs ∧ Cp x
theorem McAt.fr0 {W0 w w' : World} {mb wi : Nat} {hs : List (List Nat)} (h : McAt W0 w mb wi hs) (hf : Fr (fun _ => False) w w') : McAt W0 w' mb wi hs := by
  obtain ⟨x, us, c1, hp, hc⟩ := h.c1
  have hl := lt_of_cell h.c0
  exact ⟨h.fr.trans hf (fun _ _ h => h), h.lo, (hf.cell hl (fun h => h)).trans h.c0, (hf.frozen (p := ⟨mb, 1, none⟩) hl (fun h => h)).trans h.fz, x, us, (hf.cell (p := ⟨mb, 1, none⟩) hl (fun h => h)).trans c1, hp, hc⟩
/-- The hashes move on. -/
theorem McAt.move {W0 w : World} {mb wi : Nat} {hs rs : List (List Nat)} (h : McAt W0 w mb wi hs) (y : Value) (us : List Value) (hp : Pcs W0 y us rs) (hc : Cp y) : McAt W0 (w.setCell ⟨mb, 1, none⟩ y) mb wi rs ∧ Fr (fun g => g = mb) w (w.setCell ⟨mb, 1, none⟩ y) := by
  obtain ⟨x, _, c1, _, _⟩ := h.c1
  refine ⟨⟨h.fr.setCell (.inr h.lo) _, h.lo, ?_, by rw [World.frozen?_setCell]; exact h.fz, y, us, World.cell?_setCell_same' _ _ _ (by rw [c1]; rfl), hp, hc⟩, (Fr.refl (fun g => g = mb) w).setCell (p := ⟨mb, 1, none⟩) (.inl rfl) y⟩
  rw [World.cell?_setCell_other _ _ _ _ (by intro e; injection e with e1 e2; omega)]
  exact h.c0
set_option maxRecDepth 100000 in
set_option maxHeartbeats 1000000 in
theorem mnext_no (W0 w : World) (mb wi : Nat) (h : McAt W0 w mb wi []) : Calls Tryd.prog 99 #[.pointer (some ⟨mb, 0, none⟩)] w fun e w' => e = .returned (.slice none 0 0) ∧ Fr (fun _ => False) w w' := by
  obtain ⟨x, us, c1, hp, hc⟩ := h.c1
  obtain ⟨xo, xc, rfl⟩ := hp.form
  simp only [List.length_nil] at c1
  clear hp hc h
  go_enter Tryd.func99, Tryd.ntmps99
  go_wp2_with fail
  go_ret
  exact ⟨rfl, Fr.refl _ _⟩
set_option maxRecDepth 100000 in
set_option maxHeartbeats 1000000 in
theorem mnext_yes (W0 w : World) (mb wi : Nat) (p : List Nat) (r : List (List Nat)) (h : McAt W0 w mb wi (p :: r)) : Calls Tryd.prog 99 #[.pointer (some ⟨mb, 0, none⟩)] w fun e w' => ∃ vo vc, e = .returned (.slice vo p.length vc) ∧ Sl W0 (.slice vo p.length vc) p ∧ McAt W0 w' mb wi r ∧ Fr (fun g => g = mb) w w' := by
  obtain ⟨x, us, c1, hp, hc⟩ := h.c1
  obtain ⟨xo, xc, rfl⟩ := hp.form
  obtain ⟨g, o, vo, vc, rfl, hcell, hsl⟩ := hp.nth h.fr 0 (by simp)
  obtain ⟨g', o', vo', vc', e', hcell', hsl'⟩ := hp.nth (Fr.refl _ W0) 0 (by simp)
  cases e'
  have ev : Value.slice vo' p.length vc' = .slice vo p.length vc := by
    have h1 := (h.fr.cell (lt_of_cell hcell') (fun h => h)).trans hcell'
    have h2 := h1.symm.trans hcell
    simpa using h2
  simp only [List.getElem_cons_zero, Nat.add_zero] at hcell hsl hsl' hcell'
  have hcap : r.length + 1 ≤ xc := hc _ _ _ rfl
  have hz := h.fz
  have q0 : (((r.length : Int) + 1) == 0) = false := beq_false_of_ne (by omega)
  have q1 : ¬ (r.length : Int) + 1 = 0 := by omega
  have q2 : (0 : Int) < (r.length : Int) + 1 := by omega
  have q3 : (1 : Int) ≤ (r.length : Int) + 1 := by omega
  have e1 : (r.length : Int) + 1 - 1 = (r.length : Int) := by omega
  rw [List.length_cons] at c1
  have hS : Sl W0 (.slice vo p.length vc) p := by rw [← ev]; exact hsl'
  by_cases h1 : xc = 1
  · have hr0 : r = [] := List.length_eq_zero_iff.1 (by omega)
    subst h1 hr0
    have HM := hide (And.intro hS (h.move (.slice (some ⟨g, o, none⟩) 0 0) [] (Pcs.zero _ _) (fun _ _ _ e => by cases e; exact Nat.le_refl _)))
    simp only [List.length_nil, Nat.zero_add] at *
    clear hS h hp hc hsl hsl' hcell' ev
    generalize p.length = PL at *
    go_enter Tryd.func99, Tryd.ntmps99
    go_wp2_with fail
    go_ret
    exact ⟨vo, vc, rfl, (unhide HM).1, (unhide HM).2.1, (unhide HM).2.2⟩
  · have hP := hp.rest rfl 1 (by simp)
    simp only [List.drop_succ_cons, List.drop_zero, List.length_cons, Nat.add_sub_cancel] at hP
    have HM := hide (And.intro hS (h.move _ _ hP (fun _ _ _ e => by cases e; omega)))
    have q4 : ¬ xc = 1 := h1
    have q5 : ((xc : Int) - 1).toNat = xc - 1 := by omega
    clear hS h hp hc hsl hsl' hcell' ev hP
    generalize p.length = PL at *
    generalize r.length = RL at *
    go_enter Tryd.func99, Tryd.ntmps99
    go_wp2_with fail
    go_ret
    exact ⟨vo, vc, rfl, (unhide HM).1, (unhide HM).2.1, (unhide HM).2.2⟩
end Go.Proofs.YtocdnomfpgdglabDoor

namespace Go.Proofs.YtocdnomfpgdglabDoor
open Go.RowKit

theorem Sl.at1 {w : World} {xo : Option Addr} {n c : Nat} {l : List Nat} (h : Sl w (.slice xo n c) l) (h0 : 0 < l.length) : ∃ g o, xo = some ⟨g, o, none⟩ ∧ g < w.heap.size := by
  rcases h.s with ⟨e, rfl⟩ | ⟨g, o, c', e, _⟩ | ⟨a, c', e, rfl⟩
  · simp at h0
  · simp only [Value.slice.injEq] at e
    obtain ⟨rfl, _, rfl⟩ := e
    refine ⟨g, o, rfl, (h.lt.resolve_left (fun e => by rw [e] at h0; simp at h0)) g o _ _ rfl⟩
  · simp at h0
/-- What manyClaim.top tells of a part. -/
def TpSays (W0 : World) (wi mb f n : Nat) (zs : List Int) (ls : List (List Nat)) (lv pv : Value) : Prop :=
  ∀ (hs : List (List Nat)) (w : World), McAt W0 w mb wi hs → (∀ p ∈ hs, p.length = wi) → Calls Tryd.prog 65 #[.pointer (some ⟨mb, 0, none⟩), sv f n, lv, pv] w fun e w' =>
    (∀ t r, gth wi f n zs ls hs = some (t, r) → ∃ yo yc, e = .returned (.slice (some yo) wi yc) ∧ Sl w' (.slice (some yo) wi yc) t ∧ Bk (.slice (some yo) wi yc) (fun g => g ≠ mb) ∧ McAt W0 w' mb wi r) ∧
    (gth wi f n zs ls hs = none → e = .returned (.slice none 0 0) ∧ ∃ r, McAt W0 w' mb wi r) ∧ Fr (fun g => g = mb) w w'
set_option maxRecDepth 100000 in
set_option maxHeartbeats 1000000 in
/-- No place lies in the part. -/
theorem mtop_nil (W0 : World) (wi mb f n : Nat) (hw1 : 1 ≤ wi) (ls : List (List Nat)) (lv pv : Value) (hx : Ints W0 pv []) (hl : ∃ a b c, lv = .slice a b c) : TpSays W0 wi mb f n [] ls lv pv := by
  intro hs w hM hw
  obtain ⟨xo, xc, rfl⟩ := hx.form
  obtain ⟨la, lb, lc, rfl⟩ := hl
  simp only [List.length_nil]
  unfold sv
  obtain ⟨Wa, hWa⟩ : ∃ Wa, w.alloc (.cells #[.int .i64 f, .int .i64 n] 61) = Wa := ⟨_, rfl⟩
  have hFa : Fr (fun _ => False) w Wa := by rw [← hWa]; exact (Fr.refl _ _).alloc _
  have hMa := hM.fr0 hFa
  rcases hs with _ | ⟨p, r⟩
  · have hnx := mnext_no W0 Wa mb wi hMa
    rw [gth_nil]
    have HC := hide (And.intro hnx (And.intro hFa hMa))
    clear hnx hFa hMa hM hw hx
    go_enter Tryd.func65, Tryd.ntmps65
    go_wp2_with fail
    try rw [hWa]
    clear hWa
    refine (unhide HC).1.mono ?_
    rintro e w1 ⟨rfl, hF⟩
    have H1 := hide hF
    clear hF
    go_wp2_with fail
    go_ret
    exact ⟨(fun t r h => by cases h), (fun _ => ⟨rfl, _, (unhide HC).2.2.fr0 (unhide H1)⟩), ((unhide HC).2.1.trans (unhide H1) (fun _ _ h => h)).mono (fun _ _ h => h.elim)⟩
  · have hnx := mnext_yes W0 Wa mb wi p r hMa
    have hpw := hw p (by simp)
    rw [gth_next]
    have HC := hide (And.intro hnx (And.intro hFa (And.intro hMa hpw)))
    clear hnx hFa hMa hM hw hx hpw
    go_enter Tryd.func65, Tryd.ntmps65
    go_wp2_with fail
    try rw [hWa]
    clear hWa
    refine (unhide HC).1.mono ?_
    rintro e w1 ⟨vo, vc, rfl, hS, hM1, hF⟩
    have H1 := hide (And.intro hS (And.intro hM1 hF))
    clear hS hM1 hF
    rw [(unhide HC).2.2.2]
    go_wp2_with fail
    go_ret
    refine ⟨(fun t r h => ?_), (fun h => by cases h), ((unhide HC).2.1.mono (fun _ _ h => h.elim)).trans (unhide H1).2.2 (fun _ _ h => h)⟩
    cases h
    have hS := (unhide H1).1
    have hpw := (unhide HC).2.2.2
    obtain ⟨g, o, rfl, hg⟩ := hS.at1 (by omega)
    rw [hpw] at hS
    refine ⟨_, vc, rfl, hS.fr0 (unhide H1).2.1.fr, fun g' o' n' c' e => ?_, (unhide H1).2.1⟩
    cases e
    have := (unhide H1).2.1.lo
    omega
set_option maxRecDepth 100000 in
set_option maxHeartbeats 1000000 in
/-- The part is a place. -/
theorem mtop_one (W0 : World) (wi mb f : Nat) (hw1 : 1 ≤ wi) (zs : List Int) (ls : List (List Nat)) (us : List Value) (lv pv : Value) (hz : zs ≠ []) (hll : ls.length = zs.length) (hlw : ∀ p ∈ ls, p.length = wi) (hlp : Pcs W0 lv us ls) (hx : Ints W0 pv zs) : TpSays W0 wi mb f 1 zs ls lv pv := by
  intro hs w hM hw
  have h0 : 0 < zs.length := List.length_pos_iff.2 hz
  obtain ⟨xo, xc, rfl⟩ := hx.form
  obtain ⟨lo, lc, rfl⟩ := hlp.form
  unfold sv
  obtain ⟨Wa, hWa⟩ : ∃ Wa, w.alloc (.cells #[.int .i64 f, .int .i64 ((1 : Nat) : Int)] 61) = Wa := ⟨_, rfl⟩
  obtain ⟨a0, a1, hFa⟩ := box2p w _ _ _ Wa hWa
  have hMa := hM.fr0 hFa
  obtain ⟨g, o, vo, vc, rfl, hcell, hsl⟩ := hlp.nth hMa.fr 0 (by omega)
  have hg0 : ls.headD [] = ls[0]'(by omega) := by
    match ls, hll with
    | [], h => simp at h; omega
    | p :: q, _ => rfl
  have hpw := hlw ls[0] (List.getElem_mem _)
  rw [gth_one hz (by decide), hg0]
  obtain ⟨g', o', vo', vc', e', hcell', hsl'⟩ := hlp.nth (Fr.refl _ W0) 0 (by omega)
  cases e'
  generalize ls[0] = A at *
  obtain ⟨vg, vo2, rfl, hvg⟩ := hsl'.at1 (by omega)
  have ev := ((hMa.fr.cell (lt_of_cell hcell') (fun h => h)).trans hcell').symm.trans hcell
  simp only [Option.some.injEq, Value.slice.injEq, true_and] at ev
  obtain ⟨rfl, rfl⟩ := ev
  rw [hpw, Nat.add_zero] at hcell
  rw [hpw] at hsl
  have q0 : ((zs.length : Int) == 0) = false := beq_false_of_ne (by omega)
  have q1 : ¬ zs.length = 0 := by omega
  have q2 : (0 : Int) < (ls.length : Int) := by omega
  have HC := hide (And.intro hsl (And.intro hFa (And.intro hMa hvg)))
  clear hsl hFa hMa hM hw hx hlp hlw hll hcell' hsl' hg0 hpw
  generalize zs.length = N at *
  generalize ls.length = LN at *
  have e1 : ((1 : Nat) : Int) = 1 := rfl
  simp only [e1] at *
  subst hWa
  go_enter Tryd.func65, Tryd.ntmps65
  go_wp2_with fail
  go_ret
  refine ⟨(fun t r h => ?_), (fun h => by cases h), (unhide HC).2.1.mono (fun _ _ h => h.elim)⟩
  cases h
  refine ⟨_, _, rfl, (unhide HC).1, fun g' o' n' c' e => ?_, (unhide HC).2.2.1⟩
  cases e
  have := (unhide HC).2.2.1.lo
  have := (unhide HC).2.2.2
  omega
end Go.Proofs.YtocdnomfpgdglabDoor

namespace Go.Proofs.YtocdnomfpgdglabDoor
open Go.RowKit

/-- What manyClaim.top tells, where what comes out is known. -/
def TpYes (W0 : World) (wi mb : Nat) (w w' : World) (e : Ending) (t : List Nat) (r : List (List Nat)) : Prop :=
  ∃ yo yc, e = .returned (.slice (some yo) wi yc) ∧ Sl w' (.slice (some yo) wi yc) t ∧ Bk (.slice (some yo) wi yc) (fun g => g ≠ mb) ∧ McAt W0 w' mb wi r ∧ Fr (fun g => g = mb) w w'
def TpNo (W0 : World) (wi mb : Nat) (w w' : World) (e : Ending) : Prop :=
  e = .returned (.slice none 0 0) ∧ (∃ r, McAt W0 w' mb wi r) ∧ Fr (fun g => g = mb) w w'

set_option maxRecDepth 100000 in
set_option maxHeartbeats 2000000 in
/-- The walk, where the left half has too few hashes. -/
theorem mtop_left (W0 : World) (wi mb f n K F2 N2 C N : Nat) (lg lo lcap g o xc : Nat) (w : World) (hs : List (List Nat)) (hN : 0 < N) (hn1 : ¬ n = 1) (hCN : C ≤ N) (hNl : N ≤ lcap) (hNx : N ≤ xc) (hM : McAt W0 w mb wi hs) 
    (hhv : ∀ w', Calls Tryd.prog 95 #[sv f n] w' fun e w'' => e = .returned (.tuple #[sv f K, sv F2 N2]) ∧ Fr (fun _ => False) w' w'')
    (hfind : ∀ w', Fr (fun _ => False) W0 w' → Calls Tryd.prog 100 #[.slice (some ⟨g, o, none⟩) N xc, .int .i64 (F2 : Int)] w' fun e w'' => ∃ bb, e = .returned (.tuple #[.int .i64 (C : Nat), .bool bb]) ∧ Fr (fun _ => False) w' w'')
    (h1 : ∀ w', McAt W0 w' mb wi hs → Calls Tryd.prog 65 #[.pointer (some ⟨mb, 0, none⟩), sv f K, .slice (some ⟨lg, lo, none⟩) C lcap, .slice (some ⟨g, o, none⟩) C xc] w' fun e w'' => TpNo W0 wi mb w' w'' e) :
    Calls Tryd.prog 65 #[.pointer (some ⟨mb, 0, none⟩), sv f n, .slice (some ⟨lg, lo, none⟩) N lcap, .slice (some ⟨g, o, none⟩) N xc] w fun e w' => TpNo W0 wi mb w w' e := by
  unfold sv at *
  obtain ⟨Wa, hWa⟩ : ∃ Wa, w.alloc (.cells #[.int .i64 f, .int .i64 n] 61) = Wa := ⟨_, rfl⟩
  obtain ⟨a0, a1, hFa⟩ := box2p w _ _ _ Wa hWa
  have hmb : mb < w.heap.size := lt_of_cell hM.c0
  have hnil0 : ∀ W, (binOp .eql 23 (.slice none 0 0) (.slice none 0 0)).run Tryd.prog W = .ok (.bool true) W := fun W => Lib.run_eql_slice_nil W _ _ none 0 0 0 0 Tryd.underlying23
  have hnil1 : ∀ W a n c, (binOp .eql 23 (.slice (some a) n c) (.slice none 0 0)).run Tryd.prog W = .ok (.bool false) W := fun W a n c => Lib.run_eql_slice_nil W _ _ (some a) n c 0 0 Tryd.underlying23
  have q0 : ((N : Int) == 0) = false := beq_false_of_ne (by omega)
  have q1 : ¬ N = 0 := by omega
  have q2 : ((n : Int) == 1) = false := beq_false_of_ne (by omega)
  have q4 : (C : Int) ≤ (N : Int) := by omega
  have q5 : (C : Int) ≤ (xc : Int) := by omega
  have q6 : (C : Int) ≤ (lcap : Int) := by omega
  have HC := hide (And.intro hhv (And.intro hfind h1))
  have HM := hide (And.intro hM (And.intro hFa hmb))
  clear hhv hfind h1 hM hFa hmb
  go_enter Tryd.func65, Tryd.ntmps65
  go_wp2_with fail
  try rw [hWa]
  clear hWa
  generalize w.heap.size = b at *
  refine ((unhide HC).1 _).mono ?_
  rintro e wA ⟨rfl, hFA⟩
  have HF := hide ((unhide HM).2.1.trans hFA (fun _ _ h => h))
  have hbA : mb < wA.heap.size := Nat.lt_of_lt_of_le (lt_of_cell (unhide HM).1.c0) (unhide HF).size
  clear hFA a0 a1
  go_wp2_with fail
  obtain ⟨W1, hW1⟩ : ∃ W1, (wA.alloc (.cells #[.int .i64 f, .int .i64 K] 61)).alloc (.cells #[.int .i64 F2, .int .i64 N2] 61) = W1 := ⟨_, rfl⟩
  rw [hW1]
  obtain ⟨x0, x1, y0, y1, hF1⟩ := two2 wA _ _ _ _ _ W1 hW1
  have hF01 := (unhide HF).trans hF1 (fun _ _ h => h)
  refine ((unhide HC).2.1 _ ((unhide HM).1.fr.trans hF01 (fun _ _ h => h))).mono ?_
  rintro e wB ⟨bb, rfl, hFB⟩
  have u0 := (hFB.cell (lt_of_cell x0) (fun h => h)).trans x0
  have u1 := (hFB.cell (lt_of_cell x1) (fun h => h)).trans x1
  have v0 := (hFB.cell (lt_of_cell y0) (fun h => h)).trans y0
  have v1 := (hFB.cell (lt_of_cell y1) (fun h => h)).trans y1
  have hFB0 := hF01.trans hFB (fun _ _ h => h)
  have hMB := (unhide HM).1.fr0 hFB0
  clear hF1 hFB hW1 x0 x1 y0 y1 HF hF01
  generalize wA.heap.size = Z at *
  have hS : ∀ w', Fr (fun g => g = mb) wB w' → w'.cell? ⟨Z, 0, none⟩ = some (.int .i64 f) ∧ w'.cell? ⟨Z, 1, none⟩ = some (.int .i64 K) ∧ w'.cell? ⟨Z + 1, 0, none⟩ = some (.int .i64 F2) ∧ w'.cell? ⟨Z + 1, 1, none⟩ = some (.int .i64 N2) := fun w' hf =>
    ⟨(hf.cell (lt_of_cell u0) (fun h => by simp only at h; omega)).trans u0, (hf.cell (lt_of_cell u1) (fun h => by simp only at h; omega)).trans u1, (hf.cell (lt_of_cell v0) (fun h => by simp only at h; omega)).trans v0, (hf.cell (lt_of_cell v1) (fun h => by simp only at h; omega)).trans v1⟩
  have HS := hide hS
  have H2 := hide (And.intro hFB0 hMB)
  clear hS hFB0 hMB
  have T1 : True := trivial
  go_wp2_with fail
  go_region_held3 (fun w' => w'.cell? ⟨Z, 0, none⟩ = some (.int .i64 f) ∧ w'.cell? ⟨Z, 1, none⟩ = some (.int .i64 K) ∧ w'.cell? ⟨Z + 1, 0, none⟩ = some (.int .i64 F2) ∧ w'.cell? ⟨Z + 1, 1, none⟩ = some (.int .i64 N2))
    (first | assumption | exact (unhide HS) _ (Fr.refl _ _).drew | exact (unhide HS) _ fC)
    (first
      | (go_at_call 65; clear T1; refine ((unhide HC).2.2 _ ((unhide H2).2.fr0 (Fr.refl _ _).drew)).mono ?_; rintro e wC ⟨rfl, mC, hC⟩; have fC : Fr (fun g => g = mb) wB wC := (Fr.refl _ _).drew.trans hC (fun _ _ h => h)))
  have H3 := hide (And.intro mC fC)
  clear mC fC hC
  go_wp2_with fail
  go_ret
  exact ⟨rfl, (unhide H3).1, ((unhide H2).1.mono (fun _ _ h => h.elim)).trans (unhide H3).2 (fun _ _ h => h)⟩
end Go.Proofs.YtocdnomfpgdglabDoor

namespace Go.Proofs.YtocdnomfpgdglabDoor
open Go.RowKit

set_option maxRecDepth 100000 in
set_option maxHeartbeats 2000000 in
/-- The walk down both halves, what is left of neither slice is nothing at its end. -/
theorem mtop_goa (W0 : World) (wi mb f n K F2 N2 C N : Nat) (lg lo lcap g o xc : Nat) (w : World) (hs : List (List Nat)) (t1 t2 : List Nat) (r1 r2 : List (List Nat)) (A : Prop) (hw1 : 1 ≤ wi) (hnd : (nd wi t1 t2).length = wi) (hN : 0 < N) (hn1 : ¬ n = 1) (hCN : C ≤ N) (hNl : N ≤ lcap) (hNx : N ≤ xc) (hM : McAt W0 w mb wi hs) (hcl : ¬ lcap = C) (hcx : ¬ xc = C)
    (hhv : ∀ w', Calls Tryd.prog 95 #[sv f n] w' fun e w'' => e = .returned (.tuple #[sv f K, sv F2 N2]) ∧ Fr (fun _ => False) w' w'')
    (hfind : ∀ w', Fr (fun _ => False) W0 w' → Calls Tryd.prog 100 #[.slice (some ⟨g, o, none⟩) N xc, .int .i64 (F2 : Int)] w' fun e w'' => ∃ bb, e = .returned (.tuple #[.int .i64 (C : Nat), .bool bb]) ∧ Fr (fun _ => False) w' w'')
    (h1 : ∀ w', McAt W0 w' mb wi hs → Calls Tryd.prog 65 #[.pointer (some ⟨mb, 0, none⟩), sv f K, .slice (some ⟨lg, lo, none⟩) C lcap, .slice (some ⟨g, o, none⟩) C xc] w' fun e w'' => TpYes W0 wi mb w' w'' e t1 r1)
    (h2 : ∀ w', McAt W0 w' mb wi r1 → Calls Tryd.prog 65 #[.pointer (some ⟨mb, 0, none⟩), sv F2 N2, .slice (some ⟨lg, lo + C, none⟩) (N - C) (lcap - C), .slice (some ⟨g, o + C, none⟩) (N - C) (xc - C)] w' fun e w'' => (A → TpYes W0 wi mb w' w'' e t2 r2) ∧ (¬ A → TpNo W0 wi mb w' w'' e))
    (hnode : ∀ w' x y, A → Fr (fun _ => False) W0 w' → Sl w' x t1 → Sl w' y t2 → Calls Tryd.prog 33 #[.int .i64 wi, x, y] w' fun e w'' => ∃ yo, e = .returned (.slice yo wi wi) ∧ OB w' w'' yo wi (nd wi t1 t2)) :
    Calls Tryd.prog 65 #[.pointer (some ⟨mb, 0, none⟩), sv f n, .slice (some ⟨lg, lo, none⟩) N lcap, .slice (some ⟨g, o, none⟩) N xc] w fun e w' => (A → TpYes W0 wi mb w w' e (nd wi t1 t2) r2) ∧ (¬ A → TpNo W0 wi mb w w' e) := by
  have q7 : ¬ C = lcap := fun h => hcl h.symm
  have q8 : ¬ C = xc := fun h => hcx h.symm
  unfold sv at *
  obtain ⟨Wa, hWa⟩ : ∃ Wa, w.alloc (.cells #[.int .i64 f, .int .i64 n] 61) = Wa := ⟨_, rfl⟩
  obtain ⟨a0, a1, hFa⟩ := box2p w _ _ _ Wa hWa
  have hmb : mb < w.heap.size := lt_of_cell hM.c0
  have hnil0 : ∀ W, (binOp .eql 23 (.slice none 0 0) (.slice none 0 0)).run Tryd.prog W = .ok (.bool true) W := fun W => Lib.run_eql_slice_nil W _ _ none 0 0 0 0 Tryd.underlying23
  have hnil1 : ∀ W a n c, (binOp .eql 23 (.slice (some a) n c) (.slice none 0 0)).run Tryd.prog W = .ok (.bool false) W := fun W a n c => Lib.run_eql_slice_nil W _ _ (some a) n c 0 0 Tryd.underlying23
  have q0 : ((N : Int) == 0) = false := beq_false_of_ne (by omega)
  have q1 : ¬ N = 0 := by omega
  have q2 : ((n : Int) == 1) = false := beq_false_of_ne (by omega)
  have q4 : (C : Int) ≤ (N : Int) := by omega
  have q5 : (C : Int) ≤ (xc : Int) := by omega
  have q6 : (C : Int) ≤ (lcap : Int) := by omega
  have HC := hide (And.intro hhv (And.intro hfind (And.intro h1 (And.intro h2 hnode))))
  have HM := hide (And.intro hM (And.intro hFa hmb))
  clear hhv hfind h1 h2 hnode hM hFa hmb
  go_enter Tryd.func65, Tryd.ntmps65
  go_wp2_with fail
  try rw [hWa]
  clear hWa
  generalize w.heap.size = b at *
  refine ((unhide HC).1 _).mono ?_
  rintro e wA ⟨rfl, hFA⟩
  have HF := hide ((unhide HM).2.1.trans hFA (fun _ _ h => h))
  have hbA : mb < wA.heap.size := Nat.lt_of_lt_of_le (lt_of_cell (unhide HM).1.c0) (unhide HF).size
  clear hFA a0 a1
  go_wp2_with fail
  obtain ⟨W1, hW1⟩ : ∃ W1, (wA.alloc (.cells #[.int .i64 f, .int .i64 K] 61)).alloc (.cells #[.int .i64 F2, .int .i64 N2] 61) = W1 := ⟨_, rfl⟩
  rw [hW1]
  obtain ⟨x0, x1, y0, y1, hF1⟩ := two2 wA _ _ _ _ _ W1 hW1
  have hF01 := (unhide HF).trans hF1 (fun _ _ h => h)
  refine ((unhide HC).2.1 _ ((unhide HM).1.fr.trans hF01 (fun _ _ h => h))).mono ?_
  rintro e wB ⟨bb, rfl, hFB⟩
  have u0 := (hFB.cell (lt_of_cell x0) (fun h => h)).trans x0
  have u1 := (hFB.cell (lt_of_cell x1) (fun h => h)).trans x1
  have v0 := (hFB.cell (lt_of_cell y0) (fun h => h)).trans y0
  have v1 := (hFB.cell (lt_of_cell y1) (fun h => h)).trans y1
  have hFB0 := hF01.trans hFB (fun _ _ h => h)
  have hMB := (unhide HM).1.fr0 hFB0
  clear hF1 hFB hW1 x0 x1 y0 y1 HF hF01
  generalize wA.heap.size = Z at *
  have hS : ∀ w', Fr (fun g => g = mb) wB w' → w'.cell? ⟨Z, 0, none⟩ = some (.int .i64 f) ∧ w'.cell? ⟨Z, 1, none⟩ = some (.int .i64 K) ∧ w'.cell? ⟨Z + 1, 0, none⟩ = some (.int .i64 F2) ∧ w'.cell? ⟨Z + 1, 1, none⟩ = some (.int .i64 N2) := fun w' hf =>
    ⟨(hf.cell (lt_of_cell u0) (fun h => by simp only at h; omega)).trans u0, (hf.cell (lt_of_cell u1) (fun h => by simp only at h; omega)).trans u1, (hf.cell (lt_of_cell v0) (fun h => by simp only at h; omega)).trans v0, (hf.cell (lt_of_cell v1) (fun h => by simp only at h; omega)).trans v1⟩
  have HS := hide hS
  have H2 := hide (And.intro hFB0 hMB)
  clear hS hFB0 hMB
  have T1 : True := trivial
  go_wp2_with fail
  go_region_held3 (fun w' => w'.cell? ⟨Z, 0, none⟩ = some (.int .i64 f) ∧ w'.cell? ⟨Z, 1, none⟩ = some (.int .i64 K) ∧ w'.cell? ⟨Z + 1, 0, none⟩ = some (.int .i64 F2) ∧ w'.cell? ⟨Z + 1, 1, none⟩ = some (.int .i64 N2))
    (first | assumption | exact (unhide HS) _ (Fr.refl _ _).drew | exact (unhide HS) _ fC)
    (first
      | (go_at_call 65; clear T1; refine ((unhide HC).2.2.1 _ ((unhide H2).2.fr0 (Fr.refl _ _).drew)).mono ?_; rintro e wC ⟨yo, yc, rfl, sC, bC, mC, hC⟩; have fC : Fr (fun g => g = mb) wB wC := (Fr.refl _ _).drew.trans hC (fun _ _ h => h)))
  have H3 := hide (And.intro sC (And.intro bC (And.intro mC fC)))
  clear sC bC mC fC hC
  have T2 : True := trivial
  go_wp2_with fail
  by_cases hA : A
  · have HA := hide hA
    clear hA
    go_region_held3 (fun w' => w'.cell? ⟨Z, 0, none⟩ = some (.int .i64 f) ∧ w'.cell? ⟨Z, 1, none⟩ = some (.int .i64 K) ∧ w'.cell? ⟨Z + 1, 0, none⟩ = some (.int .i64 F2) ∧ w'.cell? ⟨Z + 1, 1, none⟩ = some (.int .i64 N2))
      (first | assumption | exact (unhide HS) _ (unhide H3).2.2.2.drew | exact (unhide HS) _ fD)
      (first
        | (go_at_call 65; clear T2; refine ((unhide HC).2.2.2.1 _ ((unhide H3).2.2.1.fr0 (Fr.refl _ _).drew)).mono ?_; rintro e wD ⟨hY, -⟩; obtain ⟨yo2, yc2, rfl, sD, bD, mD, hD⟩ := hY (unhide HA); have fD : Fr (fun g => g = mb) wB wD := (unhide H3).2.2.2.drew.trans hD (fun _ _ h => h)))
    have cD := mD.c0
    have fCD : Fr (fun g => g = mb) wC wD := (Fr.refl _ _).drew.trans hD (fun _ _ h => h)
    have H4 := hide (And.intro sD (And.intro bD (And.intro mD (And.intro fD ((unhide H3).1.frD fCD (.inr (fun g o n c e => (unhide H3).2.1 g o n c e)))))))
    clear sD bD mD fD hD hY fCD
    go_wp2_with fail
    refine ((unhide HC).2.2.2.2 _ _ _ (unhide HA) (unhide H4).2.2.1.fr (unhide H4).2.2.2.2 (unhide H4).1).mono ?_
    rintro e wE ⟨no, rfl, oE⟩
    have HE := hide oE
    clear oE
    go_wp2_with fail
    go_ret
    refine ⟨fun _ => ?_, fun h => absurd (unhide HA) h⟩
    have oE := unhide HE
    have hS : Sl wE (.slice no (nd wi t1 t2).length wi) (nd wi t1 t2) := oE.sl (nd_lt _ _ _)
    obtain ⟨gE, gO, rfl, hgE⟩ := hS.at1 (by omega)
    rw [hnd] at hS
    refine ⟨_, wi, rfl, hS, fun g' o' n' c' e => ?_, (unhide H4).2.2.1.fr0 oE.fr, ((unhide H2).1.mono (fun _ _ h => h.elim)).trans ((unhide H4).2.2.2.1.trans (oE.fr.mono (fun _ _ h => h.elim)) (fun _ _ h => h)) (fun _ _ h => h)⟩
    cases e
    have h1 := (World.ownsRow.lt oE.own gE (by rfl)).1
    have h2 := lt_of_cell cD
    simp only at h2
    omega
  · have HA := hide hA
    clear hA
    go_region_held3 (fun w' => w'.cell? ⟨Z, 0, none⟩ = some (.int .i64 f) ∧ w'.cell? ⟨Z, 1, none⟩ = some (.int .i64 K) ∧ w'.cell? ⟨Z + 1, 0, none⟩ = some (.int .i64 F2) ∧ w'.cell? ⟨Z + 1, 1, none⟩ = some (.int .i64 N2))
      (first | assumption | exact (unhide HS) _ (unhide H3).2.2.2.drew | exact (unhide HS) _ fD)
      (first
        | (go_at_call 65; clear T2; refine ((unhide HC).2.2.2.1 _ ((unhide H3).2.2.1.fr0 (Fr.refl _ _).drew)).mono ?_; rintro e wD ⟨-, hN⟩; obtain ⟨rfl, mD, hD⟩ := hN (unhide HA); have fD : Fr (fun g => g = mb) wB wD := (unhide H3).2.2.2.drew.trans hD (fun _ _ h => h)))
    have H4 := hide (And.intro mD fD)
    clear mD fD hD hN
    go_wp2_with fail
    go_ret
    exact ⟨fun h => absurd h (unhide HA), fun _ => ⟨rfl, (unhide H4).1, ((unhide H2).1.mono (fun _ _ h => h.elim)).trans (unhide H4).2 (fun _ _ h => h)⟩⟩
end Go.Proofs.YtocdnomfpgdglabDoor

namespace Go.Proofs.YtocdnomfpgdglabDoor
open Go.RowKit

set_option maxRecDepth 100000 in
set_option maxHeartbeats 2000000 in
/-- The walk down both halves, the leaves end there. -/
theorem mtop_gob (W0 : World) (wi mb f n K F2 N2 C N : Nat) (lg lo lcap g o xc : Nat) (w : World) (hs : List (List Nat)) (t1 t2 : List Nat) (r1 r2 : List (List Nat)) (A : Prop) (hw1 : 1 ≤ wi) (hnd : (nd wi t1 t2).length = wi) (hN : 0 < N) (hn1 : ¬ n = 1) (hCN : C ≤ N) (hNl : N ≤ lcap) (hNx : N ≤ xc) (hM : McAt W0 w mb wi hs) (hcl : lcap = C) (hcx : ¬ xc = C)
    (hhv : ∀ w', Calls Tryd.prog 95 #[sv f n] w' fun e w'' => e = .returned (.tuple #[sv f K, sv F2 N2]) ∧ Fr (fun _ => False) w' w'')
    (hfind : ∀ w', Fr (fun _ => False) W0 w' → Calls Tryd.prog 100 #[.slice (some ⟨g, o, none⟩) N xc, .int .i64 (F2 : Int)] w' fun e w'' => ∃ bb, e = .returned (.tuple #[.int .i64 (C : Nat), .bool bb]) ∧ Fr (fun _ => False) w' w'')
    (h1 : ∀ w', McAt W0 w' mb wi hs → Calls Tryd.prog 65 #[.pointer (some ⟨mb, 0, none⟩), sv f K, .slice (some ⟨lg, lo, none⟩) C lcap, .slice (some ⟨g, o, none⟩) C xc] w' fun e w'' => TpYes W0 wi mb w' w'' e t1 r1)
    (h2 : ∀ w', McAt W0 w' mb wi r1 → Calls Tryd.prog 65 #[.pointer (some ⟨mb, 0, none⟩), sv F2 N2, .slice (some ⟨lg, lo, none⟩) 0 0, .slice (some ⟨g, o + C, none⟩) 0 (xc - C)] w' fun e w'' => (A → TpYes W0 wi mb w' w'' e t2 r2) ∧ (¬ A → TpNo W0 wi mb w' w'' e))
    (hnode : ∀ w' x y, A → Fr (fun _ => False) W0 w' → Sl w' x t1 → Sl w' y t2 → Calls Tryd.prog 33 #[.int .i64 wi, x, y] w' fun e w'' => ∃ yo, e = .returned (.slice yo wi wi) ∧ OB w' w'' yo wi (nd wi t1 t2)) :
    Calls Tryd.prog 65 #[.pointer (some ⟨mb, 0, none⟩), sv f n, .slice (some ⟨lg, lo, none⟩) N lcap, .slice (some ⟨g, o, none⟩) N xc] w fun e w' => (A → TpYes W0 wi mb w w' e (nd wi t1 t2) r2) ∧ (¬ A → TpNo W0 wi mb w w' e) := by
  have q8 : ¬ C = xc := fun h => hcx h.symm
  unfold sv at *
  obtain ⟨Wa, hWa⟩ : ∃ Wa, w.alloc (.cells #[.int .i64 f, .int .i64 n] 61) = Wa := ⟨_, rfl⟩
  obtain ⟨a0, a1, hFa⟩ := box2p w _ _ _ Wa hWa
  have hmb : mb < w.heap.size := lt_of_cell hM.c0
  have hnil0 : ∀ W, (binOp .eql 23 (.slice none 0 0) (.slice none 0 0)).run Tryd.prog W = .ok (.bool true) W := fun W => Lib.run_eql_slice_nil W _ _ none 0 0 0 0 Tryd.underlying23
  have hnil1 : ∀ W a n c, (binOp .eql 23 (.slice (some a) n c) (.slice none 0 0)).run Tryd.prog W = .ok (.bool false) W := fun W a n c => Lib.run_eql_slice_nil W _ _ (some a) n c 0 0 Tryd.underlying23
  have q0 : ((N : Int) == 0) = false := beq_false_of_ne (by omega)
  have q1 : ¬ N = 0 := by omega
  have q2 : ((n : Int) == 1) = false := beq_false_of_ne (by omega)
  have q4 : (C : Int) ≤ (N : Int) := by omega
  have q5 : (C : Int) ≤ (xc : Int) := by omega
  have q6 : (C : Int) ≤ (lcap : Int) := by omega
  obtain rfl : C = N := by omega
  subst hcl
  have HC := hide (And.intro hhv (And.intro hfind (And.intro h1 (And.intro h2 hnode))))
  have HM := hide (And.intro hM (And.intro hFa hmb))
  clear hhv hfind h1 h2 hnode hM hFa hmb
  go_enter Tryd.func65, Tryd.ntmps65
  go_wp2_with fail
  try rw [hWa]
  clear hWa
  generalize w.heap.size = b at *
  refine ((unhide HC).1 _).mono ?_
  rintro e wA ⟨rfl, hFA⟩
  have HF := hide ((unhide HM).2.1.trans hFA (fun _ _ h => h))
  have hbA : mb < wA.heap.size := Nat.lt_of_lt_of_le (lt_of_cell (unhide HM).1.c0) (unhide HF).size
  clear hFA a0 a1
  go_wp2_with fail
  obtain ⟨W1, hW1⟩ : ∃ W1, (wA.alloc (.cells #[.int .i64 f, .int .i64 K] 61)).alloc (.cells #[.int .i64 F2, .int .i64 N2] 61) = W1 := ⟨_, rfl⟩
  rw [hW1]
  obtain ⟨x0, x1, y0, y1, hF1⟩ := two2 wA _ _ _ _ _ W1 hW1
  have hF01 := (unhide HF).trans hF1 (fun _ _ h => h)
  refine ((unhide HC).2.1 _ ((unhide HM).1.fr.trans hF01 (fun _ _ h => h))).mono ?_
  rintro e wB ⟨bb, rfl, hFB⟩
  have u0 := (hFB.cell (lt_of_cell x0) (fun h => h)).trans x0
  have u1 := (hFB.cell (lt_of_cell x1) (fun h => h)).trans x1
  have v0 := (hFB.cell (lt_of_cell y0) (fun h => h)).trans y0
  have v1 := (hFB.cell (lt_of_cell y1) (fun h => h)).trans y1
  have hFB0 := hF01.trans hFB (fun _ _ h => h)
  have hMB := (unhide HM).1.fr0 hFB0
  clear hF1 hFB hW1 x0 x1 y0 y1 HF hF01
  generalize wA.heap.size = Z at *
  have hS : ∀ w', Fr (fun g => g = mb) wB w' → w'.cell? ⟨Z, 0, none⟩ = some (.int .i64 f) ∧ w'.cell? ⟨Z, 1, none⟩ = some (.int .i64 K) ∧ w'.cell? ⟨Z + 1, 0, none⟩ = some (.int .i64 F2) ∧ w'.cell? ⟨Z + 1, 1, none⟩ = some (.int .i64 N2) := fun w' hf =>
    ⟨(hf.cell (lt_of_cell u0) (fun h => by simp only at h; omega)).trans u0, (hf.cell (lt_of_cell u1) (fun h => by simp only at h; omega)).trans u1, (hf.cell (lt_of_cell v0) (fun h => by simp only at h; omega)).trans v0, (hf.cell (lt_of_cell v1) (fun h => by simp only at h; omega)).trans v1⟩
  have HS := hide hS
  have H2 := hide (And.intro hFB0 hMB)
  clear hS hFB0 hMB
  have T1 : True := trivial
  go_wp2_with fail
  go_region_held3 (fun w' => w'.cell? ⟨Z, 0, none⟩ = some (.int .i64 f) ∧ w'.cell? ⟨Z, 1, none⟩ = some (.int .i64 K) ∧ w'.cell? ⟨Z + 1, 0, none⟩ = some (.int .i64 F2) ∧ w'.cell? ⟨Z + 1, 1, none⟩ = some (.int .i64 N2))
    (first | assumption | exact (unhide HS) _ (Fr.refl _ _).drew | exact (unhide HS) _ fC)
    (first
      | (go_at_call 65; clear T1; refine ((unhide HC).2.2.1 _ ((unhide H2).2.fr0 (Fr.refl _ _).drew)).mono ?_; rintro e wC ⟨yo, yc, rfl, sC, bC, mC, hC⟩; have fC : Fr (fun g => g = mb) wB wC := (Fr.refl _ _).drew.trans hC (fun _ _ h => h)))
  have H3 := hide (And.intro sC (And.intro bC (And.intro mC fC)))
  clear sC bC mC fC hC
  have T2 : True := trivial
  go_wp2_with fail
  by_cases hA : A
  · have HA := hide hA
    clear hA
    go_region_held3 (fun w' => w'.cell? ⟨Z, 0, none⟩ = some (.int .i64 f) ∧ w'.cell? ⟨Z, 1, none⟩ = some (.int .i64 K) ∧ w'.cell? ⟨Z + 1, 0, none⟩ = some (.int .i64 F2) ∧ w'.cell? ⟨Z + 1, 1, none⟩ = some (.int .i64 N2))
      (first | assumption | exact (unhide HS) _ (unhide H3).2.2.2.drew | exact (unhide HS) _ fD)
      (first
        | (go_at_call 65; clear T2; refine ((unhide HC).2.2.2.1 _ ((unhide H3).2.2.1.fr0 (Fr.refl _ _).drew)).mono ?_; rintro e wD ⟨hY, -⟩; obtain ⟨yo2, yc2, rfl, sD, bD, mD, hD⟩ := hY (unhide HA); have fD : Fr (fun g => g = mb) wB wD := (unhide H3).2.2.2.drew.trans hD (fun _ _ h => h)))
    have cD := mD.c0
    have fCD : Fr (fun g => g = mb) wC wD := (Fr.refl _ _).drew.trans hD (fun _ _ h => h)
    have H4 := hide (And.intro sD (And.intro bD (And.intro mD (And.intro fD ((unhide H3).1.frD fCD (.inr (fun g o n c e => (unhide H3).2.1 g o n c e)))))))
    clear sD bD mD fD hD hY fCD
    go_wp2_with fail
    refine ((unhide HC).2.2.2.2 _ _ _ (unhide HA) (unhide H4).2.2.1.fr (unhide H4).2.2.2.2 (unhide H4).1).mono ?_
    rintro e wE ⟨no, rfl, oE⟩
    have HE := hide oE
    clear oE
    go_wp2_with fail
    go_ret
    refine ⟨fun _ => ?_, fun h => absurd (unhide HA) h⟩
    have oE := unhide HE
    have hS : Sl wE (.slice no (nd wi t1 t2).length wi) (nd wi t1 t2) := oE.sl (nd_lt _ _ _)
    obtain ⟨gE, gO, rfl, hgE⟩ := hS.at1 (by omega)
    rw [hnd] at hS
    refine ⟨_, wi, rfl, hS, fun g' o' n' c' e => ?_, (unhide H4).2.2.1.fr0 oE.fr, ((unhide H2).1.mono (fun _ _ h => h.elim)).trans ((unhide H4).2.2.2.1.trans (oE.fr.mono (fun _ _ h => h.elim)) (fun _ _ h => h)) (fun _ _ h => h)⟩
    cases e
    have h1 := (World.ownsRow.lt oE.own gE (by rfl)).1
    have h2 := lt_of_cell cD
    simp only at h2
    omega
  · have HA := hide hA
    clear hA
    go_region_held3 (fun w' => w'.cell? ⟨Z, 0, none⟩ = some (.int .i64 f) ∧ w'.cell? ⟨Z, 1, none⟩ = some (.int .i64 K) ∧ w'.cell? ⟨Z + 1, 0, none⟩ = some (.int .i64 F2) ∧ w'.cell? ⟨Z + 1, 1, none⟩ = some (.int .i64 N2))
      (first | assumption | exact (unhide HS) _ (unhide H3).2.2.2.drew | exact (unhide HS) _ fD)
      (first
        | (go_at_call 65; clear T2; refine ((unhide HC).2.2.2.1 _ ((unhide H3).2.2.1.fr0 (Fr.refl _ _).drew)).mono ?_; rintro e wD ⟨-, hN⟩; obtain ⟨rfl, mD, hD⟩ := hN (unhide HA); have fD : Fr (fun g => g = mb) wB wD := (unhide H3).2.2.2.drew.trans hD (fun _ _ h => h)))
    have H4 := hide (And.intro mD fD)
    clear mD fD hD hN
    go_wp2_with fail
    go_ret
    exact ⟨fun h => absurd h (unhide HA), fun _ => ⟨rfl, (unhide H4).1, ((unhide H2).1.mono (fun _ _ h => h.elim)).trans (unhide H4).2 (fun _ _ h => h)⟩⟩
end Go.Proofs.YtocdnomfpgdglabDoor

