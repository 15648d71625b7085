import Derived.Test.YtocdnomfpgdglaaDoorPk2
import Derived.Test.YtocdnomfpgdglaaDoorSbw
import Derived.Test.YtocdnomfpgdglaaDoorPk1
namespace Go.Proofs.YtocdnomfpgdglaaDoor
open Go.RowKit

theorem box3s (w : World) (a b c : Value) (ty : Nat) (W : World) (hW : w.alloc (.cells #[a, b, c] ty) = W) : W.cell? ⟨w.heap.size, 0, none⟩ = some a ∧ W.cell? ⟨w.heap.size, 1, none⟩ = some b ∧ W.cell? ⟨w.heap.size, 2, none⟩ = some c ∧ Fr (fun _ => False) w W := by
  subst hW
  have hc : ∀ j, (w.alloc (.cells #[a, b, c] ty)).cell? ⟨w.heap.size, j, none⟩ = (#[a, b, c] : Array Value)[j]? := fun j => World.cell?_alloc_at _ _ _ _ rfl
  exact ⟨hc 0, hc 1, hc 2, (Fr.refl _ _).alloc _⟩
theorem stpv_len (wi : Nat) (leaf : List Nat) (m : Nat) : ∀ f n i (ps : List (List Nat)), n ≤ m → (stpv wi leaf f n i ps).length = dep f n i 1 := by
  induction m with
  | zero => intro f n i ps h; rw [stpv, dif_pos (by omega), dep, dif_pos (by omega)]; rfl
  | succ m ih =>
    intro f n i ps h
    by_cases h2 : n < 2
    · rw [stpv, dif_pos h2, dep, dif_pos (by omega)]; rfl
    · have hlt := hf_lt n (by omega)
      have hpos := hf_pos n
      by_cases hi : i < f + hf n
      · rw [stpv, dif_neg h2, if_pos hi, dep_l (by omega) (by omega) hi, List.length_cons, ih _ _ _ _ (by omega)]
      · rw [stpv, dif_neg h2, if_neg hi, dep_r (by omega) (by omega) hi, List.length_cons, ih _ _ _ _ (by omega)]
set_option maxRecDepth 100000 in
set_option maxHeartbeats 4000000 in
/-- A step down to the left. -/
theorem climb_left (wi : Nat) (hw1 : 1 ≤ wi) (hw32 : wi ≤ 32) (leaf : List Nat) (lo : Option Addr) (ln lc : Nat) (f n i D : Nat) (ps : List (List Nat)) (vs : List Value) (g o xc : Nat) (w : World) (hr : GR w) (hp : Pcs w (.slice (some ⟨g, o, none⟩) (D + 1) xc) vs ps) (hcap : D + 1 ≤ xc) (hlen : ps.length = D + 1) (hD8 : D < 8000000) (h2 : 2 ≤ n) (hn : n < 9223372036854775808) (hfi : f ≤ i) (hi : i < f + hf n) (hll : leaf.length = wi) (hpw : ∀ p ∈ ps, p.length = wi)
    (ih : ∀ w', Fr (fun _ => False) w w' → ClSays wi leaf (.slice lo ln lc) f (hf n) i (ps.take D) (.slice (some ⟨g, o, none⟩) D xc) w') : ClSays wi leaf (.slice lo ln lc) f n i ps (.slice (some ⟨g, o, none⟩) (D + 1) xc) w := by
  have hlt := hf_lt n h2
  have hpos := hf_pos n
  obtain ⟨g', o', vo, vc, eg, hcell, hsl⟩ := hp.nth (Fr.refl _ _) D (by omega)
  cases eg
  have hdl : ps.dropLast = ps.take D := by rw [List.dropLast_eq_take, hlen]; rfl
  have hgl : ps.getLastD [] = ps[D] := getLastD_at ps D hlen
  have hne : ¬ (f = i ∧ n = 1) := by omega
  have hdp := dep_l h2 hne hi
  have htv := topv_l (wi := wi) (r := leaf) (p := ps) h2 hne hi
  have hst : stpv wi leaf f n i ps = (topv wi leaf f (hf n) i 1 ps.dropLast, ps.getLastD [], true) :: stpv wi leaf f (hf n) i ps.dropLast := by
    conv => lhs; rw [stpv, dif_neg (by omega), if_pos hi]
  rw [hdl, hgl] at htv hst
  have hTw := topv_wid wi hw1 hw32 leaf hll _ f (hf n) i 1 (ps.take D) (Nat.le_refl _)
  have hAw := hpw ps[D] (List.getElem_mem _)
  have htl : (ps.take D).length = D := by rw [List.length_take]; omega
  have hha := half_any n w hn h2
  have hI : i - f < hf n := by omega
  have hSL := stpv_len wi leaf _ f (hf n) i (ps.take D) (Nat.le_refl _)
  unfold ClSays at ih ⊢
  rw [hdp, htv, hst]
  rw [htl] at ih
  rw [hAw] at hcell hsl
  generalize topv wi leaf f (hf n) i 1 (ps.take D) = T at *
  generalize ps[D] = A at *
  generalize stpv wi leaf f (hf n) i (ps.take D) = SS at *
  generalize dep f (hf n) i 1 = DD at *
  rw [hlen]
  have hnd := nd_len wi hw1 hw32 T A
  have hnode : ∀ w' x y, GR w' → Sl w' x T → Sl w' y A → Calls Tryd.prog 29 #[.int .i64 wi, x, y] w' fun e w'' => ∃ yo yc, e = .returned (.slice yo wi yc) ∧ Sl w'' (.slice yo wi yc) (nd wi T A) ∧ Fr (fun _ => False) w' w'' := fun w' x y h1 h2 h3 => by
    refine (gnode_any (wi : Int) x y T A w' h1 h2.s h3.s h2.b h3.b (by omega) (by omega)).mono ?_
    rintro e w'' ⟨yo, yc, rfl, hO⟩
    have hs := hO.sl (nd_lt _ _ _)
    rw [hnd] at hs ⊢
    exact ⟨yo, yc, rfl, hs, hO.fr⟩
  have q1 : ((n : Int) == 1) = false := beq_false_of_ne (by omega)
  have q2 : ¬ n = 1 := by omega
  have q3 : (((D : Int) + 1) == 0) = false := beq_false_of_ne (by omega)
  have q4 : ¬ (D : Int) + 1 = 0 := by omega
  have q5 : IntKind.i64.wrap ((D : Int) + 1 - 1) = (D : Int) := by rw [IntKind.wrap_i64]; omega
  have q6 : (D : Int) < (D : Int) + 1 := by omega
  have q7 : (D : Int) ≤ (xc : Int) := by omega
  have q8 : ((i - f : Nat) : Int) < ((hf n : Nat) : Int) := by omega
  have HC := hide (And.intro hha (And.intro ih (And.intro hnode (And.intro hr (And.intro hsl hSL)))))
  clear hha ih hnode hr hsl hSL hp hTw hAw htl hnd hdp htv hst hdl hgl hpw hll hlen hne hi hfi hlt hpos h2 hn
  generalize i - f = I at *
  generalize hf n = K at *
  go_enter Tryd.func69, Tryd.ntmps69
  go_wp2_with fail
  refine (unhide HC).1.mono ?_
  rintro e w0 ⟨rfl, rfl⟩
  go_wp2_with fail
  refine ((unhide HC).2.1 _ (by first | exact Fr.refl _ _ | exact (Fr.refl _ _).drew)).mono ?_
  rintro e w1 ⟨hA, hB, hF⟩
  by_cases hd : D = DD
  · obtain ⟨ho, hn, hc, so, sc, ss, rfl, hS, hO, hK⟩ := hA hd
    have hsl' : ss.length = SS.length := hK.1
    have H1 := hide (And.intro hS (And.intro hO (And.intro hK (And.intro hF (And.intro hd hsl')))))
    clear hA hB hS hO hK hF hd hsl'
    go_wp2_with fail
    obtain ⟨W2, hW2⟩ : ∃ W2, w1.alloc (.cells #[.slice ho hn hc, .slice vo wi vc, .bool true] 131) = W2 := ⟨_, rfl⟩
    rw [hW2]
    obtain ⟨z0, z1, z2, hF2⟩ := box3s w1 _ _ _ _ W2 hW2
    obtain ⟨W3, hW3⟩ : ∃ W3, W2.alloc (.cells #[.slice ho hn hc, .slice vo wi vc, .bool true] 131) = W3 := ⟨_, rfl⟩
    rw [hW3]
    have hsz : w1.heap.size + 1 = W2.heap.size := by rw [← hW2]; simp
    rw [hsz]
    have hT0 := OT.lit (Fr.refl _ W2) ho hn hc vo wi vc true W3 hW3
    have HZ := hide (And.intro z0 (And.intro z1 (And.intro z2 (And.intro hF2 hT0))))
    clear z0 z1 z2 hF2 hT0 hW2 hW3 hsz
    generalize w1.heap.size = P at *
    generalize hSN : ss.length = SN at *
    go_loopw [22, 23] (fun dv iv wr => ∃ (k : Nat), k ≤ SN ∧ iv = .int .i64 (k : Nat) ∧ OT W2 wr dv ((.slice ho hn hc, .slice vo wi vc, true) :: ss.take k)) (fun _ iv _ => SN - (intOf iv).toNat)
    case atStart => exact ⟨0, Nat.zero_le _, rfl, (unhide HZ).2.2.2.2⟩
    case round =>
      obtain ⟨k, hk, rfl, hT⟩ := hrel
      have hSD : SN = D := by have h1 := (unhide H1).2.2.2.2.2; have h2 := (unhide HC).2.2.2.2.2; have h3 := (unhide H1).2.2.2.2.1; omega
      have htl : (((Value.slice ho hn hc, Value.slice vo wi vc, true) :: ss.take k) : List (Value × Value × Bool)).length = k + 1 := by rw [List.length_cons, List.length_take]; omega
      by_cases hlt : k < SN
      · have hlt' : (k : Int) < (SN : Int) := by omega
        have hks : k < ss.length := by omega
        have hF1r : Fr (fun _ => False) w1 wr := (unhide HZ).2.2.2.1.trans hT.fr (fun _ _ h => h)
        obtain ⟨g2, rfl, e0, e1, e2⟩ := (unhide H1).2.1.cell hF1r k hks
        obtain ⟨la, ln', lc', ra, rn, rc, es⟩ := (unhide H1).2.2.1.form k hks
        have htk : ss.take (k + 1) = ss.take k ++ [ss[k]] := by rw [List.take_add_one, List.getElem?_eq_getElem hks]; rfl
        generalize ss[k].2.2 = b at *
        rw [es] at e0 e1 htk
        simp only at e0 e1
        obtain ⟨ao, cap, w', hr, hown, hgrow⟩ := app_step wr W2.heap.size _ _ la ln' lc' ra rn rc b hT.own (by rw [htl]; omega) hT.fr.size
        obtain ⟨da, dc, rfl⟩ := hT.form
        rw [htl] at hr hown
        have hT2 : OT W2 w' (.slice ao (k + 1 + 1) cap) ((.slice ho hn hc, .slice vo wi vc, true) :: ss.take (k + 1)) := by
          refine ⟨?_, (hT.fr.alloc _).grown hgrow (fun g hg => .inr (hT.own.lt g hg).1)⟩
          have e : (((Value.slice ho hn hc, Value.slice vo wi vc, true) :: ss.take (k + 1)) : List (Value × Value × Bool)).length = k + 1 + 1 := by rw [List.length_cons, List.length_take]; omega
          rw [e, htk, ← List.cons_append]
          exact hown
        have w1' : IntKind.i64.wrap ((k : Int) + 1) = (k : Int) + 1 := by rw [IntKind.wrap_i64]; omega
        have HR := hide hr
        have HT := hide hT2
        have hk8 : k < 8000000 := by omega
        clear hr hown hgrow hT hT2 htk es hF1r hSD
        rw [htl]
        clear htl
        go_wp2_with (at_builtin; refine wpList_app rfl (.tmp 86) (.tmp 91) 89 89 rfl _ _ _ rfl rfl (unhide HR) ?_)
        exact ⟨⟨k + 1, by omega, by go_num, unhide HT⟩, by simp [intOf]; omega⟩
      · have hlt' : ¬ (k : Int) < (SN : Int) := by omega
        rw [List.take_of_length_le (by omega)] at hT htl
        have c0 := (hT.fr.cell (lt_of_cell (unhide HZ).1) (fun h => h)).trans (unhide HZ).1
        have c1 := (hT.fr.cell (lt_of_cell (unhide HZ).2.1) (fun h => h)).trans (unhide HZ).2.1
        obtain ⟨da, dc, rfl⟩ := hT.form
        have hFw : Fr (fun _ => False) w1 wr := (unhide HZ).2.2.2.1.trans hT.fr (fun _ _ h => h)
        have HT := hide (And.intro hT (And.intro hFw htl))
        rw [htl]
        clear hT htl hFw hSD
        go_wp2_with fail
        refine ((unhide HC).2.2.1 wr _ _ ((unhide HC).2.2.2.1.fr0 ((unhide H1).2.2.2.1.trans (unhide HT).2.1 (fun _ _ h => h))) ((unhide H1).1.fr0 (unhide HT).2.1) ((unhide HC).2.2.2.2.1.fr0 ((unhide H1).2.2.2.1.trans (unhide HT).2.1 (fun _ _ h => h)))).mono ?_
        rintro e w5 ⟨yo, yc, rfl, hS5, hF5⟩
        have H5 := hide (And.intro hS5 hF5)
        clear hS5 hF5
        go_wp2_with fail
        go_returns
        have hF15 := (unhide HT).2.1.trans (unhide H5).2 (fun _ _ h => h)
        have hF05 := (unhide H1).2.2.2.1.trans hF15 (fun _ _ h => h)
        refine ⟨fun _ => ⟨yo, wi, yc, da, dc, (.slice ho hn hc, .slice vo wi vc, true) :: ss, by rw [(unhide HT).2.2]; rfl, (unhide H5).1, ?_, ?_⟩, fun h => absurd (by have := (unhide H1).2.2.2.2.1; omega) h, hF05⟩
        · exact ((unhide HT).1.fr0 (unhide H5).2).base ((unhide H1).2.2.2.1.trans (unhide HZ).2.2.2.1 (fun _ _ h => h))
        · exact StOk.cons ((unhide H1).1.fr0 hF15) ((unhide HC).2.2.2.2.1.fr0 hF05) rfl ((unhide H1).2.2.1.fr0 hF15)
  · obtain ⟨ho, hn, hc, rfl⟩ := hB hd
    have H1 := hide (And.intro hF hd)
    clear hA hB hF hd
    go_wp2_with fail
    go_returns
    exact ⟨fun h => absurd (by omega) (unhide H1).2, fun _ => ⟨none, 0, 0, rfl⟩, (unhide H1).1⟩
end Go.Proofs.YtocdnomfpgdglaaDoor

namespace Go.Proofs.YtocdnomfpgdglaaDoor
open Go.RowKit

set_option maxRecDepth 100000 in
set_option maxHeartbeats 4000000 in
/-- A step down to the right. -/
theorem climb_right (wi : Nat) (hw1 : 1 ≤ wi) (hw32 : wi ≤ 32) (leaf : List Nat) (lo : Option Addr) (ln lc : Nat) (f n i D : Nat) (ps : List (List Nat)) (vs : List Value) (g o xc : Nat) (w : World) (hr : GR w) (hp : Pcs w (.slice (some ⟨g, o, none⟩) (D + 1) xc) vs ps) (hcap : D + 1 ≤ xc) (hlen : ps.length = D + 1) (hD8 : D < 8000000) (h2 : 2 ≤ n) (hn : n < 9223372036854775808) (hin : i < f + n) (hi : ¬ i < f + hf n) (hll : leaf.length = wi) (hpw : ∀ p ∈ ps, p.length = wi)
    (ih : ∀ w', Fr (fun _ => False) w w' → ClSays wi leaf (.slice lo ln lc) (f + hf n) (n - hf n) i (ps.take D) (.slice (some ⟨g, o, none⟩) D xc) w') : ClSays wi leaf (.slice lo ln lc) f n i ps (.slice (some ⟨g, o, none⟩) (D + 1) xc) w := by
  have hlt := hf_lt n h2
  have hpos := hf_pos n
  obtain ⟨g', o', vo, vc, eg, hcell, hsl⟩ := hp.nth (Fr.refl _ _) D (by omega)
  cases eg
  have hdl : ps.dropLast = ps.take D := by rw [List.dropLast_eq_take, hlen]; rfl
  have hgl : ps.getLastD [] = ps[D] := getLastD_at ps D hlen
  have hne : ¬ (f = i ∧ n = 1) := by omega
  have hdp := dep_r h2 hne hi
  have htv := topv_r (wi := wi) (r := leaf) (p := ps) h2 hne hi
  have hst : stpv wi leaf f n i ps = (ps.getLastD [], topv wi leaf (f + hf n) (n - hf n) i 1 ps.dropLast, false) :: stpv wi leaf (f + hf n) (n - hf n) i ps.dropLast := by
    conv => lhs; rw [stpv, dif_neg (by omega), if_neg hi]
  rw [hdl, hgl] at htv hst
  have hTw := topv_wid wi hw1 hw32 leaf hll _ (f + hf n) (n - hf n) i 1 (ps.take D) (Nat.le_refl _)
  have hAw := hpw ps[D] (List.getElem_mem _)
  have htl : (ps.take D).length = D := by rw [List.length_take]; omega
  have hha := half_any n w hn h2
  have hI : i - (f + hf n) = (i - f) - hf n := by omega
  have hI2 : hf n ≤ i - f := by omega
  have hI3 : i - f < n := by omega
  have hSL := stpv_len wi leaf _ (f + hf n) (n - hf n) i (ps.take D) (Nat.le_refl _)
  unfold ClSays at ih ⊢
  rw [hdp, htv, hst]
  rw [htl, hI] at ih
  rw [hAw] at hcell hsl
  generalize topv wi leaf (f + hf n) (n - hf n) i 1 (ps.take D) = T at *
  generalize ps[D] = A at *
  generalize stpv wi leaf (f + hf n) (n - hf n) i (ps.take D) = SS at *
  generalize dep (f + hf n) (n - hf n) i 1 = DD at *
  rw [hlen]
  have hnd := nd_len wi hw1 hw32 A T
  have hnode : ∀ w' x y, GR w' → Sl w' x A → Sl w' y T → Calls Tryd.prog 29 #[.int .i64 wi, x, y] w' fun e w'' => ∃ yo yc, e = .returned (.slice yo wi yc) ∧ Sl w'' (.slice yo wi yc) (nd wi A T) ∧ Fr (fun _ => False) w' w'' := fun w' x y h1 h2 h3 => by
    refine (gnode_any (wi : Int) x y A T w' h1 h2.s h3.s h2.b h3.b (by omega) (by omega)).mono ?_
    rintro e w'' ⟨yo, yc, rfl, hO⟩
    have hs := hO.sl (nd_lt _ _ _)
    rw [hnd] at hs ⊢
    exact ⟨yo, yc, rfl, hs, hO.fr⟩
  have q1 : ((n : Int) == 1) = false := beq_false_of_ne (by omega)
  have q2 : ¬ n = 1 := by omega
  have q3 : (((D : Int) + 1) == 0) = false := beq_false_of_ne (by omega)
  have q4 : ¬ (D : Int) + 1 = 0 := by omega
  have q5 : IntKind.i64.wrap ((D : Int) + 1 - 1) = (D : Int) := by rw [IntKind.wrap_i64]; omega
  have q6 : (D : Int) < (D : Int) + 1 := by omega
  have q7 : (D : Int) ≤ (xc : Int) := by omega
  have q8 : ¬ ((i - f : Nat) : Int) < ((hf n : Nat) : Int) := by omega
  have q9 : ¬ i - f < hf n := by omega
  have q10 : IntKind.i64.wrap (((i - f : Nat) : Int) - ((hf n : Nat) : Int)) = (((i - f) - hf n : Nat) : Int) := by rw [IntKind.wrap_i64]; omega
  have q11 : IntKind.i64.wrap ((n : Int) - ((hf n : Nat) : Int)) = ((n - hf n : Nat) : Int) := by rw [IntKind.wrap_i64]; omega
  have HC := hide (And.intro hha (And.intro ih (And.intro hnode (And.intro hr (And.intro hsl hSL)))))
  clear hha ih hnode hr hsl hSL hp hTw hAw htl hnd hdp htv hst hdl hgl hpw hll hlen hne hi hin hlt hpos h2 hn hI hI2 hI3
  generalize (i - f) - hf n = IK at *
  generalize n - hf n = NK at *
  generalize i - f = I at *
  generalize hf n = K at *
  go_enter Tryd.func69, Tryd.ntmps69
  go_wp2_with fail
  refine (unhide HC).1.mono ?_
  rintro e w0 ⟨rfl, rfl⟩
  go_wp2_with fail
  refine ((unhide HC).2.1 _ (by first | exact Fr.refl _ _ | exact (Fr.refl _ _).drew)).mono ?_
  rintro e w1 ⟨hA, hB, hF⟩
  by_cases hd : D = DD
  · obtain ⟨ho, hn, hc, so, sc, ss, rfl, hS, hO, hK⟩ := hA hd
    have hsl' : ss.length = SS.length := hK.1
    have H1 := hide (And.intro hS (And.intro hO (And.intro hK (And.intro hF (And.intro hd hsl')))))
    clear hA hB hS hO hK hF hd hsl'
    go_wp2_with fail
    obtain ⟨W2, hW2⟩ : ∃ W2, w1.alloc (.cells #[.slice vo wi vc, .slice ho hn hc, .bool false] 131) = W2 := ⟨_, rfl⟩
    rw [hW2]
    obtain ⟨z0, z1, z2, hF2⟩ := box3s w1 _ _ _ _ W2 hW2
    obtain ⟨W3, hW3⟩ : ∃ W3, W2.alloc (.cells #[.slice vo wi vc, .slice ho hn hc, .bool false] 131) = W3 := ⟨_, rfl⟩
    rw [hW3]
    have hsz : w1.heap.size + 1 = W2.heap.size := by rw [← hW2]; simp
    rw [hsz]
    have hT0 := OT.lit (Fr.refl _ W2) vo wi vc ho hn hc false W3 hW3
    have HZ := hide (And.intro z0 (And.intro z1 (And.intro z2 (And.intro hF2 hT0))))
    clear z0 z1 z2 hF2 hT0 hW2 hW3 hsz
    generalize w1.heap.size = P at *
    generalize hSN : ss.length = SN at *
    go_loopw [22, 23] (fun dv iv wr => ∃ (k : Nat), k ≤ SN ∧ iv = .int .i64 (k : Nat) ∧ OT W2 wr dv ((.slice vo wi vc, .slice ho hn hc, false) :: ss.take k)) (fun _ iv _ => SN - (intOf iv).toNat)
    case atStart => exact ⟨0, Nat.zero_le _, rfl, (unhide HZ).2.2.2.2⟩
    case round =>
      obtain ⟨k, hk, rfl, hT⟩ := hrel
      have hSD : SN = D := by have h1 := (unhide H1).2.2.2.2.2; have h2 := (unhide HC).2.2.2.2.2; have h3 := (unhide H1).2.2.2.2.1; omega
      have htl : (((Value.slice vo wi vc, Value.slice ho hn hc, false) :: ss.take k) : List (Value × Value × Bool)).length = k + 1 := by rw [List.length_cons, List.length_take]; omega
      by_cases hlt : k < SN
      · have hlt' : (k : Int) < (SN : Int) := by omega
        have hks : k < ss.length := by omega
        have hF1r : Fr (fun _ => False) w1 wr := (unhide HZ).2.2.2.1.trans hT.fr (fun _ _ h => h)
        obtain ⟨g2, rfl, e0, e1, e2⟩ := (unhide H1).2.1.cell hF1r k hks
        obtain ⟨la, ln', lc', ra, rn, rc, es⟩ := (unhide H1).2.2.1.form k hks
        have htk : ss.take (k + 1) = ss.take k ++ [ss[k]] := by rw [List.take_add_one, List.getElem?_eq_getElem hks]; rfl
        generalize ss[k].2.2 = b at *
        rw [es] at e0 e1 htk
        simp only at e0 e1
        obtain ⟨ao, cap, w', hr, hown, hgrow⟩ := app_step wr W2.heap.size _ _ la ln' lc' ra rn rc b hT.own (by rw [htl]; omega) hT.fr.size
        obtain ⟨da, dc, rfl⟩ := hT.form
        rw [htl] at hr hown
        have hT2 : OT W2 w' (.slice ao (k + 1 + 1) cap) ((.slice vo wi vc, .slice ho hn hc, false) :: ss.take (k + 1)) := by
          refine ⟨?_, (hT.fr.alloc _).grown hgrow (fun g hg => .inr (hT.own.lt g hg).1)⟩
          have e : (((Value.slice vo wi vc, Value.slice ho hn hc, false) :: ss.take (k + 1)) : List (Value × Value × Bool)).length = k + 1 + 1 := by rw [List.length_cons, List.length_take]; omega
          rw [e, htk, ← List.cons_append]
          exact hown
        have w1' : IntKind.i64.wrap ((k : Int) + 1) = (k : Int) + 1 := by rw [IntKind.wrap_i64]; omega
        have HR := hide hr
        have HT := hide hT2
        have hk8 : k < 8000000 := by omega
        clear hr hown hgrow hT hT2 htk es hF1r hSD
        rw [htl]
        clear htl
        go_wp2_with (at_builtin; refine wpList_app rfl (.tmp 86) (.tmp 91) 89 89 rfl _ _ _ rfl rfl (unhide HR) ?_)
        exact ⟨⟨k + 1, by omega, by go_num, unhide HT⟩, by simp [intOf]; omega⟩
      · have hlt' : ¬ (k : Int) < (SN : Int) := by omega
        rw [List.take_of_length_le (by omega)] at hT htl
        have c0 := (hT.fr.cell (lt_of_cell (unhide HZ).1) (fun h => h)).trans (unhide HZ).1
        have c1 := (hT.fr.cell (lt_of_cell (unhide HZ).2.1) (fun h => h)).trans (unhide HZ).2.1
        obtain ⟨da, dc, rfl⟩ := hT.form
        have hFw : Fr (fun _ => False) w1 wr := (unhide HZ).2.2.2.1.trans hT.fr (fun _ _ h => h)
        have HT := hide (And.intro hT (And.intro hFw htl))
        rw [htl]
        clear hT htl hFw hSD
        go_wp2_with fail
        refine ((unhide HC).2.2.1 wr _ _ ((unhide HC).2.2.2.1.fr0 ((unhide H1).2.2.2.1.trans (unhide HT).2.1 (fun _ _ h => h))) ((unhide HC).2.2.2.2.1.fr0 ((unhide H1).2.2.2.1.trans (unhide HT).2.1 (fun _ _ h => h))) ((unhide H1).1.fr0 (unhide HT).2.1)).mono ?_
        rintro e w5 ⟨yo, yc, rfl, hS5, hF5⟩
        have H5 := hide (And.intro hS5 hF5)
        clear hS5 hF5
        go_wp2_with fail
        go_returns
        have hF15 := (unhide HT).2.1.trans (unhide H5).2 (fun _ _ h => h)
        have hF05 := (unhide H1).2.2.2.1.trans hF15 (fun _ _ h => h)
        refine ⟨fun _ => ⟨yo, wi, yc, da, dc, (.slice vo wi vc, .slice ho hn hc, false) :: ss, by rw [(unhide HT).2.2]; rfl, (unhide H5).1, ?_, ?_⟩, fun h => absurd (by have := (unhide H1).2.2.2.2.1; omega) h, hF05⟩
        · exact ((unhide HT).1.fr0 (unhide H5).2).base ((unhide H1).2.2.2.1.trans (unhide HZ).2.2.2.1 (fun _ _ h => h))
        · exact StOk.cons ((unhide HC).2.2.2.2.1.fr0 hF05) ((unhide H1).1.fr0 hF15) rfl ((unhide H1).2.2.1.fr0 hF15)
  · obtain ⟨ho, hn, hc, rfl⟩ := hB hd
    have H1 := hide (And.intro hF hd)
    clear hA hB hF hd
    go_wp2_with fail
    go_returns
    exact ⟨fun h => absurd (by omega) (unhide H1).2, fun _ => ⟨none, 0, 0, rfl⟩, (unhide H1).1⟩
/-- The document's climb. -/
theorem climb_any (wi : Nat) (hw1 : 1 ≤ wi) (hw32 : wi ≤ 32) (leaf : List Nat) (hll : leaf.length = wi) (lo : Option Addr) (ln lc : Nat) (m : Nat) : ∀ (f n i : Nat) (ps : List (List Nat)) (vs : List Value) (x : Value) (w : World), n ≤ m → 1 ≤ n → n < 9223372036854775808 → f ≤ i → i < f + n → GR w → Sl w (.slice lo ln lc) leaf → Pcs w x vs ps → Cp x → ps.length ≤ 8000000 → (∀ p ∈ ps, p.length = wi) → ClSays wi leaf (.slice lo ln lc) f n i ps x w := by
  induction m with
  | zero => intro f n i ps vs x w h h1; omega
  | succ m ih =>
    intro f n i ps vs x w h h1 hn hfi hin hr hl hp hcx hps hpw
    by_cases h2 : n = 1
    · subst h2
      exact climb_one wi leaf _ f i ps vs x w hl hp (by omega)
    · have hlt := hf_lt n (by omega)
      have hpos := hf_pos n
      by_cases h0 : ps = []
      · subst h0
        refine climb_short wi leaf _ f n i vs x w hl hp (by omega) ?_
        by_cases hi : i < f + hf n
        · rw [dep_l (by omega) (by omega) hi]; omega
        · rw [dep_r (by omega) (by omega) hi]; omega
      · obtain ⟨D, hD⟩ : ∃ D, ps.length = D + 1 := ⟨ps.length - 1, by have := List.length_pos_iff.2 h0; omega⟩
        obtain ⟨xo, xc, rfl⟩ := hp.form
        obtain ⟨g, o, v, rfl, -⟩ := hp.cell (Fr.refl _ _) 0 (by omega)
        have hcap : ps.length ≤ xc := hcx _ _ _ rfl
        rw [hD] at hp hcx hcap ⊢
        have hp' := hp.take D (by omega)
        have hcx' : Cp (.slice (some ⟨g, o, none⟩) D xc) := fun _ _ _ e => by cases e; omega
        have htl : (ps.take D).length ≤ 8000000 := by rw [List.length_take]; omega
        have hpw' : ∀ p ∈ ps.take D, p.length = wi := fun p h => hpw p (List.mem_of_mem_take h)
        by_cases hi : i < f + hf n
        · exact climb_left wi hw1 hw32 leaf lo ln lc f n i D ps vs g o xc w hr hp hcap hD (by omega) (by omega) hn hfi hi hll hpw (fun w' hf' => ih f (hf n) i _ _ _ w' (by omega) (by omega) (by omega) hfi hi (hr.fr0 hf') (hl.fr0 hf') (hp'.fr0 hf') hcx' htl hpw')
        · exact climb_right wi hw1 hw32 leaf lo ln lc f n i D ps vs g o xc w hr hp hcap hD (by omega) (by omega) hn hin hi hll hpw (fun w' hf' => ih (f + hf n) (n - hf n) i _ _ _ w' (by omega) (by omega) (by omega) (by omega) (by omega) (hr.fr0 hf') (hl.fr0 hf') (hp'.fr0 hf') hcx' htl hpw')
end Go.Proofs.YtocdnomfpgdglaaDoor

namespace Go.Proofs.YtocdnomfpgdglaaDoor
open Go.RowKit

theorem norm_id {a : List Nat} (h : ∀ v ∈ a, v < 256) : norm a = a := by
  rw [norm]
  conv => rhs; rw [← List.map_id a]
  exact List.map_congr_left (fun v hv => Nat.mod_eq_of_lt (h v hv))
theorem gsame_D {w : World} {x y : Value} {a b : List Nat} (hx : Sl w x a) (hy : Sl w y b) (ha : a.length ≤ 140737488355328) : Calls Tryd.prog 11 #[x, y] w fun e w' => e = .returned (.bool (decide (a = b))) ∧ Fr (fun _ => False) w w' := by
  refine (same_any x y a b w hx.s hy.s ha).mono ?_
  rintro e w' ⟨rfl, hn⟩
  refine ⟨?_, Fr.of_drewN hn⟩
  rw [sameB, norm_id hx.b, norm_id hy.b]
set_option maxRecDepth 100000 in
set_option maxHeartbeats 2000000 in
/-- The document's CheckPath. -/
theorem gcheckPath_any (j i n : Int) (lv rv x : Value) (leaf root : List Nat) (vs : List Value) (ps : List (List Nat)) (w : World) (hg_ : GR w) (hl : Sl w lv leaf) (hr : Sl w rv root) (hp : Pcs w x vs ps) (hcx : Cp x) (hn : n < 9223372036854775808) (hps : ps.length ≤ 8000000) :
    Calls Tryd.prog 35 #[.int .i64 j, lv, .int .i64 i, .int .i64 n, x, rv] w fun e w' => e = .returned (.bool (chkP j leaf i n ps root)) ∧ Fr (fun _ => False) w w' := by
  obtain ⟨lo, lc, rfl⟩ := hl.form
  obtain ⟨rr, rc, rfl⟩ := hr.form
  obtain ⟨xo, xc, rfl⟩ := hp.form
  by_cases h1o : j < 1 ∨ 32 < j
  · have h1 : ¬ (1 ≤ j ∧ j ≤ 32) := by omega
    have hB : chkP j leaf i n ps root = false := by rw [chkP, decide_eq_false h1]; rfl
    rw [hB]
    have HM := hide h1o
    clear hg_ hl hr hp hcx hn hps hB h1 h1o
    generalize leaf.length = LL at *
    generalize root.length = RL at *
    generalize ps.length = PL at *
    go_enter Tryd.func35, Tryd.ntmps35
    go_wp2_with fail
    refine (may_no j _ (unhide HM)).mono ?_
    rintro e' w0 ⟨rfl, rfl⟩
    go_wp2_with fail
    go_ret
    exact ⟨rfl, Fr.refl _ _⟩
  · have h1 : 1 ≤ j ∧ j ≤ 32 := by omega
    clear h1o
    have HM := hide h1
    by_cases h2' : i < 0
    · have h2 : ¬ 0 ≤ i := by omega
      have hB : chkP j leaf i n ps root = false := by rw [chkP, decide_eq_true h1, decide_eq_false h2]; rfl
      rw [hB]
      clear hg_ hl hr hp hcx hn hps hB h1
      generalize leaf.length = LL at *
      generalize root.length = RL at *
      generalize ps.length = PL at *
      go_enter Tryd.func35, Tryd.ntmps35
      go_wp2_with fail
      refine (may_yes j _ (unhide HM).1 (unhide HM).2).mono ?_
      rintro e' w0 ⟨rfl, rfl⟩
      go_wp2_with fail
      go_ret
      exact ⟨rfl, Fr.refl _ _⟩
    · have h2 : 0 ≤ i := by omega
      by_cases h3' : n ≤ i
      · have h3 : ¬ i < n := by omega
        have hB : chkP j leaf i n ps root = false := by rw [chkP, decide_eq_true h1, decide_eq_true h2, decide_eq_false h3]; rfl
        rw [hB]
        clear hg_ hl hr hp hcx hn hps hB h1
        generalize leaf.length = LL at *
        generalize root.length = RL at *
        generalize ps.length = PL at *
        go_enter Tryd.func35, Tryd.ntmps35
        go_wp2_with fail
        refine (may_yes j _ (unhide HM).1 (unhide HM).2).mono ?_
        rintro e' w0 ⟨rfl, rfl⟩
        go_wp2_with fail
        go_ret
        exact ⟨rfl, Fr.refl _ _⟩
      · have h3 : i < n := by omega
        have hce : chkP j leaf i n ps root = (wdq j [leaf, root] && (wdq j ps && (decide (ps.length = dep 0 n.toNat i.toNat 1) && decide (topv j.toNat leaf 0 n.toNat i.toNat 1 ps = root)))) := by
          rw [chkP, decide_eq_true h1, decide_eq_true h2, decide_eq_true h3]; rfl
        by_cases h4 : (leaf.length : Int) = j
        · by_cases h5 : (root.length : Int) = j
          · have hq1 : wdq j [leaf, root] = true := by simp [wdq, h4, h5]
            clear hce
            have hwd := gwide_any j _ vs ps w hp (by omega)
            obtain ⟨wi, rfl⟩ : ∃ k : Nat, j = (k : Int) := ⟨j.toNat, by omega⟩
            obtain ⟨I, rfl⟩ : ∃ k : Nat, i = (k : Int) := ⟨i.toNat, by omega⟩
            obtain ⟨N, rfl⟩ : ∃ k : Nat, n = (k : Int) := ⟨n.toNat, by omega⟩
            have hce : chkP wi leaf I N ps root = (wdq wi [leaf, root] && (wdq wi ps && (decide (ps.length = dep 0 N I 1) && decide (topv wi leaf 0 N I 1 ps = root)))) := by
              rw [chkP, decide_eq_true h1, decide_eq_true h2, decide_eq_true h3]; rfl
            rw [hce, hq1, Bool.true_and]
            clear hce hq1
            have h2'' : ¬ (I : Int) < 0 := by omega
            have h3'' : ¬ (N : Int) ≤ (I : Int) := by omega
            have h6 : ¬ N ≤ I := by omega
            have hlw : leaf.length = wi := by omega
            have hrw : root.length = wi := by omega
            rw [hlw] at hl ⊢
            rw [hrw] at hr ⊢
            cases hq2 : wdq wi ps with
            | false =>
              rw [hq2] at hwd
              rw [Bool.false_and]
              have HC := hide hwd
              clear hg_ hl hr hp hcx hn hps h1 h2 h3 hwd hq2 h4 h5 h2' h3' hlw hrw
              generalize ps.length = PL at *
              go_enter Tryd.func35, Tryd.ntmps35
              go_wp2_with fail
              refine (may_yes wi _ (unhide HM).1 (unhide HM).2).mono ?_
              rintro e' w0 ⟨rfl, rfl⟩
              go_wp2_with fail
              refine (unhide HC).mono ?_
              rintro e' w1 ⟨rfl, rfl⟩
              go_wp2_with fail
              go_ret
              exact ⟨rfl, Fr.refl _ _⟩
            | true =>
              rw [hq2] at hwd
              rw [Bool.true_and]
              have hpw : ∀ p ∈ ps, p.length = wi := fun p hp => by have := wdq_true hq2 p hp; omega
              have hcl := climb_any wi (by omega) (by omega) leaf hlw lo wi lc N 0 N I ps vs _ w (Nat.le_refl _) (by omega) (by omega) (by omega) (by omega) hg_ hl hp hcx hps hpw
              unfold ClSays at hcl
              rw [Nat.sub_zero] at hcl
              have hTw := topv_wid wi (by omega) (by omega) leaf hlw _ 0 N I 1 ps (Nat.le_refl _)
              generalize topv wi leaf 0 N I 1 ps = T at *
              generalize stpv wi leaf 0 N I ps = SS at *
              by_cases hd : ps.length = dep 0 N I 1
              · rw [decide_eq_true hd, Bool.true_and]
                obtain ⟨BB, hBB⟩ : ∃ BB, decide (T = root) = BB := ⟨_, rfl⟩
                rw [hBB]
                have HC := hide (And.intro hwd (And.intro hcl (And.intro hd (And.intro hr (And.intro hBB hTw)))))
                clear hg_ hl hr hp hcx hn hps h1 h2 h3 hwd hq2 h4 h5 h2' h3' hlw hrw hpw hcl hTw hBB hd
                generalize ps.length = PL at *
                go_enter Tryd.func35, Tryd.ntmps35
                go_wp2_with fail
                refine (may_yes wi _ (unhide HM).1 (unhide HM).2).mono ?_
                rintro e' w0 ⟨rfl, rfl⟩
                go_wp2_with fail
                refine (unhide HC).1.mono ?_
                rintro e' w1 ⟨rfl, rfl⟩
                go_wp2_with fail
                refine (unhide HC).2.1.mono ?_
                rintro e' w2 ⟨hA, -, hF⟩
                obtain ⟨ho, hn, hc, so, sc, ss, rfl, hS, -, -⟩ := hA (unhide HC).2.2.1
                have H1 := hide (And.intro hS hF)
                clear hA hS hF
                generalize ss.length = SN at *
                go_wp2_with fail
                refine (gsame_D (unhide H1).1 ((unhide HC).2.2.2.1.fr0 (unhide H1).2) (by have h1 := (unhide HC).2.2.2.2.2; have h2 := (unhide HM).2; omega)).mono ?_
                rintro e' w3 ⟨rfl, hF⟩
                rw [(unhide HC).2.2.2.2.1]
                have H2 := hide ((unhide H1).2.trans hF (fun _ _ h => h))
                clear hF
                go_wp2_with fail
                go_ret
                exact ⟨rfl, unhide H2⟩
              · rw [decide_eq_false hd, Bool.false_and]
                have HC := hide (And.intro hwd (And.intro hcl hd))
                clear hg_ hl hr hp hcx hn hps h1 h2 h3 hwd hq2 h4 h5 h2' h3' hlw hrw hpw hcl hTw hd
                generalize ps.length = PL at *
                go_enter Tryd.func35, Tryd.ntmps35
                go_wp2_with fail
                refine (may_yes wi _ (unhide HM).1 (unhide HM).2).mono ?_
                rintro e' w0 ⟨rfl, rfl⟩
                go_wp2_with fail
                refine (unhide HC).1.mono ?_
                rintro e' w1 ⟨rfl, rfl⟩
                go_wp2_with fail
                refine (unhide HC).2.1.mono ?_
                rintro e' w2 ⟨-, hB, hF⟩
                obtain ⟨ho, hn, hc, rfl⟩ := hB (unhide HC).2.2
                have H1 := hide hF
                clear hB hF
                go_wp2_with fail
                go_ret
                exact ⟨rfl, unhide H1⟩
          · have hB : chkP j leaf i n ps root = false := by
              rw [hce, wdq_false j [leaf, root] 1 (by simp) (by simpa using h5)]; rfl
            rw [hB]
            have q5 : ((root.length : Int) == j) = false := beq_false_of_ne h5
            have q4 : ((leaf.length : Int) == j) = true := by rw [h4]; simp
            clear hce
            clear hg_ hl hr hp hcx hn hps hB h1
            generalize leaf.length = LL at *
            generalize root.length = RL at *
            generalize ps.length = PL at *
            go_enter Tryd.func35, Tryd.ntmps35
            go_wp2_with fail
            refine (may_yes j _ (unhide HM).1 (unhide HM).2).mono ?_
            rintro e' w0 ⟨rfl, rfl⟩
            go_wp2_with fail
            go_ret
            exact ⟨rfl, Fr.refl _ _⟩
        · have hB : chkP j leaf i n ps root = false := by
            rw [hce, wdq_false j [leaf, root] 0 (by simp) (by simpa using h4)]; rfl
          rw [hB]
          have q4 : ((leaf.length : Int) == j) = false := beq_false_of_ne h4
          clear hce
          clear hg_ hl hr hp hcx hn hps hB h1
          generalize leaf.length = LL at *
          generalize root.length = RL at *
          generalize ps.length = PL at *
          go_enter Tryd.func35, Tryd.ntmps35
          go_wp2_with fail
          refine (may_yes j _ (unhide HM).1 (unhide HM).2).mono ?_
          rintro e' w0 ⟨rfl, rfl⟩
          go_wp2_with fail
          go_ret
          exact ⟨rfl, Fr.refl _ _⟩
end Go.Proofs.YtocdnomfpgdglaaDoor

namespace Go.Proofs.YtocdnomfpgdglaaDoor
open Go.RowKit

set_option maxRecDepth 100000 in
set_option maxHeartbeats 2000000 in
/-- The document's ahead: a step ahead of others. -/
theorem ahead_any (ho : Option Addr) (hn hc : Nat) (vo : Option Addr) (vn vc : Nat) (b0 : Bool) (so : Option Addr) (sc : Nat) (ss : List (Value × Value × Bool)) (ts : List (List Nat × List Nat × Bool)) (wb w : World) (hO : OT wb w (.slice so ss.length sc) ss) (hK : StOk w ss ts) (hl : ss.length ≤ 8000000) :
    Calls Tryd.prog 98 #[.agg #[.slice ho hn hc, .slice vo vn vc, .bool b0], .slice so ss.length sc] w fun e w' => ∃ da dc, e = .returned (.slice da (ss.length + 1) dc) ∧ OT w w' (.slice da (ss.length + 1) dc) ((.slice ho hn hc, .slice vo vn vc, b0) :: ss) := by
  have H1 := hide (And.intro hO (And.intro hK hl))
  clear hO hK hl
  generalize hSN : ss.length = SN at *
  go_enter Tryd.func98, Tryd.ntmps98
  go_wp2_with fail
  obtain ⟨W2, hW2⟩ : ∃ W2, w.alloc (.cells #[.slice ho hn hc, .slice vo vn vc, .bool b0] 131) = W2 := ⟨_, rfl⟩
  rw [hW2]
  obtain ⟨-, -, -, hF2⟩ := box3s w _ _ _ _ W2 hW2
  obtain ⟨W3, hW3⟩ : ∃ W3, W2.alloc (.cells #[.slice ho hn hc, .slice vo vn vc, .bool b0] 131) = W3 := ⟨_, rfl⟩
  rw [hW3]
  have hsz : w.heap.size + 1 = W2.heap.size := by rw [← hW2]; simp
  rw [hsz]
  have hT0 := OT.lit (Fr.refl _ W2) ho hn hc vo vn vc b0 W3 hW3
  have HZ := hide (And.intro hF2 hT0)
  clear hF2 hT0 hW2 hW3 hsz
  generalize w.heap.size = P at *
  go_loopw [5, 6] (fun dv iv wr => ∃ (k : Nat), k ≤ SN ∧ iv = .int .i64 (k : Nat) ∧ OT W2 wr dv ((.slice ho hn hc, .slice vo vn vc, b0) :: ss.take k)) (fun _ iv _ => SN - (intOf iv).toNat)
  case atStart => exact ⟨0, Nat.zero_le _, rfl, (unhide HZ).2⟩
  case round =>
    obtain ⟨k, hk, rfl, hT⟩ := hrel
    have hSD := (unhide H1).2.2
    have htl : (((Value.slice ho hn hc, Value.slice vo vn vc, b0) :: ss.take k) : List (Value × Value × Bool)).length = k + 1 := by rw [List.length_cons, List.length_take]; omega
    by_cases hlt : k < SN
    · have hlt' : (k : Int) < (SN : Int) := by omega
      have hks : k < ss.length := by omega
      have hF1r : Fr (fun _ => False) w wr := (unhide HZ).1.trans hT.fr (fun _ _ h => h)
      obtain ⟨g2, rfl, e0, e1, e2⟩ := (unhide H1).1.cell hF1r k hks
      obtain ⟨la, ln', lc', ra, rn, rc, es⟩ := (unhide H1).2.1.form k hks
      have htk : ss.take (k + 1) = ss.take k ++ [ss[k]] := by rw [List.take_add_one, List.getElem?_eq_getElem hks]; rfl
      generalize ss[k].2.2 = b at *
      rw [es] at e0 e1 htk
      simp only at e0 e1
      obtain ⟨ao, cap, w', hr, hown, hgrow⟩ := app_step wr W2.heap.size _ _ la ln' lc' ra rn rc b hT.own (by rw [htl]; omega) hT.fr.size
      obtain ⟨da, dc, rfl⟩ := hT.form
      rw [htl] at hr hown
      have hT2 : OT W2 w' (.slice ao (k + 1 + 1) cap) ((.slice ho hn hc, .slice vo vn vc, b0) :: ss.take (k + 1)) := by
        refine ⟨?_, (hT.fr.alloc _).grown hgrow (fun g hg => .inr (hT.own.lt g hg).1)⟩
        have e : (((Value.slice ho hn hc, Value.slice vo vn vc, b0) :: ss.take (k + 1)) : List (Value × Value × Bool)).length = k + 1 + 1 := by rw [List.length_cons, List.length_take]; omega
        rw [e, htk, ← List.cons_append]
        exact hown
      have w1' : IntKind.i64.wrap ((k : Int) + 1) = (k : Int) + 1 := by rw [IntKind.wrap_i64]; omega
      have HR := hide hr
      have HT := hide hT2
      clear hr hown hgrow hT hT2 htk es hF1r
      rw [htl]
      clear htl
      go_wp2_with (at_builtin; refine wpList_app rfl (.tmp 15) (.tmp 20) 89 89 rfl _ _ _ rfl rfl (unhide HR) ?_)
      exact ⟨⟨k + 1, by omega, by go_num, unhide HT⟩, by simp [intOf]; omega⟩
    · have hlt' : ¬ (k : Int) < (SN : Int) := by omega
      have hkN : k = SN := by omega
      rw [List.take_of_length_le (by omega)] at hT htl
      obtain ⟨da, dc, rfl⟩ := hT.form
      have HT := hide (And.intro hT (And.intro htl hkN))
      rw [htl]
      clear hT htl hkN hSD
      go_wp2_with fail
      go_ret
      have h1 := (unhide HT).2.1
      have h2 := (unhide HT).2.2
      have h3 := (unhide HT).1
      rw [h1] at h3
      subst h2
      exact ⟨da, dc, rfl, h3.base (unhide HZ).1⟩
end Go.Proofs.YtocdnomfpgdglaaDoor

namespace Go.Proofs.YtocdnomfpgdglaaDoor
open Go.RowKit

/-- The steps from a part down to another. -/
def stq (wi : Nat) (r : List Nat) (f n tf tn : Nat) (ps : List (List Nat)) : List (List Nat × List Nat × Bool) :=
  if _h : (f = tf ∧ n = tn) ∨ n < 2 then []
  else if tf < f + hf n then (topv wi r f (hf n) tf tn ps.dropLast, ps.getLastD [], true) :: stq wi r f (hf n) tf tn ps.dropLast
  else (ps.getLastD [], topv wi r (f + hf n) (n - hf n) tf tn ps.dropLast, false) :: stq wi r (f + hf n) (n - hf n) tf tn ps.dropLast
termination_by n
decreasing_by
  · exact hf_lt n (by omega)
  · have := hf_pos n; omega
theorem stq_eq (wi : Nat) (r : List Nat) (f n : Nat) (p : List (List Nat)) : stq wi r f n f n p = [] := by rw [stq, dif_pos (.inl ⟨rfl, rfl⟩)]
theorem stq_l {wi : Nat} {r : List Nat} {f n tf tn : Nat} {p : List (List Nat)} (h2 : 2 ≤ n) (hne : ¬ (f = tf ∧ n = tn)) (hlt : tf < f + hf n) : stq wi r f n tf tn p = (topv wi r f (hf n) tf tn p.dropLast, p.getLastD [], true) :: stq wi r f (hf n) tf tn p.dropLast := by
  conv => lhs; rw [stq, dif_neg (by omega), if_pos hlt]
theorem stq_r {wi : Nat} {r : List Nat} {f n tf tn : Nat} {p : List (List Nat)} (h2 : 2 ≤ n) (hne : ¬ (f = tf ∧ n = tn)) (hlt : ¬ tf < f + hf n) : stq wi r f n tf tn p = (p.getLastD [], topv wi r (f + hf n) (n - hf n) tf tn p.dropLast, false) :: stq wi r (f + hf n) (n - hf n) tf tn p.dropLast := by
  conv => lhs; rw [stq, dif_neg (by omega), if_neg hlt]
/-- Where SUB never went to the right, the old root is taken; else the first hash. -/
def useO (wh : Bool) (f n M : Nat) : Bool := wh && decide ((endF f n M).1 = f)
def rR (wh : Bool) (old : List Nat) (f n M : Nat) (ps : List (List Nat)) : List Nat := if useO wh f n M = true then old else ps.headD []
def rQ (wh : Bool) (f n M : Nat) (ps : List (List Nat)) : List (List Nat) := if useO wh f n M = true then ps else ps.tail
def rOk (wh : Bool) (f n M : Nat) (ps : List (List Nat)) : Prop := (useO wh f n M = true ∨ ps ≠ []) ∧ (rQ wh f n M ps).length = dep f n (endF f n M).1 (endF f n M).2
def RiSays (wi : Nat) (old : List Nat) (ov : Value) (wh : Bool) (f n M : Nat) (ps : List (List Nat)) (x : Value) (w : World) : Prop :=
  Calls Tryd.prog 72 #[.int .i64 wi, .int .i64 ((M - f : Nat) : Int), .int .i64 n, .bool wh, ov, x] w fun e w' =>
    (rOk wh f n M ps → ∃ ao an ac bo bn bc so sc ss, e = .returned (.tuple #[.slice ao an ac, .slice bo bn bc, .slice so ss.length sc, .bool true]) ∧ Sl w' (.slice ao an ac) (olderv wi (rR wh old f n M ps) f n (endF f n M).1 (endF f n M).2 (rQ wh f n M ps)) ∧ Sl w' (.slice bo bn bc) (topv wi (rR wh old f n M ps) f n (endF f n M).1 (endF f n M).2 (rQ wh f n M ps)) ∧ OT w w' (.slice so ss.length sc) ss ∧ StOk w' ss (stq wi (rR wh old f n M ps) f n (endF f n M).1 (endF f n M).2 (rQ wh f n M ps)) ∧ ss.length = dep f n (endF f n M).1 (endF f n M).2) ∧
    (¬ rOk wh f n M ps → ∃ ao an ac bo bn bc, e = .returned (.tuple #[.slice ao an ac, .slice bo bn bc, .slice none 0 0, .bool false])) ∧ Fr (fun _ => False) w w'
set_option maxRecDepth 100000 in
set_option maxHeartbeats 1000000 in
/-- rise: the whole part is the old one. -/
theorem rise_whole (wi : Nat) (old : List Nat) (ov : Value) (f n : Nat) (ps : List (List Nat)) (vs : List Value) (x : Value) (w : World) (ho : Sl w ov old) (hp : Pcs w x vs ps) : RiSays wi old ov true f n (f + n) ps x w := by
  have he : endF f n (f + n) = (f, n) := endF_eq rfl
  have hu : useO true f n (f + n) = true := by rw [useO, he]; simp
  have hR : rR true old f n (f + n) ps = old := by rw [rR, if_pos hu]
  have hQ : rQ true f n (f + n) ps = ps := by rw [rQ, if_pos hu]
  have hk : rOk true f n (f + n) ps ↔ ps.length = 0 := by
    rw [rOk, hQ, he]
    show (_ ∧ ps.length = dep f n f n) ↔ _
    rw [dep_eq]
    exact ⟨fun h => h.2, fun h => ⟨.inl hu, h⟩⟩
  unfold RiSays
  rw [hk, hR, hQ, he]
  simp only [olderv_eq, topv_eq, dep_eq, stq_eq]
  rw [show f + n - f = n by omega]
  obtain ⟨oo, oc, rfl⟩ := ho.form
  obtain ⟨xo, xc, rfl⟩ := hp.form
  have HO := hide ho
  clear ho hp hk hR hQ hu he
  generalize old.length = LN at *
  have q0 : ((n : Int) == (n : Int)) = true := by simp
  by_cases h0 : ps.length = 0
  · rw [h0]
    go_enter Tryd.func72, Tryd.ntmps72
    go_wp2_with fail
    go_returns
    exact ⟨fun _ => ⟨oo, LN, oc, oo, LN, oc, none, 0, [], rfl, unhide HO, unhide HO, OT.nil _, StOk.nil _, rfl⟩, fun h => by first | exact absurd rfl h | exact absurd trivial h, Fr.refl _ _⟩
  · have q1 : ((ps.length : Int) == 0) = false := beq_false_of_ne (by omega)
    generalize ps.length = PN at *
    go_enter Tryd.func72, Tryd.ntmps72
    go_wp2_with fail
    go_returns
    exact ⟨fun h => absurd h h0, fun _ => ⟨oo, LN, oc, oo, LN, oc, rfl⟩, Fr.refl _ _⟩
end Go.Proofs.YtocdnomfpgdglaaDoor

namespace Go.Proofs.YtocdnomfpgdglaaDoor
open Go.RowKit

/-- One hash less. -/
theorem q_step (u : Bool) (ps : List (List Nat)) (D d : Nat) (hlen : ps.length = D + 1) :
    ((u = true ∨ ps ≠ []) ∧ (if u = true then ps else ps.tail).length = d + 1 ↔ (u = true ∨ ps.take D ≠ []) ∧ (if u = true then ps.take D else (ps.take D).tail).length = d) ∧
    ((u = true ∨ ps.take D ≠ []) → ∀ old : List Nat, (if u = true then old else ps.headD []) = (if u = true then old else (ps.take D).headD []) ∧ (if u = true then ps else ps.tail).dropLast = (if u = true then ps.take D else (ps.take D).tail) ∧ (if u = true then ps else ps.tail).getLastD [] = ps[D]'(by omega)) := by
  have hdl : ps.dropLast = ps.take D := by rw [List.dropLast_eq_take, hlen]; rfl
  have hgl : ps.getLastD [] = ps[D] := getLastD_at ps D hlen
  have htl : (ps.take D).length = D := by rw [List.length_take]; omega
  cases u with
  | true =>
    simp only [if_true, true_or, true_and]
    refine ⟨by omega, fun _ _ => ⟨hdl, hgl⟩⟩
  | false =>
    clear hdl hgl htl
    rcases ps with _ | ⟨p, q⟩
    · simp at hlen
    · have hq : q.length = D := by simpa using hlen
      rcases D with _ | D
      · have hq0 : q = [] := List.length_eq_zero_iff.1 hq
        subst hq0
        simp
      · refine ⟨?_, fun _ old => ⟨?_, ?_, ?_⟩⟩
        · simp
          omega
        · simp
        · simp only [Bool.false_eq_true, if_false, List.tail_cons, List.take_succ_cons]
          rw [List.dropLast_eq_take, hq]; rfl
        · simp only [Bool.false_eq_true, if_false, List.tail_cons]
          rw [getLastD_at q D hq]; rfl
set_option maxRecDepth 100000 in
set_option maxHeartbeats 1000000 in
/-- rise: no hash is left. -/
theorem rise_short (wi : Nat) (old : List Nat) (ov : Value) (wh : Bool) (f n M : Nat) (vs : List Value) (x : Value) (w : World) (ho : Sl w ov old) (hp : Pcs w x vs []) (hM : f < M) (h : wh = false ∨ ¬ M = f + n) (hno : ¬ rOk wh f n M []) : RiSays wi old ov wh f n M [] x w := by
  unfold RiSays
  obtain ⟨oo, oc, rfl⟩ := ho.form
  obtain ⟨xo, xc, rfl⟩ := hp.form
  clear ho hp
  simp only [List.length_nil]
  generalize old.length = LN at *
  by_cases hm : M = f + n
  · have hw : wh = false := h.resolve_right (fun h => h hm)
    subst hw
    have e : M - f = n := by omega
    rw [e]
    have q0 : ((n : Int) == (n : Int)) = true := by simp
    have HN := hide hno
    clear hm h e hM hno
    go_enter Tryd.func72, Tryd.ntmps72
    go_wp2_with fail
    go_returns
    exact ⟨fun h => absurd h (unhide HN), fun _ => ⟨none, 0, 0, none, 0, 0, rfl⟩, Fr.refl _ _⟩
  · have q0 : (((M - f : Nat) : Int) == (n : Int)) = false := beq_false_of_ne (by omega)
    have q1 : ¬ M - f = n := by omega
    have HN := hide hno
    clear hm h hM hno
    generalize M - f = I at *
    go_enter Tryd.func72, Tryd.ntmps72
    go_wp2_with fail
    go_returns
    exact ⟨fun h => absurd h (unhide HN), fun _ => ⟨none, 0, 0, none, 0, 0, rfl⟩, Fr.refl _ _⟩
end Go.Proofs.YtocdnomfpgdglaaDoor

namespace Go.Proofs.YtocdnomfpgdglaaDoor
open Go.RowKit

set_option maxRecDepth 100000 in
set_option maxHeartbeats 1000000 in
/-- rise: the part's root is the one hash. -/
theorem rise_end (wi : Nat) (old : List Nat) (ov : Value) (f n D : Nat) (ps : List (List Nat)) (vs : List Value) (g o xc : Nat) (w : World) (ho : Sl w ov old) (hp : Pcs w (.slice (some ⟨g, o, none⟩) (D + 1) xc) vs ps) (hcap : D + 1 ≤ xc) (hlen : ps.length = D + 1) (hD8 : D < 8000000) : RiSays wi old ov false f n (f + n) ps (.slice (some ⟨g, o, none⟩) (D + 1) xc) w := by
  have he : endF f n (f + n) = (f, n) := endF_eq rfl
  have hu : ¬ useO false f n (f + n) = true := by rw [useO]; simp
  have hR : rR false old f n (f + n) ps = ps.headD [] := by rw [rR, if_neg hu]
  have hQ : rQ false f n (f + n) ps = ps.tail := by rw [rQ, if_neg hu]
  have hk : rOk false f n (f + n) ps ↔ D = 0 := by
    rw [rOk, hQ, he]
    show (_ ∧ ps.tail.length = dep f n f n) ↔ _
    rw [dep_eq, List.length_tail, hlen]
    exact ⟨fun h => by omega, fun h => ⟨.inr (fun e => by rw [e] at hlen; simp at hlen), by omega⟩⟩
  unfold RiSays
  rw [hk, hR, hQ, he]
  simp only [olderv_eq, topv_eq, dep_eq, stq_eq]
  rw [show f + n - f = n by omega]
  obtain ⟨oo, oc, rfl⟩ := ho.form
  obtain ⟨g', o', vo, vc, eg, hcell, hsl⟩ := hp.nth (Fr.refl _ _) D (by omega)
  cases eg
  have hhd : D = 0 → ps.headD [] = ps[D] := fun h => by
    subst h
    match ps, hlen with
    | p :: q, _ => rfl
  generalize ps[D] = A at *
  have HS := hide (And.intro hsl hhd)
  clear ho hp hk hR hQ hu he hsl hhd hlen
  generalize old.length = LN at *
  generalize A.length = AN at *
  have q0 : ((n : Int) == (n : Int)) = true := by simp
  have q3 : (((D : Int) + 1) == 0) = false := beq_false_of_ne (by omega)
  have q4 : ¬ (D : Int) + 1 = 0 := by omega
  have q5 : IntKind.i64.wrap ((D : Int) + 1 - 1) = (D : Int) := by rw [IntKind.wrap_i64]; omega
  have q6 : (D : Int) < (D : Int) + 1 := by omega
  have q7 : (D : Int) ≤ (xc : Int) := by omega
  by_cases h0 : D = 0
  · subst h0
    have hcell2 : w.cell? ⟨g, o, none⟩ = some (.slice vo AN vc) := hcell
    have HS2 := (unhide HS).2 rfl
    have HS3 := hide (show Sl w (.slice vo AN vc) (ps.headD []) by rw [HS2]; exact (unhide HS).1)
    clear HS2
    go_enter Tryd.func72, Tryd.ntmps72
    go_wp2_with fail
    go_returns
    exact ⟨⟨vo, AN, vc, vo, AN, vc, none, 0, [], rfl, by simpa using unhide HS3, by simpa using unhide HS3, OT.nil _, StOk.nil _, rfl⟩, Fr.refl _ _⟩
  · have q8 : ((D : Int) == 0) = false := beq_false_of_ne (by omega)
    go_enter Tryd.func72, Tryd.ntmps72
    go_wp2_with fail
    go_returns
    exact ⟨fun h => absurd h h0, fun _ => ⟨vo, AN, vc, vo, AN, vc, rfl⟩, Fr.refl _ _⟩
end Go.Proofs.YtocdnomfpgdglaaDoor

namespace Go.Proofs.YtocdnomfpgdglaaDoor
open Go.RowKit

set_option maxRecDepth 100000 in
set_option maxHeartbeats 2000000 in
/-- rise, down to the left: its walk. -/
theorem rise_go_l (wi I n K D g o xc d : Nat) (wh : Bool) (oo : Option Addr) (on oc : Nat) (vo : Option Addr) (vn vc : Nat) (A O T : List Nat) (TS : List (List Nat × List Nat × Bool)) (C : Prop) (w : World) (hcell : w.cell? ⟨g, o + D, none⟩ = some (.slice vo vn vc)) (hsl : Sl w (.slice vo vn vc) A) (hcap : D + 1 ≤ xc) (hD8 : D < 8000000) (hKn : K < n) (hIne : ¬ I = n) (hI : I ≤ K) (hd : C → d ≤ 8000000)
    (hha : Calls Tryd.prog 88 #[.int .i64 n] w fun e w' => e = .returned (.int .i64 (K : Nat)) ∧ w' = w)
    (hnode : ∀ w' x y, C → Fr (fun _ => False) w w' → Sl w' x T → Sl w' y A → Calls Tryd.prog 29 #[.int .i64 wi, x, y] w' fun e w'' => ∃ yo yc, e = .returned (.slice yo wi yc) ∧ Sl w'' (.slice yo wi yc) (nd wi T A) ∧ Fr (fun _ => False) w' w'')
    (ih : ∀ w', Fr (fun _ => False) w w' → Calls Tryd.prog 72 #[.int .i64 wi, .int .i64 (I : Int), .int .i64 (K : Int), .bool wh, .slice oo on oc, .slice (some ⟨g, o, none⟩) D xc] w' fun e w'' => (C → ∃ ao an ac bo bn bc so sc ss, e = .returned (.tuple #[.slice ao an ac, .slice bo bn bc, .slice so ss.length sc, .bool true]) ∧ Sl w'' (.slice ao an ac) O ∧ Sl w'' (.slice bo bn bc) T ∧ OT w' w'' (.slice so ss.length sc) ss ∧ StOk w'' ss TS ∧ ss.length = d) ∧ (¬ C → ∃ ao an ac bo bn bc, e = .returned (.tuple #[.slice ao an ac, .slice bo bn bc, .slice none 0 0, .bool false])) ∧ Fr (fun _ => False) w' w'') :
    Calls Tryd.prog 72 #[.int .i64 wi, .int .i64 (I : Int), .int .i64 (n : Int), .bool wh, .slice oo on oc, .slice (some ⟨g, o, none⟩) (D + 1) xc] w fun e w' => (C → ∃ ao an ac bo bn bc so sc ss, e = .returned (.tuple #[.slice ao an ac, .slice bo bn bc, .slice so ss.length sc, .bool true]) ∧ Sl w' (.slice ao an ac) O ∧ Sl w' (.slice bo bn bc) (nd wi T A) ∧ OT w w' (.slice so ss.length sc) ss ∧ StOk w' ss ((T, A, true) :: TS) ∧ ss.length = d + 1) ∧ (¬ C → ∃ ao an ac bo bn bc, e = .returned (.tuple #[.slice ao an ac, .slice bo bn bc, .slice none 0 0, .bool false])) ∧ Fr (fun _ => False) w w' := by
  have q0 : ((I : Int) == (n : Int)) = false := beq_false_of_ne (by omega)
  have q1 : ¬ I = n := hIne
  have q3 : (((D : Int) + 1) == 0) = false := beq_false_of_ne (by omega)
  have q4 : ¬ (D : Int) + 1 = 0 := by omega
  have q5 : IntKind.i64.wrap ((D : Int) + 1 - 1) = (D : Int) := by rw [IntKind.wrap_i64]; omega
  have q6 : (D : Int) < (D : Int) + 1 := by omega
  have q7 : (D : Int) ≤ (xc : Int) := by omega
  have q8 : (I : Int) ≤ (K : Int) := by omega
  have HC := hide (And.intro hha (And.intro ih (And.intro hnode (And.intro hsl hd))))
  clear hha ih hnode hsl hd hKn hIne hI hcap
  go_enter Tryd.func72, Tryd.ntmps72
  go_wp2_with fail
  refine (unhide HC).1.mono ?_
  rintro e w0 ⟨rfl, rfl⟩
  go_wp2_with fail
  refine ((unhide HC).2.1 _ (by first | exact Fr.refl _ _ | exact (Fr.refl _ _).drew)).mono ?_
  rintro e w1 ⟨hA, hB, hF⟩
  by_cases hC : C
  · obtain ⟨ao, an, ac, bo, bn, bc, so, sc, ss, rfl, s1, s2, s3, s4, s5⟩ := hA hC
    have H1 := hide (And.intro s1 (And.intro s2 (And.intro s3 (And.intro s4 (And.intro s5 (And.intro hF hC))))))
    clear hA hB s1 s2 s3 s4 s5 hF hC
    go_wp2_with fail
    refine ((unhide HC).2.2.1 w1 _ _ (unhide H1).2.2.2.2.2.2 (unhide H1).2.2.2.2.2.1 (unhide H1).2.1 ((unhide HC).2.2.2.1.fr0 (unhide H1).2.2.2.2.2.1)).mono ?_
    rintro e w2 ⟨yo, yc, rfl, hS2, hF2⟩
    have H2 := hide (And.intro hS2 hF2)
    clear hS2 hF2
    go_wp2_with fail
    refine (ahead_any bo bn bc vo vn vc true so sc ss TS _ w2 ((unhide H1).2.2.1.fr0 (unhide H2).2) ((unhide H1).2.2.2.1.fr0 (unhide H2).2) (by rw [(unhide H1).2.2.2.2.1]; exact (unhide HC).2.2.2.2 (unhide H1).2.2.2.2.2.2)).mono ?_
    rintro e w3 ⟨da, dc, rfl, hT⟩
    have hl : ((Value.slice bo bn bc, Value.slice vo vn vc, true) :: ss).length = ss.length + 1 := rfl
    have H3 := hide (And.intro hT hl)
    clear hT hl
    go_wp2_with fail
    go_returns
    have hF13 := (unhide H2).2.trans (unhide H3).1.fr (fun _ _ h => h)
    have hF03 := (unhide H1).2.2.2.2.2.1.trans hF13 (fun _ _ h => h)
    refine ⟨fun _ => ⟨ao, an, ac, yo, wi, yc, da, dc, (.slice bo bn bc, .slice vo vn vc, true) :: ss, rfl, (unhide H1).1.fr0 hF13, (unhide H2).1.fr0 (unhide H3).1.fr, (unhide H3).1.base ((unhide H1).2.2.2.2.2.1.trans (unhide H2).2 (fun _ _ h => h)), StOk.cons ((unhide H1).2.1.fr0 hF13) ((unhide HC).2.2.2.1.fr0 hF03) rfl ((unhide H1).2.2.2.1.fr0 hF13), by rw [List.length_cons, (unhide H1).2.2.2.2.1]⟩, fun h => absurd (unhide H1).2.2.2.2.2.2 h, hF03⟩
  · obtain ⟨ao, an, ac, bo, bn, bc, rfl⟩ := hB hC
    have H1 := hide (And.intro hF hC)
    clear hA hB hF hC
    go_wp2_with fail
    go_returns
    exact ⟨fun h => absurd h (unhide H1).2, fun _ => ⟨none, 0, 0, none, 0, 0, rfl⟩, (unhide H1).1⟩
set_option maxRecDepth 100000 in
set_option maxHeartbeats 2000000 in
/-- rise, down to the right: its walk. -/
theorem rise_go_r (wi I n K D g o xc d : Nat) (wh : Bool) (oo : Option Addr) (on oc : Nat) (vo : Option Addr) (vn vc : Nat) (A O T : List Nat) (TS : List (List Nat × List Nat × Bool)) (C : Prop) (w : World) (hcell : w.cell? ⟨g, o + D, none⟩ = some (.slice vo vn vc)) (hsl : Sl w (.slice vo vn vc) A) (hcap : D + 1 ≤ xc) (hD8 : D < 8000000) (h2 : 2 ≤ n) (hn : n < 9223372036854775808) (hKn : K < n) (hIne : ¬ I = n) (hI : ¬ I ≤ K) (hIn : I ≤ n) (hd : C → d ≤ 8000000)
    (hha : Calls Tryd.prog 88 #[.int .i64 n] w fun e w' => e = .returned (.int .i64 (K : Nat)) ∧ w' = w)
    (hnode : ∀ (B : List Nat) w' x y, C → (B = O ∨ B = T) → Fr (fun _ => False) w w' → Sl w' x A → Sl w' y B → Calls Tryd.prog 29 #[.int .i64 wi, x, y] w' fun e w'' => ∃ yo yc, e = .returned (.slice yo wi yc) ∧ Sl w'' (.slice yo wi yc) (nd wi A B) ∧ Fr (fun _ => False) w' w'')
    (ih : ∀ w', Fr (fun _ => False) w w' → Calls Tryd.prog 72 #[.int .i64 wi, .int .i64 ((I - K : Nat) : Int), .int .i64 ((n - K : Nat) : Int), .bool false, .slice oo on oc, .slice (some ⟨g, o, none⟩) D xc] w' fun e w'' => (C → ∃ ao an ac bo bn bc so sc ss, e = .returned (.tuple #[.slice ao an ac, .slice bo bn bc, .slice so ss.length sc, .bool true]) ∧ Sl w'' (.slice ao an ac) O ∧ Sl w'' (.slice bo bn bc) T ∧ OT w' w'' (.slice so ss.length sc) ss ∧ StOk w'' ss TS ∧ ss.length = d) ∧ (¬ C → ∃ ao an ac bo bn bc, e = .returned (.tuple #[.slice ao an ac, .slice bo bn bc, .slice none 0 0, .bool false])) ∧ Fr (fun _ => False) w' w'') :
    Calls Tryd.prog 72 #[.int .i64 wi, .int .i64 (I : Int), .int .i64 (n : Int), .bool wh, .slice oo on oc, .slice (some ⟨g, o, none⟩) (D + 1) xc] w fun e w' => (C → ∃ ao an ac bo bn bc so sc ss, e = .returned (.tuple #[.slice ao an ac, .slice bo bn bc, .slice so ss.length sc, .bool true]) ∧ Sl w' (.slice ao an ac) (nd wi A O) ∧ Sl w' (.slice bo bn bc) (nd wi A T) ∧ OT w w' (.slice so ss.length sc) ss ∧ StOk w' ss ((A, T, false) :: TS) ∧ ss.length = d + 1) ∧ (¬ C → ∃ ao an ac bo bn bc, e = .returned (.tuple #[.slice ao an ac, .slice bo bn bc, .slice none 0 0, .bool false])) ∧ Fr (fun _ => False) w w' := by
  have q0 : ((I : Int) == (n : Int)) = false := beq_false_of_ne (by omega)
  have q1 : ¬ I = n := hIne
  have q3 : (((D : Int) + 1) == 0) = false := beq_false_of_ne (by omega)
  have q4 : ¬ (D : Int) + 1 = 0 := by omega
  have q5 : IntKind.i64.wrap ((D : Int) + 1 - 1) = (D : Int) := by rw [IntKind.wrap_i64]; omega
  have q6 : (D : Int) < (D : Int) + 1 := by omega
  have q7 : (D : Int) ≤ (xc : Int) := by omega
  have q8 : ¬ (I : Int) ≤ (K : Int) := by omega
  have q9 : IntKind.i64.wrap ((I : Int) - (K : Int)) = ((I - K : Nat) : Int) := by rw [IntKind.wrap_i64]; omega
  have q10 : IntKind.i64.wrap ((n : Int) - (K : Int)) = ((n - K : Nat) : Int) := by rw [IntKind.wrap_i64]; omega
  have HC := hide (And.intro hha (And.intro ih (And.intro hnode (And.intro hsl hd))))
  clear hha ih hnode hsl hd h2 hn hKn hIne hI hIn hcap
  generalize I - K = IK at *
  generalize n - K = NK at *
  go_enter Tryd.func72, Tryd.ntmps72
  go_wp2_with fail
  refine (unhide HC).1.mono ?_
  rintro e w0 ⟨rfl, rfl⟩
  go_wp2_with fail
  refine ((unhide HC).2.1 _ (by first | exact Fr.refl _ _ | exact (Fr.refl _ _).drew)).mono ?_
  rintro e w1 ⟨hA, hB, hF⟩
  by_cases hC : C
  · obtain ⟨ao, an, ac, bo, bn, bc, so, sc, ss, rfl, s1, s2, s3, s4, s5⟩ := hA hC
    have H1 := hide (And.intro s1 (And.intro s2 (And.intro s3 (And.intro s4 (And.intro s5 (And.intro hF hC))))))
    clear hA hB s1 s2 s3 s4 s5 hF hC
    go_wp2_with fail
    refine ((unhide HC).2.2.1 O w1 _ _ (unhide H1).2.2.2.2.2.2 (.inl rfl) (unhide H1).2.2.2.2.2.1 ((unhide HC).2.2.2.1.fr0 (unhide H1).2.2.2.2.2.1) (unhide H1).1).mono ?_
    rintro e w2 ⟨yo, yc, rfl, hS2, hF2⟩
    have H2 := hide (And.intro hS2 (And.intro hF2 ((unhide H1).2.2.2.2.2.1.trans hF2 (fun _ _ h => h))))
    clear hS2 hF2
    go_wp2_with fail
    refine ((unhide HC).2.2.1 T w2 _ _ (unhide H1).2.2.2.2.2.2 (.inr rfl) (unhide H2).2.2 ((unhide HC).2.2.2.1.fr0 (unhide H2).2.2) ((unhide H1).2.1.fr0 (unhide H2).2.1)).mono ?_
    rintro e w4 ⟨to, tc, rfl, hS4, hF4⟩
    have H4 := hide (And.intro hS4 (And.intro hF4 ((unhide H2).2.1.trans hF4 (fun _ _ h => h))))
    clear hS4 hF4
    go_wp2_with fail
    refine (ahead_any vo vn vc bo bn bc false so sc ss TS _ w4 ((unhide H1).2.2.1.fr0 (unhide H4).2.2) ((unhide H1).2.2.2.1.fr0 (unhide H4).2.2) (by rw [(unhide H1).2.2.2.2.1]; exact (unhide HC).2.2.2.2 (unhide H1).2.2.2.2.2.2)).mono ?_
    rintro e w3 ⟨da, dc, rfl, hT⟩
    have hl : ((Value.slice vo vn vc, Value.slice bo bn bc, false) :: ss).length = ss.length + 1 := rfl
    have H3 := hide (And.intro hT hl)
    clear hT hl
    go_wp2_with fail
    go_returns
    have hF13 := (unhide H4).2.2.trans (unhide H3).1.fr (fun _ _ h => h)
    have hF03 := (unhide H1).2.2.2.2.2.1.trans hF13 (fun _ _ h => h)
    refine ⟨fun _ => ⟨yo, wi, yc, to, wi, tc, da, dc, (.slice vo vn vc, .slice bo bn bc, false) :: ss, rfl, ((unhide H2).1.fr0 (unhide H4).2.1).fr0 (unhide H3).1.fr, (unhide H4).1.fr0 (unhide H3).1.fr, (unhide H3).1.base ((unhide H1).2.2.2.2.2.1.trans (unhide H4).2.2 (fun _ _ h => h)), StOk.cons ((unhide HC).2.2.2.1.fr0 hF03) ((unhide H1).2.1.fr0 hF13) rfl ((unhide H1).2.2.2.1.fr0 hF13), by rw [List.length_cons, (unhide H1).2.2.2.2.1]⟩, fun h => absurd (unhide H1).2.2.2.2.2.2 h, hF03⟩
  · obtain ⟨ao, an, ac, bo, bn, bc, rfl⟩ := hB hC
    have H1 := hide (And.intro hF hC)
    clear hA hB hF hC
    go_wp2_with fail
    go_returns
    exact ⟨fun h => absurd h (unhide H1).2, fun _ => ⟨none, 0, 0, none, 0, 0, rfl⟩, (unhide H1).1⟩
end Go.Proofs.YtocdnomfpgdglaaDoor

namespace Go.Proofs.YtocdnomfpgdglaaDoor
open Go.RowKit

theorem rR_wid (wi : Nat) (wh : Bool) (old : List Nat) (f n M : Nat) (ps : List (List Nat)) (h : rOk wh f n M ps) (hol : old.length = wi) (hpw : ∀ p ∈ ps, p.length = wi) : (rR wh old f n M ps).length = wi := by
  unfold rR
  by_cases hu : useO wh f n M = true
  · rw [if_pos hu]; exact hol
  · rw [if_neg hu]
    have hne := h.1.resolve_left hu
    match ps, hne with
    | p :: q, _ => exact hpw p (by simp)
theorem rQ_le (wh : Bool) (f n M : Nat) (ps : List (List Nat)) : (rQ wh f n M ps).length ≤ ps.length := by
  unfold rQ
  by_cases hu : useO wh f n M = true
  · rw [if_pos hu]; exact Nat.le_refl _
  · rw [if_neg hu, List.length_tail]; omega
/-- rise, down to the left. -/
theorem rise_left (wi : Nat) (hw1 : 1 ≤ wi) (hw32 : wi ≤ 32) (old : List Nat) (hol : old.length = wi) (oo : Option Addr) (on oc : Nat) (wh : Bool) (f n M D : Nat) (ps : List (List Nat)) (vs : List Value) (g o xc : Nat) (w : World) (hr : GR w) (hp : Pcs w (.slice (some ⟨g, o, none⟩) (D + 1) xc) vs ps) (hcap : D + 1 ≤ xc) (hlen : ps.length = D + 1) (hD8 : D < 8000000) (h2 : 2 ≤ n) (hn : n < 9223372036854775808) (hfM : f < M) (hMn : ¬ M = f + n) (hM : M ≤ f + hf n) (hpw : ∀ p ∈ ps, p.length = wi)
    (ih : ∀ w', Fr (fun _ => False) w w' → RiSays wi old (.slice oo on oc) wh f (hf n) M (ps.take D) (.slice (some ⟨g, o, none⟩) D xc) w') : RiSays wi old (.slice oo on oc) wh f n M ps (.slice (some ⟨g, o, none⟩) (D + 1) xc) w := by
  have hlt := hf_lt n h2
  have hpos := hf_pos n
  obtain ⟨g', o', vo, vc, eg, hcell, hsl⟩ := hp.nth (Fr.refl _ _) D (by omega)
  cases eg
  have he := endF_l h2 hMn hM
  obtain ⟨e1, e2, e3, -, -⟩ := endF_ok _ f (hf n) M (Nat.le_refl _) hfM hM
  have hu : useO wh f n M = useO wh f (hf n) M := by unfold useO; rw [he]
  have hne : ¬ (f = (endF f (hf n) M).1 ∧ n = (endF f (hf n) M).2) := by omega
  have hlt2 : (endF f (hf n) M).1 < f + hf n := by omega
  have hdp := dep_l (tf := (endF f (hf n) M).1) (tn := (endF f (hf n) M).2) h2 hne hlt2
  have hq := q_step (useO wh f (hf n) M) ps D (dep f (hf n) (endF f (hf n) M).1 (endF f (hf n) M).2) hlen
  have hk : rOk wh f n M ps ↔ rOk wh f (hf n) M (ps.take D) := by
    unfold rOk rQ
    rw [he, hu, hdp]
    exact hq.1
  have hAw := hpw ps[D] (List.getElem_mem _)
  have hpw' : ∀ p ∈ ps.take D, p.length = wi := fun p h => hpw p (List.mem_of_mem_take h)
  have htl : (ps.take D).length = D := by rw [List.length_take]; omega
  have hTw : rOk wh f (hf n) M (ps.take D) → (topv wi (rR wh old f (hf n) M (ps.take D)) f (hf n) (endF f (hf n) M).1 (endF f (hf n) M).2 (rQ wh f (hf n) M (ps.take D))).length = wi := fun h => topv_wid wi hw1 hw32 _ (rR_wid wi wh old _ _ _ _ h hol hpw') _ _ _ _ _ _ (Nat.le_refl _)
  have hgo := rise_go_l wi (M - f) n (hf n) D g o xc (dep f (hf n) (endF f (hf n) M).1 (endF f (hf n) M).2) wh oo on oc vo _ vc ps[D] (olderv wi (rR wh old f (hf n) M (ps.take D)) f (hf n) (endF f (hf n) M).1 (endF f (hf n) M).2 (rQ wh f (hf n) M (ps.take D))) (topv wi (rR wh old f (hf n) M (ps.take D)) f (hf n) (endF f (hf n) M).1 (endF f (hf n) M).2 (rQ wh f (hf n) M (ps.take D))) (stq wi (rR wh old f (hf n) M (ps.take D)) f (hf n) (endF f (hf n) M).1 (endF f (hf n) M).2 (rQ wh f (hf n) M (ps.take D))) (rOk wh f (hf n) M (ps.take D)) w hcell hsl hcap hD8 hlt (by omega) (by omega)
    (fun h => by have := rQ_le wh f (hf n) M (ps.take D); have := h.2; omega)
    (half_any n w hn h2)
    (fun w' x y hC hF hx hy => by
      have hnd := nd_len wi hw1 hw32 (topv wi (rR wh old f (hf n) M (ps.take D)) f (hf n) (endF f (hf n) M).1 (endF f (hf n) M).2 (rQ wh f (hf n) M (ps.take D))) ps[D]
      refine (gnode_any (wi : Int) x y _ _ w' (hr.fr0 hF) hx.s hy.s hx.b hy.b (by rw [hTw hC]; omega) (by rw [hAw]; omega)).mono ?_
      rintro e w'' ⟨yo, yc, rfl, hO⟩
      have hs := hO.sl (nd_lt _ _ _)
      rw [hnd] at hs ⊢
      exact ⟨yo, yc, rfl, hs, hO.fr⟩)
    (fun w' hF => by
      have h := ih w' hF
      unfold RiSays at h
      exact h)
  unfold RiSays
  refine hgo.mono ?_
  rintro e w' ⟨hA, hB, hF⟩
  refine ⟨fun h => ?_, fun h => hB (fun h' => h (hk.2 h')), hF⟩
  have hC := hk.1 h
  obtain ⟨ao, an, ac, bo, bn, bc, so, sc, ss, rfl, s1, s2, s3, s4, s5⟩ := hA hC
  obtain ⟨r1, r2, r3⟩ := hq.2 hC.1 old
  have hR : rR wh old f n M ps = rR wh old f (hf n) M (ps.take D) := by unfold rR; rw [hu]; exact r1
  have hQ : (rQ wh f n M ps).dropLast = rQ wh f (hf n) M (ps.take D) := by unfold rQ; rw [hu]; exact r2
  have hG : (rQ wh f n M ps).getLastD [] = ps[D] := by unfold rQ; rw [hu]; exact r3
  refine ⟨ao, an, ac, bo, bn, bc, so, sc, ss, rfl, ?_, ?_, s3, ?_, ?_⟩
  · rw [he, olderv_l h2 hne hlt2, hR, hQ]; exact s1
  · rw [he, topv_l h2 hne hlt2, hR, hQ, hG]; exact s2
  · rw [he, stq_l h2 hne hlt2, hR, hQ, hG]; exact s4
  · rw [he, hdp]; exact s5
/-- rise, down to the right. -/
theorem rise_right (wi : Nat) (hw1 : 1 ≤ wi) (hw32 : wi ≤ 32) (old : List Nat) (hol : old.length = wi) (oo : Option Addr) (on oc : Nat) (wh : Bool) (f n M D : Nat) (ps : List (List Nat)) (vs : List Value) (g o xc : Nat) (w : World) (hr : GR w) (hp : Pcs w (.slice (some ⟨g, o, none⟩) (D + 1) xc) vs ps) (hcap : D + 1 ≤ xc) (hlen : ps.length = D + 1) (hD8 : D < 8000000) (h2 : 2 ≤ n) (hn : n < 9223372036854775808) (hfM : f < M) (hMn : ¬ M = f + n) (hMle : M ≤ f + n) (hM : ¬ M ≤ f + hf n) (hpw : ∀ p ∈ ps, p.length = wi)
    (ih : ∀ w', Fr (fun _ => False) w w' → RiSays wi old (.slice oo on oc) false (f + hf n) (n - hf n) M (ps.take D) (.slice (some ⟨g, o, none⟩) D xc) w') : RiSays wi old (.slice oo on oc) wh f n M ps (.slice (some ⟨g, o, none⟩) (D + 1) xc) w := by
  have hlt := hf_lt n h2
  have hpos := hf_pos n
  obtain ⟨g', o', vo, vc, eg, hcell, hsl⟩ := hp.nth (Fr.refl _ _) D (by omega)
  cases eg
  have he := endF_r h2 hMn hM
  obtain ⟨e1, e2, e3, -, -⟩ := endF_ok _ (f + hf n) (n - hf n) M (Nat.le_refl _) (by omega) (by omega)
  have hu1 : useO wh f n M = false := by
    unfold useO; rw [he]
    rw [decide_eq_false (by omega), Bool.and_false]
  have hu2 : useO false (f + hf n) (n - hf n) M = false := rfl
  have hu : useO wh f n M = useO false (f + hf n) (n - hf n) M := hu1.trans hu2.symm
  have hne : ¬ (f = (endF (f + hf n) (n - hf n) M).1 ∧ n = (endF (f + hf n) (n - hf n) M).2) := by omega
  have hlt2 : ¬ (endF (f + hf n) (n - hf n) M).1 < f + hf n := by omega
  have hdp := dep_r (tf := (endF (f + hf n) (n - hf n) M).1) (tn := (endF (f + hf n) (n - hf n) M).2) h2 hne hlt2
  have hq := q_step (useO false (f + hf n) (n - hf n) M) ps D (dep (f + hf n) (n - hf n) (endF (f + hf n) (n - hf n) M).1 (endF (f + hf n) (n - hf n) M).2) hlen
  have hk : rOk wh f n M ps ↔ rOk false (f + hf n) (n - hf n) M (ps.take D) := by
    unfold rOk rQ
    rw [he, hu, hdp]
    exact hq.1
  have hAw := hpw ps[D] (List.getElem_mem _)
  have hpw' : ∀ p ∈ ps.take D, p.length = wi := fun p h => hpw p (List.mem_of_mem_take h)
  have htl : (ps.take D).length = D := by rw [List.length_take]; omega
  have hTw : rOk false (f + hf n) (n - hf n) M (ps.take D) → (topv wi (rR false old (f + hf n) (n - hf n) M (ps.take D)) (f + hf n) (n - hf n) (endF (f + hf n) (n - hf n) M).1 (endF (f + hf n) (n - hf n) M).2 (rQ false (f + hf n) (n - hf n) M (ps.take D))).length = wi := fun h => topv_wid wi hw1 hw32 _ (rR_wid wi false old _ _ _ _ h hol hpw') _ _ _ _ _ _ (Nat.le_refl _)
  have hOw : rOk false (f + hf n) (n - hf n) M (ps.take D) → (olderv wi (rR false old (f + hf n) (n - hf n) M (ps.take D)) (f + hf n) (n - hf n) (endF (f + hf n) (n - hf n) M).1 (endF (f + hf n) (n - hf n) M).2 (rQ false (f + hf n) (n - hf n) M (ps.take D))).length = wi := fun h => olderv_wid wi hw1 hw32 _ (rR_wid wi false old _ _ _ _ h hol hpw') _ _ _ _ _ _ (Nat.le_refl _)
  have hsub : M - (f + hf n) = M - f - hf n := by omega
  have hgo := rise_go_r wi (M - f) n (hf n) D g o xc (dep (f + hf n) (n - hf n) (endF (f + hf n) (n - hf n) M).1 (endF (f + hf n) (n - hf n) M).2) wh oo on oc vo _ vc ps[D] (olderv wi (rR false old (f + hf n) (n - hf n) M (ps.take D)) (f + hf n) (n - hf n) (endF (f + hf n) (n - hf n) M).1 (endF (f + hf n) (n - hf n) M).2 (rQ false (f + hf n) (n - hf n) M (ps.take D))) (topv wi (rR false old (f + hf n) (n - hf n) M (ps.take D)) (f + hf n) (n - hf n) (endF (f + hf n) (n - hf n) M).1 (endF (f + hf n) (n - hf n) M).2 (rQ false (f + hf n) (n - hf n) M (ps.take D))) (stq wi (rR false old (f + hf n) (n - hf n) M (ps.take D)) (f + hf n) (n - hf n) (endF (f + hf n) (n - hf n) M).1 (endF (f + hf n) (n - hf n) M).2 (rQ false (f + hf n) (n - hf n) M (ps.take D))) (rOk false (f + hf n) (n - hf n) M (ps.take D)) w hcell hsl hcap hD8 h2 hn hlt (by omega) (by omega) (by omega)
    (fun h => by have := rQ_le false (f + hf n) (n - hf n) M (ps.take D); have := h.2; omega)
    (half_any n w hn h2)
    (fun B w' x y hC hB hF hx hy => by
      have hBw : B.length = wi := hB.elim (fun h => by rw [h]; exact hOw hC) (fun h => by rw [h]; exact hTw hC)
      have hnd := nd_len wi hw1 hw32 ps[D] B
      refine (gnode_any (wi : Int) x y _ _ w' (hr.fr0 hF) hx.s hy.s hx.b hy.b (by rw [hAw]; omega) (by rw [hBw]; omega)).mono ?_
      rintro e w'' ⟨yo, yc, rfl, hO⟩
      have hs := hO.sl (nd_lt _ _ _)
      rw [hnd] at hs ⊢
      exact ⟨yo, yc, rfl, hs, hO.fr⟩)
    (fun w' hF => by
      have h := ih w' hF
      unfold RiSays at h
      rw [hsub] at h
      exact h)
  unfold RiSays
  refine hgo.mono ?_
  rintro e w' ⟨hA, hB, hF⟩
  refine ⟨fun h => ?_, fun h => hB (fun h' => h (hk.2 h')), hF⟩
  have hC := hk.1 h
  obtain ⟨ao, an, ac, bo, bn, bc, so, sc, ss, rfl, s1, s2, s3, s4, s5⟩ := hA hC
  obtain ⟨r1, r2, r3⟩ := hq.2 hC.1 old
  have hR : rR wh old f n M ps = rR false old (f + hf n) (n - hf n) M (ps.take D) := by unfold rR; rw [hu]; exact r1
  have hQ : (rQ wh f n M ps).dropLast = rQ false (f + hf n) (n - hf n) M (ps.take D) := by unfold rQ; rw [hu]; exact r2
  have hG : (rQ wh f n M ps).getLastD [] = ps[D] := by unfold rQ; rw [hu]; exact r3
  refine ⟨ao, an, ac, bo, bn, bc, so, sc, ss, rfl, ?_, ?_, s3, ?_, ?_⟩
  · rw [he, olderv_r h2 hne hlt2, hR, hQ, hG]; exact s1
  · rw [he, topv_r h2 hne hlt2, hR, hQ, hG]; exact s2
  · rw [he, stq_r h2 hne hlt2, hR, hQ, hG]; exact s4
  · rw [he, hdp]; exact s5
/-- The document's rise. -/
theorem rise_any (wi : Nat) (hw1 : 1 ≤ wi) (hw32 : wi ≤ 32) (old : List Nat) (hol : old.length = wi) (oo : Option Addr) (on oc : Nat) (m : Nat) : ∀ (wh : Bool) (f n M : Nat) (ps : List (List Nat)) (vs : List Value) (x : Value) (w : World), n ≤ m → n < 9223372036854775808 → f < M → M ≤ f + n → GR w → Sl w (.slice oo on oc) old → Pcs w x vs ps → Cp x → ps.length ≤ 8000000 → (∀ p ∈ ps, p.length = wi) → RiSays wi old (.slice oo on oc) wh f n M ps x w := by
  induction m with
  | zero => intro wh f n M ps vs x w h _ h1 h2; omega
  | succ m ih =>
    intro wh f n M ps vs x w h hn hfM hMn hr hl hp hcx hps hpw
    by_cases hw : wh = true ∧ M = f + n
    · obtain ⟨rfl, rfl⟩ := hw
      exact rise_whole wi old _ f n ps vs x w hl hp
    · have hw' : wh = false ∨ ¬ M = f + n := by
        cases wh
        · exact .inl rfl
        · exact .inr (fun h => hw ⟨rfl, h⟩)
      by_cases h0 : ps = []
      · subst h0
        refine rise_short wi old _ wh f n M vs x w hl hp hfM hw' ?_
        rintro ⟨hk1, hk2⟩
        have hu : useO wh f n M = true := hk1.resolve_right (fun h => h rfl)
        have hk3 : dep f n (endF f n M).1 (endF f n M).2 = 0 := by
          rw [← hk2, rQ, if_pos hu]; rfl
        have hwh : wh = true := by cases wh; exact absurd hu (by simp [useO]); rfl
        have hMne : ¬ M = f + n := fun h => hw ⟨hwh, h⟩
        obtain ⟨e1, e2, e3, -, -⟩ := endF_ok _ f n M (Nat.le_refl _) hfM hMn
        by_cases hlt : (endF f n M).1 < f + hf n
        · rw [dep_l (by omega) (by omega) hlt] at hk3; omega
        · rw [dep_r (by omega) (by omega) hlt] at hk3; omega
      · obtain ⟨D, hD⟩ : ∃ D, ps.length = D + 1 := ⟨ps.length - 1, by have := List.length_pos_iff.2 h0; omega⟩
        obtain ⟨xo, xc, rfl⟩ := hp.form
        obtain ⟨g, o, v, rfl, -⟩ := hp.cell (Fr.refl _ _) 0 (by omega)
        have hcap : ps.length ≤ xc := hcx _ _ _ rfl
        rw [hD] at hp hcx hcap ⊢
        by_cases hM : M = f + n
        · have hwf : wh = false := hw'.resolve_right (fun h => h hM)
          subst hwf hM
          exact rise_end wi old _ f n D ps vs g o xc w hl hp hcap hD (by omega)
        · have h2 : 2 ≤ n := by omega
          have hlt := hf_lt n h2
          have hpos := hf_pos n
          have hp' := hp.take D (by omega)
          have hcx' : Cp (.slice (some ⟨g, o, none⟩) D xc) := fun _ _ _ e => by cases e; omega
          have htl : (ps.take D).length ≤ 8000000 := by rw [List.length_take]; omega
          have hpw' : ∀ p ∈ ps.take D, p.length = wi := fun p h => hpw p (List.mem_of_mem_take h)
          by_cases hi : M ≤ f + hf n
          · exact rise_left wi hw1 hw32 old hol oo on oc wh f n M D ps vs g o xc w hr hp hcap hD (by omega) h2 hn hfM hM hi hpw (fun w' hf' => ih wh f (hf n) M _ _ _ w' (by omega) (by omega) hfM hi (hr.fr0 hf') (hl.fr0 hf') (hp'.fr0 hf') hcx' htl hpw')
          · exact rise_right wi hw1 hw32 old hol oo on oc wh f n M D ps vs g o xc w hr hp hcap hD (by omega) h2 hn hfM hM hMn hi hpw (fun w' hf' => ih false (f + hf n) (n - hf n) M _ _ _ w' (by omega) (by omega) (by omega) (by omega) (hr.fr0 hf') (hl.fr0 hf') (hp'.fr0 hf') hcx' htl hpw')
end Go.Proofs.YtocdnomfpgdglaaDoor

namespace Go.Proofs.YtocdnomfpgdglaaDoor
open Go.RowKit

/-- What CheckProof asks of the hashes, said by rise. -/
theorem prfQ_r (wi n m : Nat) (old root : List Nat) (ps : List (List Nat)) : prfQ wi n m old root ps = true ↔ rOk true 0 n m ps ∧ olderv wi (rR true old 0 n m ps) 0 n (endF 0 n m).1 (endF 0 n m).2 (rQ true 0 n m ps) = old ∧ topv wi (rR true old 0 n m ps) 0 n (endF 0 n m).1 (endF 0 n m).2 (rQ true 0 n m ps) = root := by
  unfold prfQ rOk rR rQ useO
  by_cases he : (endF 0 n m).1 = 0
  · rw [if_pos he]
    simp only [decide_eq_true he, Bool.and_true, if_true, true_or, true_and, bodyQ, Bool.and_eq_true, decide_eq_true_eq]
  · rw [if_neg he]
    simp only [decide_eq_false he, Bool.and_false, Bool.false_eq_true, if_false, false_or]
    rcases ps with _ | ⟨p, q⟩
    · simp
    · simp [bodyQ]
theorem prfQ_same (wi n : Nat) (old root : List Nat) (ps : List (List Nat)) : prfQ wi n n old root ps = (decide (ps.length = 0) && decide (old = root)) := by
  have he : endF 0 n n = (0, n) := endF_eq (by omega)
  unfold prfQ bodyQ
  rw [he]
  simp only [if_true, dep_eq, olderv_eq, topv_eq, decide_true, Bool.true_and]
set_option maxRecDepth 100000 in
set_option maxHeartbeats 2000000 in
/-- The document's CheckProof: the guards. -/
theorem gcp_no (j m n : Int) (ov rv x : Value) (old root : List Nat) (vs : List Value) (ps : List (List Nat)) (w : World) (ho : Sl w ov old) (hr : Sl w rv root) (hp : Pcs w x vs ps) (hps : ps.length ≤ 8000000)
    (h : ¬ (1 ≤ j ∧ j ≤ 32 ∧ 0 ≤ m ∧ m ≤ n ∧ (old.length : Int) = j ∧ (root.length : Int) = j ∧ wdq j ps = true)) :
    Calls Tryd.prog 37 #[.int .i64 j, .int .i64 m, .int .i64 n, ov, rv, x] w fun e w' => e = .returned (.bool false) ∧ Fr (fun _ => False) w w' := by
  obtain ⟨oo, oc, rfl⟩ := ho.form
  obtain ⟨rr, rc, rfl⟩ := hr.form
  have hwd := gwide_any j _ vs ps w hp (by omega)
  obtain ⟨xo, xc, rfl⟩ := hp.form
  have HW := hide hwd
  clear ho hr hp hps hwd
  by_cases h1 : j < 1 ∨ 32 < j
  · have HM := hide h1
    clear h h1 HW
    generalize old.length = LL at *
    generalize root.length = RL at *
    generalize ps.length = PL at *
    go_enter Tryd.func37, Tryd.ntmps37
    go_wp2_with fail
    refine (may_no j _ (unhide HM)).mono ?_
    rintro e' w0 ⟨rfl, rfl⟩
    go_wp2_with fail
    go_ret
    exact ⟨rfl, Fr.refl _ _⟩
  · have h1' : 1 ≤ j ∧ j ≤ 32 := by omega
    have HM := hide h1'
    by_cases h2 : m < 0
    · clear h h1 HW h1'
      generalize old.length = LL at *
      generalize root.length = RL at *
      generalize ps.length = PL at *
      go_enter Tryd.func37, Tryd.ntmps37
      go_wp2_with fail
      refine (may_yes j _ (unhide HM).1 (unhide HM).2).mono ?_
      rintro e' w0 ⟨rfl, rfl⟩
      go_wp2_with fail
      go_ret
      exact ⟨rfl, Fr.refl _ _⟩
    · by_cases h3 : n < m
      · clear h h1 HW h1'
        generalize old.length = LL at *
        generalize root.length = RL at *
        generalize ps.length = PL at *
        go_enter Tryd.func37, Tryd.ntmps37
        go_wp2_with fail
        refine (may_yes j _ (unhide HM).1 (unhide HM).2).mono ?_
        rintro e' w0 ⟨rfl, rfl⟩
        go_wp2_with fail
        go_ret
        exact ⟨rfl, Fr.refl _ _⟩
      · by_cases h4 : (old.length : Int) = j
        · by_cases h5 : (root.length : Int) = j
          · have h6 : wdq j ps = false := by
              cases hq : wdq j ps with
              | false => rfl
              | true => exact absurd ⟨h1'.1, h1'.2, by omega, by omega, h4, h5, hq⟩ h
            rw [h6] at HW
            have q5 : ((root.length : Int) == j) = true := by rw [h5]; simp
            have q4 : ((old.length : Int) == j) = true := by rw [h4]; simp
            clear h h1 h1' h6
            generalize old.length = LL at *
            generalize root.length = RL at *
            generalize ps.length = PL at *
            go_enter Tryd.func37, Tryd.ntmps37
            go_wp2_with fail
            refine (may_yes j _ (unhide HM).1 (unhide HM).2).mono ?_
            rintro e' w0 ⟨rfl, rfl⟩
            go_wp2_with fail
            refine (unhide HW).mono ?_
            rintro e' w1 ⟨rfl, rfl⟩
            go_wp2_with fail
            go_ret
            exact ⟨rfl, Fr.refl _ _⟩
          · have q5 : ((root.length : Int) == j) = false := beq_false_of_ne h5
            have q4 : ((old.length : Int) == j) = true := by rw [h4]; simp
            clear h h1 h1' HW
            generalize old.length = LL at *
            generalize root.length = RL at *
            generalize ps.length = PL at *
            go_enter Tryd.func37, Tryd.ntmps37
            go_wp2_with fail
            refine (may_yes j _ (unhide HM).1 (unhide HM).2).mono ?_
            rintro e' w0 ⟨rfl, rfl⟩
            go_wp2_with fail
            go_ret
            exact ⟨rfl, Fr.refl _ _⟩
        · have q4 : ((old.length : Int) == j) = false := beq_false_of_ne h4
          clear h h1 h1' HW
          generalize old.length = LL at *
          generalize root.length = RL at *
          generalize ps.length = PL at *
          go_enter Tryd.func37, Tryd.ntmps37
          go_wp2_with fail
          refine (may_yes j _ (unhide HM).1 (unhide HM).2).mono ?_
          rintro e' w0 ⟨rfl, rfl⟩
          go_wp2_with fail
          go_ret
          exact ⟨rfl, Fr.refl _ _⟩
end Go.Proofs.YtocdnomfpgdglaaDoor

namespace Go.Proofs.YtocdnomfpgdglaaDoor
open Go.RowKit

set_option maxRecDepth 100000 in
set_option maxHeartbeats 2000000 in
/-- The document's CheckProof of no entries. -/
theorem gcp_zero (wi N : Nat) (hw1 : 1 ≤ wi) (hw32 : wi ≤ 32) (oo : Option Addr) (oc : Nat) (rr : Option Addr) (rc : Nat) (xo : Option Addr) (PL xc : Nat) (old root : List Nat) (w : World) (hg : GR w) (ho : Sl w (.slice oo wi oc) old) (hr : Sl w (.slice rr wi rc) root) (hol : old.length = wi) (hrl : root.length = wi)
    (hwd : Calls Tryd.prog 68 #[.int .i64 wi, .slice xo PL xc] w fun e w' => e = .returned (.bool true) ∧ w' = w) :
    Calls Tryd.prog 37 #[.int .i64 wi, .int .i64 0, .int .i64 N, .slice oo wi oc, .slice rr wi rc, .slice xo PL xc] w fun e w' => e = .returned (.bool (decide (PL = 0) && (decide (old = sm wi []) && (decide (0 < N) || decide (root = sm wi []))))) ∧ Fr (fun _ => False) w w' := by
  have hsum : Calls Tryd.prog 60 #[.int .i64 wi, .slice none 0 0] w fun e w' => ∃ yo yc, e = .returned (.slice yo (sm wi []).length yc) ∧ Sl w' (.slice yo (sm wi []).length yc) (sm wi []) ∧ Fr (fun _ => False) w w' := by
    refine (gsum_T wi _ [] w hg (.inl ⟨rfl, rfl⟩) (fun _ h => by cases h) (by simp)).mono ?_
    rintro e w' ⟨yo, yc, rfl, hO⟩
    exact ⟨yo, yc, rfl, hO.sl (sm_lt _ _), hO.fr⟩
  rw [sm_wid wi hw1 hw32] at hsum
  have h1' : 1 ≤ (wi : Int) ∧ (wi : Int) ≤ 32 := by omega
  have HM := hide h1'
  have hN : ¬ (N : Int) < 0 := by omega
  generalize sm wi [] = Z at *
  obtain ⟨B1, hB1⟩ : ∃ B, decide (old = Z) = B := ⟨_, rfl⟩
  obtain ⟨B2, hB2⟩ : ∃ B, decide (root = Z) = B := ⟨_, rfl⟩
  rw [hB1, hB2]
  have HC := hide (And.intro hsum (And.intro hwd (And.intro ho (And.intro hr (And.intro hB1 (And.intro hB2 (And.intro hol hrl)))))))
  clear hsum hwd ho hr hB1 hB2 hol hrl hg hw1 hw32 h1'
  have q0 : ∀ b : Bool, (b && false) = false := Bool.and_false
  go_enter Tryd.func37, Tryd.ntmps37
  go_wp2_with fail
  refine (may_yes wi _ (unhide HM).1 (unhide HM).2).mono ?_
  rintro e' w0 ⟨rfl, rfl⟩
  go_wp2_with fail
  refine (unhide HC).2.1.mono ?_
  rintro e' w1 ⟨rfl, rfl⟩
  go_wp2_with fail
  refine (unhide HC).1.mono ?_
  rintro e' w2 ⟨yo, yc, rfl, hS, hF⟩
  have H2 := hide (And.intro hS hF)
  clear hS hF
  by_cases hP : PL = 0
  · subst hP
    go_wp2_with fail
    refine (gsame_D ((unhide HC).2.2.1.fr0 (unhide H2).2) (unhide H2).1 (by have h1 := (unhide HC).2.2.2.2.2.2.1; have h2 := (unhide HM).2; omega)).mono ?_
    rintro e' w3 ⟨rfl, hF⟩
    rw [(unhide HC).2.2.2.2.1]
    have H3 := hide (And.intro hF ((unhide H2).2.trans hF (fun _ _ h => h)))
    clear hF
    cases B1 with
    | false =>
      go_wp2_with fail
      go_ret
      exact ⟨rfl, (unhide H3).2⟩
    | true =>
      by_cases hNp : 0 < N
      · have hNp' : 0 < (N : Int) := by omega
        go_wp2_with fail
        go_ret
        exact ⟨by simp, (unhide H3).2⟩
      · have hN0 : N = 0 := by omega
        subst hN0
        go_wp2_with fail
        refine (gsame_D ((unhide HC).2.2.2.1.fr0 (unhide H3).2) ((unhide H2).1.fr0 (unhide H3).1) (by have h1 := (unhide HC).2.2.2.2.2.2.2; have h2 := (unhide HM).2; omega)).mono ?_
        rintro e' w4 ⟨rfl, hF⟩
        rw [(unhide HC).2.2.2.2.2.1]
        have H4 := hide ((unhide H3).2.trans hF (fun _ _ h => h))
        clear hF
        go_wp2_with fail
        go_ret
        exact ⟨by simp, unhide H4⟩
  · have hP' : ((PL : Int) == 0) = false := beq_false_of_ne (by omega)
    go_wp2_with fail
    go_ret
    exact ⟨by simp [hP], (unhide H2).2⟩
set_option maxRecDepth 100000 in
set_option maxHeartbeats 2000000 in
/-- The document's CheckProof of all. -/
theorem gcp_all (wi N : Nat) (hN0 : 0 < N) (hw1 : 1 ≤ wi) (hw32 : wi ≤ 32) (oo : Option Addr) (oc : Nat) (rr : Option Addr) (rc : Nat) (xo : Option Addr) (PL xc : Nat) (old root : List Nat) (w : World) (hg : GR w) (ho : Sl w (.slice oo wi oc) old) (hr : Sl w (.slice rr wi rc) root) (hol : old.length = wi)
    (hwd : Calls Tryd.prog 68 #[.int .i64 wi, .slice xo PL xc] w fun e w' => e = .returned (.bool true) ∧ w' = w) :
    Calls Tryd.prog 37 #[.int .i64 wi, .int .i64 N, .int .i64 N, .slice oo wi oc, .slice rr wi rc, .slice xo PL xc] w fun e w' => e = .returned (.bool (decide (PL = 0) && decide (old = root))) ∧ Fr (fun _ => False) w w' := by
  have hsum : Calls Tryd.prog 60 #[.int .i64 wi, .slice none 0 0] w fun e w' => ∃ yo yc, e = .returned (.slice yo (sm wi []).length yc) ∧ Fr (fun _ => False) w w' := by
    refine (gsum_T wi _ [] w hg (.inl ⟨rfl, rfl⟩) (fun _ h => by cases h) (by simp)).mono ?_
    rintro e w' ⟨yo, yc, rfl, hO⟩
    exact ⟨yo, yc, rfl, hO.fr⟩
  rw [sm_wid wi hw1 hw32] at hsum
  have h1' : 1 ≤ (wi : Int) ∧ (wi : Int) ≤ 32 := by omega
  have HM := hide h1'
  have hN : ¬ (N : Int) < 0 := by omega
  have hN1 : ((N : Int) == 0) = false := beq_false_of_ne (by omega)
  have hN2 : ((N : Int) == (N : Int)) = true := by simp
  obtain ⟨B1, hB1⟩ : ∃ B, decide (old = root) = B := ⟨_, rfl⟩
  rw [hB1]
  have HC := hide (And.intro hsum (And.intro hwd (And.intro ho (And.intro hr (And.intro hB1 hol)))))
  clear hsum hwd ho hr hB1 hol hg hw1 hw32 h1' hN0
  go_enter Tryd.func37, Tryd.ntmps37
  go_wp2_with fail
  refine (may_yes wi _ (unhide HM).1 (unhide HM).2).mono ?_
  rintro e' w0 ⟨rfl, rfl⟩
  go_wp2_with fail
  refine (unhide HC).2.1.mono ?_
  rintro e' w1 ⟨rfl, rfl⟩
  go_wp2_with fail
  refine (unhide HC).1.mono ?_
  rintro e' w2 ⟨yo, yc, rfl, hF⟩
  have H2 := hide hF
  clear hF
  by_cases hP : PL = 0
  · subst hP
    go_wp2_with fail
    refine (gsame_D ((unhide HC).2.2.1.fr0 (unhide H2)) ((unhide HC).2.2.2.1.fr0 (unhide H2)) (by have h1 := (unhide HC).2.2.2.2.2; have h2 := (unhide HM).2; omega)).mono ?_
    rintro e' w3 ⟨rfl, hF⟩
    rw [(unhide HC).2.2.2.2.1]
    have H3 := hide ((unhide H2).trans hF (fun _ _ h => h))
    clear hF
    go_wp2_with fail
    go_ret
    exact ⟨by simp, unhide H3⟩
  · have hP' : ((PL : Int) == 0) = false := beq_false_of_ne (by omega)
    go_wp2_with fail
    go_ret
    exact ⟨by simp [hP], unhide H2⟩
end Go.Proofs.YtocdnomfpgdglaaDoor

namespace Go.Proofs.YtocdnomfpgdglaaDoor
open Go.RowKit

set_option maxRecDepth 100000 in
set_option maxHeartbeats 2000000 in
/-- The document's CheckProof of some. -/
theorem gcp_some (wi M N : Nat) (hM0 : 0 < M) (hMN : M < N) (hw1 : 1 ≤ wi) (hw32 : wi ≤ 32) (oo : Option Addr) (oc : Nat) (rr : Option Addr) (rc : Nat) (xo : Option Addr) (PL xc : Nat) (old root O T : List Nat) (C : Prop) (w : World) (hg : GR w) (ho : Sl w (.slice oo wi oc) old) (hr : Sl w (.slice rr wi rc) root) (hO : C → O.length = wi) (hT : C → T.length = wi) (B : Bool) (hB : B = true ↔ C ∧ O = old ∧ T = root)
    (hwd : Calls Tryd.prog 68 #[.int .i64 wi, .slice xo PL xc] w fun e w' => e = .returned (.bool true) ∧ w' = w)
    (hri : ∀ w', Fr (fun _ => False) w w' → Calls Tryd.prog 72 #[.int .i64 wi, .int .i64 M, .int .i64 N, .bool true, .slice oo wi oc, .slice xo PL xc] w' fun e w'' => (C → ∃ ao an ac bo bn bc so sn sc, e = .returned (.tuple #[.slice ao an ac, .slice bo bn bc, .slice so sn sc, .bool true]) ∧ Sl w'' (.slice ao an ac) O ∧ Sl w'' (.slice bo bn bc) T) ∧ (¬ C → ∃ ao an ac bo bn bc, e = .returned (.tuple #[.slice ao an ac, .slice bo bn bc, .slice none 0 0, .bool false])) ∧ Fr (fun _ => False) w' w'') :
    Calls Tryd.prog 37 #[.int .i64 wi, .int .i64 M, .int .i64 N, .slice oo wi oc, .slice rr wi rc, .slice xo PL xc] w fun e w' => e = .returned (.bool B) ∧ Fr (fun _ => False) w w' := by
  have hsum : Calls Tryd.prog 60 #[.int .i64 wi, .slice none 0 0] w fun e w' => ∃ yo yc, e = .returned (.slice yo (sm wi []).length yc) ∧ Fr (fun _ => False) w w' := by
    refine (gsum_T wi _ [] w hg (.inl ⟨rfl, rfl⟩) (fun _ h => by cases h) (by simp)).mono ?_
    rintro e w' ⟨yo, yc, rfl, hO⟩
    exact ⟨yo, yc, rfl, hO.fr⟩
  rw [sm_wid wi hw1 hw32] at hsum
  have h1' : 1 ≤ (wi : Int) ∧ (wi : Int) ≤ 32 := by omega
  have HM := hide h1'
  have hN : ¬ (M : Int) < 0 := by omega
  have hN1 : ((M : Int) == 0) = false := beq_false_of_ne (by omega)
  have hN2 : ((M : Int) == (N : Int)) = false := beq_false_of_ne (by omega)
  have hN3 : ¬ (N : Int) < (M : Int) := by omega
  have hN4 : ¬ N < M := by omega
  have hN5 : ¬ M = N := by omega
  have hN6 : ¬ M = 0 := by omega
  have HC := hide (And.intro hsum (And.intro hwd (And.intro ho (And.intro hr (And.intro hB (And.intro hri (And.intro hO hT)))))))
  clear hsum hwd ho hr hB hri hO hT hg hw1 hw32 h1' hM0 hMN
  go_enter Tryd.func37, Tryd.ntmps37
  go_wp2_with fail
  refine (may_yes wi _ (unhide HM).1 (unhide HM).2).mono ?_
  rintro e' w0 ⟨rfl, rfl⟩
  go_wp2_with fail
  refine (unhide HC).2.1.mono ?_
  rintro e' w1 ⟨rfl, rfl⟩
  go_wp2_with fail
  refine (unhide HC).1.mono ?_
  rintro e' w2 ⟨yo, yc, rfl, hF⟩
  have H2 := hide hF
  clear hF
  go_wp2_with fail
  refine ((unhide HC).2.2.2.2.2.1 _ (unhide H2)).mono ?_
  rintro e' w3 ⟨hA, hN, hF⟩
  have H3 := hide ((unhide H2).trans hF (fun _ _ h => h))
  clear hF
  by_cases hC : C
  · obtain ⟨ao, an, ac, bo, bn, bc, so, sn, sc, rfl, s1, s2⟩ := hA hC
    have HS := hide (And.intro s1 (And.intro s2 hC))
    clear hA hN s1 s2 hC
    go_wp2_with fail
    refine (gsame_D (unhide HS).1 ((unhide HC).2.2.1.fr0 (unhide H3)) (by have h1 := (unhide HC).2.2.2.2.2.2.1 (unhide HS).2.2; have h2 := (unhide HM).2; omega)).mono ?_
    rintro e' w4 ⟨rfl, hF⟩
    have H4 := hide (And.intro hF ((unhide H3).trans hF (fun _ _ h => h)))
    clear hF
    by_cases h1 : O = old
    · rw [decide_eq_true h1]
      go_wp2_with fail
      refine (gsame_D ((unhide HS).2.1.fr0 (unhide H4).1) ((unhide HC).2.2.2.1.fr0 (unhide H4).2) (by have h1 := (unhide HC).2.2.2.2.2.2.2 (unhide HS).2.2; have h2 := (unhide HM).2; omega)).mono ?_
      rintro e' w5 ⟨rfl, hF⟩
      have hBB : decide (T = root) = B := by
        have hB := (unhide HC).2.2.2.2.1
        by_cases h2 : T = root
        · rw [decide_eq_true h2, hB.2 ⟨(unhide HS).2.2, h1, h2⟩]
        · rw [decide_eq_false h2]
          cases B
          · rfl
          · exact absurd (hB.1 rfl).2.2 h2
      rw [hBB]
      have H5 := hide ((unhide H4).2.trans hF (fun _ _ h => h))
      clear hF h1 hBB
      go_wp2_with fail
      go_ret
      exact ⟨rfl, unhide H5⟩
    · rw [decide_eq_false h1]
      have hB : B = false := by
        cases B
        · rfl
        · exact absurd ((unhide HC).2.2.2.2.1.1 rfl).2.1 h1
      subst hB
      clear h1
      go_wp2_with fail
      go_ret
      exact ⟨rfl, (unhide H4).2⟩
  · obtain ⟨ao, an, ac, bo, bn, bc, rfl⟩ := hN hC
    have hB : B = false := by
      cases B
      · rfl
      · exact absurd ((unhide HC).2.2.2.2.1.1 rfl).1 hC
    subst hB
    clear hA hN hC
    go_wp2_with fail
    go_ret
    exact ⟨rfl, unhide H3⟩
/-- The document's CheckProof. -/
theorem gcheckProof_any (j m n : Int) (ov rv x : Value) (old root : List Nat) (vs : List Value) (ps : List (List Nat)) (w : World) (hg : GR w) (ho : Sl w ov old) (hr : Sl w rv root) (hp : Pcs w x vs ps) (hcx : Cp x) (hn : n < 9223372036854775808) (hps : ps.length ≤ 8000000) :
    Calls Tryd.prog 37 #[.int .i64 j, .int .i64 m, .int .i64 n, ov, rv, x] w fun e w' => e = .returned (.bool (chkQ j m n old root ps)) ∧ Fr (fun _ => False) w w' := by
  by_cases h : 1 ≤ j ∧ j ≤ 32 ∧ 0 ≤ m ∧ m ≤ n ∧ (old.length : Int) = j ∧ (root.length : Int) = j ∧ wdq j ps = true
  · obtain ⟨h1, h2, h3, h4, h5, h6, h7⟩ := h
    have hwd := gwide_any j _ vs ps w hp (by omega)
    rw [h7] at hwd
    obtain ⟨wi, rfl⟩ : ∃ k : Nat, j = (k : Int) := ⟨j.toNat, by omega⟩
    obtain ⟨M, rfl⟩ : ∃ k : Nat, m = (k : Int) := ⟨m.toNat, by omega⟩
    obtain ⟨N, rfl⟩ : ∃ k : Nat, n = (k : Int) := ⟨n.toNat, by omega⟩
    have hq1 : wdq wi [old, root] = true := by simp [wdq, h5, h6]
    have hce : chkQ wi M N old root ps = (if (M : Int) = 0 then decide (ps = []) && (decide (old = sm wi []) && (decide (0 < (N : Int)) || decide (root = sm wi []))) else prfQ wi N M old root ps) := by
      rw [chkQ, decide_eq_true (show 1 ≤ (wi : Int) ∧ (wi : Int) ≤ 32 by omega), decide_eq_true h3, decide_eq_true h4, hq1, h7]; rfl
    rw [hce]
    clear hce hq1
    have hol : old.length = wi := by omega
    have hrl : root.length = wi := by omega
    have hpw : ∀ p ∈ ps, p.length = wi := fun p hp => by have := wdq_true h7 p hp; omega
    obtain ⟨oo, oc, rfl⟩ := ho.form
    obtain ⟨rr, rc, rfl⟩ := hr.form
    obtain ⟨xo, xc, rfl⟩ := hp.form
    rw [hol] at ho ⊢
    rw [hrl] at hr ⊢
    by_cases hM : M = 0
    · subst hM
      rw [if_pos (show ((0 : Nat) : Int) = 0 from rfl)]
      have e1 : decide (ps = []) = decide (ps.length = 0) := by simp
      have e2 : decide (0 < (N : Int)) = decide (0 < N) := by simp
      rw [e1, e2]
      exact gcp_zero wi N (by omega) (by omega) oo oc rr rc xo _ xc old root w hg ho hr hol hrl hwd
    · rw [if_neg (by omega)]
      by_cases hMN : M = N
      · subst hMN
        rw [prfQ_same]
        exact gcp_all wi M (by omega) (by omega) (by omega) oo oc rr rc xo _ xc old root w hg ho hr hol hwd
      · have hp1 := hp
        refine gcp_some wi M N (by omega) (by omega) (by omega) (by omega) oo oc rr rc xo _ xc old root _ _ (rOk true 0 N M ps) w hg ho hr (fun hC => olderv_wid wi (by omega) (by omega) _ (rR_wid wi true old _ _ _ _ hC hol hpw) _ _ _ _ _ _ (Nat.le_refl _)) (fun hC => topv_wid wi (by omega) (by omega) _ (rR_wid wi true old _ _ _ _ hC hol hpw) _ _ _ _ _ _ (Nat.le_refl _)) _ (prfQ_r wi N M old root ps) hwd (fun w' hF => ?_)
        have hri := rise_any wi (by omega) (by omega) old hol oo wi oc N true 0 N M ps vs _ w' (Nat.le_refl _) (by omega) (by omega) (by omega) (hg.fr0 hF) (ho.fr0 hF) (hp.fr0 hF) hcx hps hpw
        unfold RiSays at hri
        rw [Nat.sub_zero] at hri
        refine hri.mono ?_
        rintro e w'' ⟨hA, hB, hF⟩
        refine ⟨fun hC => ?_, hB, hF⟩
        obtain ⟨ao, an, ac, bo, bn, bc, so, sc, ss, rfl, s1, s2, -, -, -⟩ := hA hC
        exact ⟨ao, an, ac, bo, bn, bc, so, _, sc, rfl, s1, s2⟩
  · have hB : chkQ j m n old root ps = false := by
      cases hq : chkQ j m n old root ps with
      | false => rfl
      | true =>
        refine absurd ?_ h
        unfold chkQ at hq
        simp only [Bool.and_eq_true, decide_eq_true_eq] at hq
        obtain ⟨⟨a1, a2⟩, a3, a4, a5, a6, -⟩ := hq
        exact ⟨a1, a2, a3, a4, by have := wdq_true a5 old (by simp); omega, by have := wdq_true a5 root (by simp); omega, a6⟩
    rw [hB]
    exact gcp_no j m n ov rv x old root vs ps w ho hr hp hps h
end Go.Proofs.YtocdnomfpgdglaaDoor

namespace Go.Proofs.YtocdnomfpgdglaaDoor

/-- The hash of a tree, with a bound on the halvings. -/
def mthF (i : Int) : Nat → List (List Nat) → List Nat
  | 0, _ => []
  | k + 1, ps => if ps.length < 2 then (match ps with | [] => sm i [] | p :: _ => p) else nd i (mthF i k (ps.take (hf ps.length))) (mthF i k (ps.drop (hf ps.length)))
theorem mthF_eq (i : Int) (k : Nat) : ∀ ps : List (List Nat), ps.length < k → mthF i k ps = mth i ps := by
  induction k with
  | zero => intro ps h; omega
  | succ k ih =>
    intro ps h
    unfold mthF
    by_cases h2 : ps.length < 2
    · rw [if_pos h2]
      match ps, h2 with
      | [], _ => rw [mth_nil]
      | [p], _ => rw [mth_one]
    · have h3 := hf_lt ps.length (by omega)
      have h4 := hf_pos ps.length
      rw [if_neg h2, mth_two i ps (by omega), ih _ (by rw [List.length_take]; omega), ih _ (by rw [List.length_drop]; omega)]
def rootB : List Nat := [93, 201, 218, 121, 167, 6, 89, 169, 173, 85, 156, 183, 1, 222, 217, 162, 171, 157, 130, 58, 173, 47, 73, 96, 207, 227, 112, 239, 244, 96, 67, 40]
def leafB : List Nat := [110, 52, 11, 156, 255, 179, 122, 152, 156, 165, 68, 230, 187, 120, 10, 44, 120, 144, 29, 63, 179, 55, 56, 118, 133, 17, 163, 6, 23, 175, 160, 29]
theorem rootB_hex : hxl (bytesOf ⟨#[53, 100, 99, 57, 100, 97, 55, 57, 97, 55, 48, 54, 53, 57, 97, 57, 97, 100, 53, 53, 57, 99, 98, 55, 48, 49, 100, 101, 100, 57, 97, 50, 97, 98, 57, 100, 56, 50, 51, 97, 97, 100, 50, 102, 52, 57, 54, 48, 99, 102, 101, 51, 55, 48, 101, 102, 102, 52, 54, 48, 52, 51, 50, 56]⟩) = rootB := by decide +kernel
theorem leafB_hex : hxl (bytesOf ⟨#[54, 101, 51, 52, 48, 98, 57, 99, 102, 102, 98, 51, 55, 97, 57, 56, 57, 99, 97, 53, 52, 52, 101, 54, 98, 98, 55, 56, 48, 97, 50, 99, 55, 56, 57, 48, 49, 100, 51, 102, 98, 51, 51, 55, 51, 56, 55, 54, 56, 53, 49, 49, 97, 51, 48, 54, 49, 55, 97, 102, 97, 48, 49, 100]⟩) = leafB := by decide +kernel
theorem leaf_nil : lf 32 [] = leafB := by decide +kernel
theorem root_tes : mthF 32 9 (tes.map (lf 32)) = rootB := by decide +kernel
theorem root_tests : mth 32 (tes.map (lf 32)) = rootB := by rw [← mthF_eq 32 9 _ (by decide)]; exact root_tes
theorem dep_tests : dep 0 8 0 1 = 3 := by
  have h8 : hf 8 = 4 := by decide +kernel
  have h4 : hf 4 = 2 := by decide +kernel
  have h2 : hf 2 = 1 := by decide +kernel
  rw [dep_l (by decide) (by decide) (by rw [h8]; decide), h8, dep_l (by decide) (by decide) (by rw [h4]; decide), h4, dep_l (by decide) (by decide) (by rw [h2]; decide), h2, dep_eq]
end Go.Proofs.YtocdnomfpgdglaaDoor

namespace Go.Proofs.YtocdnomfpgdglaaDoor
open Go.RowKit

theorem bes_wid (wi : Nat) (hw1 : 1 ≤ wi) (hw32 : wi ≤ 32) (L : List (List Nat)) (hL : ∀ p ∈ L, p.length = wi) (m : Nat) : ∀ f n tf tn, n ≤ m → ∀ p ∈ bes wi L f n tf tn, p.length = wi := by
  induction m with
  | zero => intro f n tf tn h p hp; rw [bes, dif_pos (by omega)] at hp; cases hp
  | succ m ih =>
    intro f n tf tn h p hp
    by_cases e : (f = tf ∧ n = tn) ∨ n < 2
    · rw [bes, dif_pos e] at hp; cases hp
    · have hlt := hf_lt n (by omega)
      have hpos := hf_pos n
      by_cases hl : tf < f + hf n
      · rw [bes_l (by omega) (by omega) hl] at hp
        rcases List.mem_append.1 hp with hp | hp
        · exact ih _ _ _ _ (by omega) p hp
        · simp at hp; subst hp; exact mth_wid wi hw1 hw32 _ (fun p hp => hL p (blk_mem _ _ _ p hp))
      · rw [bes_r (by omega) (by omega) hl] at hp
        rcases List.mem_append.1 hp with hp | hp
        · exact ih _ _ _ _ (by omega) p hp
        · simp at hp; subst hp; exact mth_wid wi hw1 hw32 _ (fun p hp => hL p (blk_mem _ _ _ p hp))
theorem wdq_of {j : Int} {ps : List (List Nat)} (h : ∀ p ∈ ps, (p.length : Int) = j) : wdq j ps = true := by
  rw [wdq, List.all_eq_true]
  intro p hp
  simpa using h p hp
/-- A path that the tree tells is taken. -/
theorem chkP_bes (wi : Nat) (hw1 : 1 ≤ wi) (hw32 : wi ≤ 32) (L : List (List Nat)) (hL : ∀ p ∈ L, p.length = wi) (i : Nat) (hi : i < L.length) : chkP wi (L[i]) i L.length (bes wi L 0 L.length i 1) (mth wi L) = true := by
  have hb : blk L i 1 = [L[i]] := by
    rw [blk, List.drop_eq_getElem_cons hi]; rfl
  have ht := topv_bes wi L L.length 0 L.length i 1 (Nat.le_refl _) (by omega) (rch_one _ 0 L.length i (Nat.le_refl _) (by omega) (by omega))
  rw [hb, mth_one, blk_all] at ht
  rw [chkP, decide_eq_true (by omega), decide_eq_true (by omega), decide_eq_true (by omega), wdq_of (fun p hp => ?_), wdq_of (fun p hp => ?_), Int.toNat_natCast, Int.toNat_natCast, Int.toNat_natCast, bes_len _ _ _ _ _ _ _ (Nat.le_refl _), decide_eq_true rfl, ht, decide_eq_true rfl]
  · rfl
  · have := bes_wid wi hw1 hw32 L hL _ 0 L.length i 1 (Nat.le_refl _) p hp
    omega
  · simp at hp
    rcases hp with rfl | rfl
    · have := hL L[i] (List.getElem_mem _); omega
    · have := mth_wid wi hw1 hw32 L hL; omega
theorem chkP_tests : chkP 32 (lf 32 []) 0 8 (bes 32 (tes.map (lf 32)) 0 8 0 1) rootB = true := by
  have := chkP_bes 32 (by decide) (by decide) (tes.map (lf 32)) (map_lf_len 32 (by decide) (by decide) _) 0 (by simp [tes])
  have e : mth ((32 : Nat) : Int) (tes.map (lf 32)) = rootB := root_tests
  rw [e] at this
  exact this
set_option maxRecDepth 100000 in
set_option maxHeartbeats 4000000 in
theorem mlives_any (w : World) (hg : GS w) (ht : GT w) : Calls Tryd.prog 10 #[] w fun e w' => e = .returned (.bool true) ∧ Fr (fun _ => False) w w' := by
  have hB : ∀ e ∈ tes, e.length ≤ 16000000 := by decide
  have hnew : ∀ w', GS w' → Calls Tryd.prog 20 #[.int .i64 32] w' fun e w'' => ∃ tb, e = .returned (.pointer (some ⟨tb, 0, none⟩)) ∧ TrAt w'' w'.heap.size tb 32 0 none 0 [] [] ∧ 6 ≤ w'.heap.size ∧ w'.heap.size ≤ tb ∧ Fr (fun _ => False) w' w'' := fun w' hg' => by
    refine (mnew_any 32 w').mono ?_
    rintro e w'' ⟨rfl, h1, h2⟩
    exact ⟨_, rfl, h1, hg'.1.2, Nat.le_refl _, h2⟩
  have hadd : ∀ (w' : World) (base tb : Nat), GS w' → GT w' → TrAt w' base tb 32 0 none 0 [] [] → 6 ≤ base → Calls Tryd.prog 21 #[.pointer (some ⟨tb, 0, none⟩), .slice none 0 0] w' fun e w'' => e = .returned (.int .i64 0) ∧ Tk w'' tb 32 [lf 32 []] ∧ Fr (TOwn tb none []) w' w'' := fun w' base tb hg' ht' hT hb => by
    refine (add_in 32 (by decide) (by decide) base tb 0 hb w' none 0 [] [] (.slice none 0 0) [] hT hg' (sl_nil _) (by decide) (fun j row h => by simp at h) (by decide) (by decide)).mono ?_
    rintro e w'' ⟨rfl, xo, cp, vs, hT2, hF, _⟩
    have hlo : ∀ k, k < 6 → ¬ TOwn tb none [] k := fun k hk hO => by
      have := (hT.lt k hO).1; omega
    refine ⟨rfl, ⟨⟨base, xo, cp, vs, _, hT2, ?_⟩, hg'.fr hF hlo, ht'.fr hF hlo, fun p hp => ?_, fun p hp => ?_, by decide⟩, hF⟩
    · exact (rows_nil 32).add (by decide) (by decide) (lf 32 []) (fun p hp => by simp at hp; subst hp; exact lf_len 32 (by decide) (by decide) _)
    · simp at hp; subst hp; exact lf_len 32 (by decide) (by decide) _
    · simp at hp; subst hp; exact lf_lt _ _
  have hp0 := fun w' x vs (h1 : GS w') (h2 : GT w') (h3 : Pcs w' x vs tes) => mpath_in 32 (by decide) (by decide) x vs tes 0 w' h1 h2 h3 hB (by decide) (by decide)
  have hr0 : ∀ w' x vs, GS w' → GT w' → Pcs w' x vs tes → Calls Tryd.prog 25 #[.int .i64 32, x] w' fun e w'' => ∃ yo yc, e = .returned (.slice yo 32 yc) ∧ OB w' w'' yo yc rootB := fun w' x vs h1 h2 h3 => by
    have := mroot_in 32 (by decide) (by decide) x vs tes w' h1 h2 h3 hB (by decide)
    rw [← root_tests]
    exact this
  have hr1 : ∀ w' tb, Tk w' tb 32 [lf 32 []] → Calls Tryd.prog 40 #[.pointer (some ⟨tb, 0, none⟩), .int .i64 1] w' fun e w'' => ∃ yo yc, e = .returned (.tuple #[.slice yo 32 yc, .int .i64 0]) ∧ OB w' w'' yo yc leafB := fun w' tb h => by
    have := troot_in tb 32 (by decide) (by decide) _ 1 w' h (by decide)
    have e : mth (32 : Nat) (blk [lf 32 []] 0 1) = leafB := by
      have : blk [lf 32 []] 0 1 = [lf 32 []] := rfl
      rw [this, mth_one, leaf_nil]
    rw [← e]
    exact this
  have hlf : ∀ w', GS w' → Calls Tryd.prog 18 #[.int .i64 32, .slice none 0 0] w' fun e w'' => ∃ yo, e = .returned (.slice yo 32 32) ∧ OB w' w'' yo 32 (lf 32 []) := fun w' h => by
    have := leaf_any 32 (.slice none 0 0) [] w' h (sl_nil _) (by decide)
    have e : (lf 32 []).length = 32 := lf_len 32 (by decide) (by decide) _
    rw [e] at this
    exact this
  have hbl : (bes 32 (tes.map (lf 32)) 0 8 0 1).length = 3 := by rw [bes_len _ _ _ _ _ _ _ (Nat.le_refl _), dep_tests]
  have hck := chkP_tests
  have e8 : tes.length = 8 := rfl
  simp only [e8] at hp0
  have e0 : ((0 : Nat) : Int) = 0 := rfl
  have e32 : ((32 : Nat) : Int) = 32 := rfl
  simp only [e0, e32] at hp0
  generalize bes 32 (tes.map (lf 32)) 0 8 0 1 = BS at *
  have hrb : ∀ v ∈ rootB, v < 256 := by decide
  have hlb : ∀ v ∈ leafB, v < 256 := by decide
  have HG := hide (And.intro hg ht)
  have HC := hide (And.intro hnew (And.intro hadd (And.intro hp0 (And.intro hr0 (And.intro hr1 (And.intro hlf (And.intro hbl (And.intro hck (And.intro hrb hlb)))))))))
  clear hnew hadd hp0 hr0 hr1 hlf hbl hck hrb hlb hg ht hB e8 e0 e32
  go_enter Tryd.func10, Tryd.ntmps10
  go_wp2_with fail
  refine (tests_any w).mono ?_
  rintro e w1 ⟨g1, vs1, rfl, hP, hF⟩
  have F1 := hide hF
  have P1 := hide hP
  clear hF hP
  go_wp2_with fail
  refine ((unhide HC).2.2.1 _ _ _ ((unhide HG).1.fr0 (unhide F1)) ((unhide HG).2.fr0 (unhide F1)) (unhide P1)).mono ?_
  rintro e w2 ⟨ao, cp, us, rfl, hO⟩
  have hus : us.length = 3 := hO.len.trans (unhide HC).2.2.2.2.2.2.1
  rw [hus]
  have F2 := hide ((unhide F1).trans hO.own.fr (fun _ _ h => h))
  have P2 := hide ((unhide P1).fr0 hO.own.fr)
  have O2 := hide hO
  have HU := hide hus
  clear hO hus
  go_wp2_with fail
  refine ((unhide HC).1 _ ((unhide HG).1.fr0 (unhide F2))).mono ?_
  rintro e w3 ⟨tb, rfl, hT, hb1, hb2, hF⟩
  have T3 := hide (And.intro hT (And.intro hb1 hb2))
  have F23 := hide hF
  have F3 := hide ((unhide F2).trans hF (fun _ _ h => h))
  have P3 := hide ((unhide P2).fr0 hF)
  have O3 := hide ((unhide O2).fr0 hF)
  clear hT hb1 hb2 hF
  go_wp2_with fail
  refine ((unhide HC).2.1 _ _ _ ((unhide HG).1.fr0 (unhide F3)) ((unhide HG).2.fr0 (unhide F3)) (unhide T3).1 (unhide T3).2.1).mono ?_
  rintro e w4 ⟨rfl, hT, hF⟩
  have hF24 : Fr (fun _ => False) w2 w4 := (unhide F23).trans hF (fun k hk hO => by
    have h2 := (unhide T3).2.2
    rcases hO with rfl | ⟨o, e⟩ | ⟨v, hv, _⟩
    · omega
    · cases e
    · cases hv)
  have F4 := hide ((unhide F2).trans hF24 (fun _ _ h => h))
  have P4 := hide ((unhide P2).fr0 hF24)
  have O4 := hide ((unhide O2).fr0 hF24)
  have T4 := hide hT
  clear hT hF hF24 T3 F3
  go_wp2_with fail
  refine ((unhide HC).2.2.2.2.1 _ _ (unhide T4)).mono ?_
  rintro e w5 ⟨lo, lc, rfl, hO⟩
  have F5 := hide ((unhide F4).trans hO.fr (fun _ _ h => h))
  have P5 := hide ((unhide P4).fr0 hO.fr)
  have O5 := hide ((unhide O4).fr0 hO.fr)
  have L5 := hide (hO.sl (unhide HC).2.2.2.2.2.2.2.2.2)
  clear hO
  go_wp2_with fail
  refine ((unhide HC).2.2.2.1 _ _ _ ((unhide HG).1.fr0 (unhide F5)) ((unhide HG).2.fr0 (unhide F5)) (unhide P5)).mono ?_
  rintro e w6 ⟨ro, rc, rfl, hO⟩
  have F6 := hide ((unhide F5).trans hO.fr (fun _ _ h => h))
  have O6 := hide ((unhide O5).fr0 hO.fr)
  have L6 := hide ((unhide L5).fr0 hO.fr)
  have R6 := hide (hO.sl (unhide HC).2.2.2.2.2.2.2.2.1)
  clear hO
  go_wp2_with fail
  refine (hex_lit ⟨#[53, 100, 99, 57, 100, 97, 55, 57, 97, 55, 48, 54, 53, 57, 97, 57, 97, 100, 53, 53, 57, 99, 98, 55, 48, 49, 100, 101, 100, 57, 97, 50, 97, 98, 57, 100, 56, 50, 51, 97, 97, 100, 50, 102, 52, 57, 54, 48, 99, 102, 101, 51, 55, 48, 101, 102, 102, 52, 54, 48, 52, 51, 50, 56]⟩ rootB _ (by decide) rootB_hex 32 rfl (by decide)).mono ?_
  rintro e w7 ⟨xo, xc, rfl, hS, hF⟩
  have F7 := hide ((unhide F6).trans hF (fun _ _ h => h))
  have O7 := hide ((unhide O6).fr0 hF)
  have L7 := hide ((unhide L6).fr0 hF)
  have R7 := hide (And.intro ((unhide R6).fr0 hF) hS)
  clear hS hF
  go_wp2_with fail
  refine (same_T (unhide R7).1.s (unhide R7).2.s (by decide) (sameB_refl _)).mono ?_
  rintro e w8 ⟨rfl, hF⟩
  have F8 := hide ((unhide F7).trans hF (fun _ _ h => h))
  have O8 := hide ((unhide O7).fr0 hF)
  have L8 := hide ((unhide L7).fr0 hF)
  clear hF R7 R6
  go_wp2_with fail
  refine ((unhide HC).2.2.2.2.2.1 _ ((unhide HG).1.fr0 (unhide F8))).mono ?_
  rintro e w9 ⟨fo, rfl, hO⟩
  have F9 := hide ((unhide F8).trans hO.fr (fun _ _ h => h))
  have O9 := hide ((unhide O8).fr0 hO.fr)
  have L9 := hide ((unhide L8).fr0 hO.fr)
  have hsl := hO.sl (lf_lt 32 [])
  have e32 : (lf 32 []).length = 32 := lf_len 32 (by decide) (by decide) _
  rw [e32] at hsl
  have K9 := hide hsl
  clear hO hsl e32
  go_wp2_with fail
  refine (hex_lit ⟨#[53, 100, 99, 57, 100, 97, 55, 57, 97, 55, 48, 54, 53, 57, 97, 57, 97, 100, 53, 53, 57, 99, 98, 55, 48, 49, 100, 101, 100, 57, 97, 50, 97, 98, 57, 100, 56, 50, 51, 97, 97, 100, 50, 102, 52, 57, 54, 48, 99, 102, 101, 51, 55, 48, 101, 102, 102, 52, 54, 48, 52, 51, 50, 56]⟩ rootB _ (by decide) rootB_hex 32 rfl (by decide)).mono ?_
  rintro e w10 ⟨yo, yc, rfl, hS, hF⟩
  have F10 := hide ((unhide F9).trans hF (fun _ _ h => h))
  have O10 := hide ((unhide O9).fr0 hF)
  have L10 := hide ((unhide L9).fr0 hF)
  have K10 := hide (And.intro ((unhide K9).fr0 hF) hS)
  clear hS hF
  have hpc := (unhide O10).pcs
  have hcp := (unhide O10).cap
  rw [unhide HU] at hpc hcp
  have PC := hide (And.intro hpc hcp)
  clear hpc hcp
  go_wp2_with fail
  refine (checkPath_any 32 0 8 _ _ _ _ _ us BS _ ((unhide HG).1.fr0 (unhide F10)) (unhide K10).1 (unhide K10).2 (unhide PC).1 (fun _ _ _ e => by cases e; exact (unhide PC).2) (by decide) (by rw [(unhide HC).2.2.2.2.2.2.1]; decide)).mono ?_
  rintro e w11 ⟨rfl, hF⟩
  rw [(unhide HC).2.2.2.2.2.2.2.1]
  have F11 := hide ((unhide F10).trans hF (fun _ _ h => h))
  have L11 := hide ((unhide L10).fr0 hF)
  clear hF
  go_wp2_with fail
  refine (hex_lit ⟨#[54, 101, 51, 52, 48, 98, 57, 99, 102, 102, 98, 51, 55, 97, 57, 56, 57, 99, 97, 53, 52, 52, 101, 54, 98, 98, 55, 56, 48, 97, 50, 99, 55, 56, 57, 48, 49, 100, 51, 102, 98, 51, 51, 55, 51, 56, 55, 54, 56, 53, 49, 49, 97, 51, 48, 54, 49, 55, 97, 102, 97, 48, 49, 100]⟩ leafB _ (by decide) leafB_hex 32 rfl (by decide)).mono ?_
  rintro e w12 ⟨zo, zc, rfl, hS, hF⟩
  have F12 := hide ((unhide F11).trans hF (fun _ _ h => h))
  have L12 := hide (And.intro ((unhide L11).fr0 hF) hS)
  clear hS hF
  go_wp2_with fail
  refine (same_T (unhide L12).1.s (unhide L12).2.s (by decide) (sameB_refl _)).mono ?_
  rintro e w13 ⟨rfl, hF⟩
  have F13 := hide ((unhide F12).trans hF (fun _ _ h => h))
  clear hF
  go_wp2_with fail
  go_ret
  exact ⟨rfl, unhide F13⟩
end Go.Proofs.YtocdnomfpgdglaaDoor

namespace Go.Proofs.YtocdnomfpgdglaaDoor
open Go.RowKit

theorem OL.stepH {w wr w1 : World} {ao : Option Addr} {cp : Nat} {vs : List Value} {ps : List (List Nat)} (h : OL w wr ao cp vs ps) (l : List Nat) (yo : Option Addr) (yc : Nat) (hO : OB wr w1 yo yc l) (hb : ∀ v ∈ l, v < 256) (hn : vs.length < 16000000) :
    ∃ ao' cp' w2, (Builtin.append_ #[22, 22] 22 #[.slice ao vs.length cp, .slice (some ⟨w1.heap.size, 0, none⟩) 1 1]).run Tryd.prog (w1.alloc (.cells #[.slice yo l.length yc] 26)) = .ok (.slice ao' (vs.length + 1) cp') w2 ∧ OL w w2 ao' cp' (vs ++ [.slice yo l.length yc]) (ps ++ [l]) ∧
      (w1.alloc (.cells #[.slice yo l.length yc] 26)).grownBy w2 (Value.slice ao vs.length cp).ownBlock ∧ ((Value.slice ao' (vs.length + 1) cp').ownBlock = (Value.slice ao vs.length cp).ownBlock ∨ (Value.slice ao' (vs.length + 1) cp').ownBlock = some (w1.heap.size + 1)) := by
  obtain ⟨ao', cp', w2, hr, hOL⟩ := h.step l yo yc hO hb hn
  have hown : (w1.alloc (.cells #[.slice yo l.length yc] 26)).ownsRow w.heap.size 26 1 (.slice ao vs.length cp) vs.length vs := (h.fr0 (hO.fr.alloc _)).own.own
  obtain ⟨a2, c2, w3, hr2, _, hg, hat⟩ := run_app_ss (w1.alloc (.cells #[.slice yo l.length yc] 26)) w.heap.size vs.length _ (.slice (some ⟨w1.heap.size, 0, none⟩) 1 1) vs [.slice yo l.length yc] hown ⟨.inr (.inr ⟨w1.heap.size, 0, 1, rfl, fun j u hu => by
    rw [World.cell?_alloc_at _ _ _ _ (by simp)]
    match j with
    | 0 => simpa using hu
    | j + 1 => simp at hu⟩), fun u hu => by simp at hu; subst hu; exact ⟨_, _, _, rfl⟩⟩ (by simp; omega) (by have := h.own.fr.size; have := hO.fr.size; simp; omega)
  rw [hr] at hr2
  injection hr2 with e1 e2
  subst e2
  injection e1 with e1 _ e3
  subst e1 e3
  refine ⟨ao', cp', w2, hr, hOL, hg, ?_⟩
  simpa using hat
/-- What guarded has made so far. -/
structure GI (w wr : World) (es qs : List (List Nat)) (so : Option Addr) (sc : Nat) (svs : List Value) (ao : Option Addr) (ac : Nat) (avs : List Value) : Prop where
  all : OL w wr ao ac avs qs
  sho : wr.ownsRow w.heap.size 26 1 (.slice so svs.length sc) svs.length svs
  sln : svs.length = avs.length
  ne : ∀ g, (Value.slice so svs.length sc).ownBlock = some g → (Value.slice ao avs.length ac).ownBlock = some g → False
  sls : ∀ u ∈ svs, ∃ a n c, u = .slice a n c
  pre : ∀ (j : Nat) v v' e, svs[j]? = some v → avs[j]? = some v' → es[j]? = some e → ∃ g c, v = .slice (some ⟨g, 0, none⟩) e.length c ∧ v' = .slice (some ⟨g, 0, none⟩) (e.length + 9) c
theorem GI.nil (w : World) (es : List (List Nat)) : GI w w es [] none 0 [] none 0 [] :=
  ⟨OL.nil w, ⟨rfl, .inl ⟨rfl, rfl⟩⟩, rfl, (fun g h => by cases h), (fun u h => by cases h), (fun j v v' e h => by simp at h)⟩
theorem GI.fr0 {w wr wq : World} {es qs : List (List Nat)} {so : Option Addr} {sc : Nat} {svs : List Value} {ao : Option Addr} {ac : Nat} {avs : List Value} (h : GI w wr es qs so sc svs ao ac avs) (hf : Fr (fun _ => False) wr wq) : GI w wq es qs so sc svs ao ac avs :=
  ⟨h.all.fr0 hf, ownsRow_of_block h.sho (fun g hg => hf.block g (h.sho.lt g hg).2 (fun h => h)), h.sln, h.ne, h.sls, h.pre⟩
/-- One list more. -/
theorem GI.step {w wr w1 : World} {es qs : List (List Nat)} {so : Option Addr} {sc : Nat} {svs : List Value} {ao : Option Addr} {ac : Nat} {avs : List Value} (h : GI w wr es qs so sc svs ao ac avs) (l : List Nat) (g lc n : Nat) (hO : OB wr w1 (some ⟨g, 0, none⟩) lc l) (hb : ∀ v ∈ l, v < 256) (hn : avs.length < 16000000)
    (hpre : ∀ e, es[svs.length]? = some e → n = e.length ∧ l.length = e.length + 9) (L : Nat) (hL : l.length = L) :
    ∃ ao' ac' w2, (Builtin.append_ #[22, 22] 22 #[.slice ao avs.length ac, .slice (some ⟨w1.heap.size, 0, none⟩) 1 1]).run Tryd.prog (w1.alloc (.cells #[.slice (some ⟨g, 0, none⟩) L lc] 26)) = .ok (.slice ao' (avs.length + 1) ac') w2 ∧ Fr (fun _ => False) w w2 ∧
      w2.cell? ⟨match ao' with | some a => a.block | none => 0, avs.length, none⟩ = some (.slice (some ⟨g, 0, none⟩) L lc) ∧ (∃ q, ao' = some ⟨q, 0, none⟩) ∧
      ∃ so' sc' w3, (Builtin.append_ #[22, 22] 22 #[.slice so svs.length sc, .slice (some ⟨w2.heap.size, 0, none⟩) 1 1]).run Tryd.prog (w2.alloc (.cells #[.slice (some ⟨g, 0, none⟩) n lc] 26)) = .ok (.slice so' (svs.length + 1) sc') w3 ∧
      GI w w3 es (qs ++ [l]) so' sc' (svs ++ [.slice (some ⟨g, 0, none⟩) n lc]) ao' ac' (avs ++ [.slice (some ⟨g, 0, none⟩) L lc]) := by
  subst hL
  obtain ⟨ao', ac', w2, hr, hOL, hg, hat⟩ := h.all.stepH l (some ⟨g, 0, none⟩) lc hO hb hn
  have hs1 := (h.fr0 (hO.fr.alloc (.cells #[.slice (some ⟨g, 0, none⟩) l.length lc] 26))).sho
  have hslt := h.sho.lt
  have hsz := hO.fr.size
  have hs2 : w2.ownsRow w.heap.size 26 1 (.slice so svs.length sc) svs.length svs := ownsRow_of_block hs1 (fun q hq => hg.block q (hs1.lt q hq).2 (fun e => h.ne q hq e.symm))
  have hs3 : (w2.alloc (.cells #[.slice (some ⟨g, 0, none⟩) n lc] 26)).ownsRow w.heap.size 26 1 (.slice so svs.length sc) svs.length svs := hs2.alloc _
  obtain ⟨so', sc', w3, hr3, hown3, hg3, hat3⟩ := run_app_ss _ w.heap.size svs.length _ (.slice (some ⟨w2.heap.size, 0, none⟩) 1 1) svs [.slice (some ⟨g, 0, none⟩) n lc] hs3 ⟨.inr (.inr ⟨w2.heap.size, 0, 1, rfl, fun j u hu => by
    rw [World.cell?_alloc_at _ _ _ _ (by simp)]
    match j with
    | 0 => simpa using hu
    | j + 1 => simp at hu⟩), fun u hu => by simp at hu; subst hu; exact ⟨_, _, _, rfl⟩⟩ (by have := h.sln; simp; omega) (by have := hOL.own.fr.size; simp; omega)
  have hlen1 : (avs ++ [Value.slice (some ⟨g, 0, none⟩) l.length lc]).length = avs.length + 1 := by simp
  have hne2 : ∀ q, (Value.slice so svs.length sc).ownBlock = some q → (Value.slice ao' (avs.length + 1) ac').ownBlock = some q → False := fun q h1 h2 => by
    rcases hat with e | e
    · rw [e] at h2; exact h.ne q h1 h2
    · rw [e] at h2
      have := (hslt q h1).2
      simp at h2
      omega
  have hF3 : Fr (fun k => (Value.slice so svs.length sc).ownBlock = some k) w2 w3 := ((Fr.refl _ _).alloc _).grown hg3 (fun q hq => .inl hq)
  have hOL3 : OL w w3 ao' ac' (avs ++ [.slice (some ⟨g, 0, none⟩) l.length lc]) (qs ++ [l]) := by
    refine ⟨⟨ownsRow_of_block hOL.own.own (fun q hq => hF3.block q (hOL.own.own.lt q hq).2 (fun e => hne2 q e (by rw [hlen1] at hq; exact hq))), ?_⟩, hOL.len, fun j v p hv hp => ?_, hOL.apart, hOL.byt⟩
    · exact hOL.own.fr.trans hF3 (fun k hk hk2 => by have := (hslt k hk2).1; omega)
    · obtain ⟨bo, c, e, hOw⟩ := hOL.row j v p hv hp
      exact ⟨bo, c, e, ownsRow_of_block hOw (fun q hq => hF3.block q (World.ownsRow.lt hOw q hq).2 (fun e => own_ne hs2 hOw q e hq))⟩
  obtain ⟨q, rfl⟩ : ∃ q, ao' = some ⟨q, 0, none⟩ := by
    rcases hOL.own.own.2 with ⟨_, e⟩ | ⟨q, cap, cur, e, _⟩
    · rw [hlen1] at e; omega
    · simp only [Value.slice.injEq] at e
      exact ⟨q, e.1⟩
  refine ⟨_, ac', w2, hr, hOL.own.fr, ?_, ⟨q, rfl⟩, so', sc', w3, by simpa using hr3, hOL3, by rw [List.length_append]; exact hown3, by rw [List.length_append, List.length_append, h.sln]; rfl, fun q' h1 h2 => ?_, fun u hu => ?_, fun j v v' e hv hv' he => ?_⟩
  · have := hOL.own.own.cellAt avs.length (by rw [hlen1]; omega)
    rw [this, List.getElem?_append_right (Nat.le_refl _), Nat.sub_self]
    rfl
  · rw [hlen1] at h2
    rw [List.length_append] at h1
    rcases hat3 with e | e
    · rw [show svs.length + [Value.slice (some ⟨g, 0, none⟩) n lc].length = svs.length + [Value.slice (some ⟨g, 0, none⟩) n lc].length from rfl, e] at h1
      exact hne2 q' h1 h2
    · rw [e] at h1
      have := (hOL.own.own.lt q' (by rw [hlen1]; exact h2)).2
      simp at h1
      omega
  · rcases List.mem_append.1 hu with hu | hu
    · exact h.sls u hu
    · simp at hu; subst hu; exact ⟨_, _, _, rfl⟩
  · by_cases hj : j < svs.length
    · rw [List.getElem?_append_left hj] at hv
      rw [List.getElem?_append_left (by rw [← h.sln]; exact hj)] at hv'
      exact h.pre j v v' e hv hv' he
    · have hje : j = svs.length := by
        have := (List.getElem?_eq_some_iff.1 hv).1
        rw [List.length_append, List.length_singleton] at this
        omega
      subst hje
      rw [List.getElem?_append_right (Nat.le_refl _), Nat.sub_self] at hv
      rw [List.getElem?_append_right (by rw [h.sln]; exact Nat.le_refl _), h.sln, Nat.sub_self] at hv'
      simp only [List.getElem?_cons_zero, Option.some.injEq] at hv hv'
      subst hv hv'
      obtain ⟨e1, e2⟩ := hpre e he
      exact ⟨g, lc, by rw [e1], by rw [e2]⟩
end Go.Proofs.YtocdnomfpgdglaaDoor

namespace Go.Proofs.YtocdnomfpgdglaaDoor
open Go.RowKit

/-- Bytes and k guards. -/
def gdj (e : List Nat) (k : Nat) : List Nat := e ++ List.replicate k 77
theorem gdj_len (e : List Nat) (k : Nat) : (gdj e k).length = e.length + k := by simp [gdj]
theorem gdj_succ (e : List Nat) (k : Nat) : gdj e k ++ [77] = gdj e (k + 1) := by simp [gdj, List.replicate_succ']
theorem gdj_lt {e : List Nat} (h : ∀ v ∈ e, v < 256) (k : Nat) : ∀ v ∈ gdj e k, v < 256 := fun v hv => by
  simp only [gdj, List.mem_append, List.mem_replicate] at hv
  rcases hv with h1 | h1
  · exact h v h1
  · omega
/-- What guarded makes: the lists with guards behind each, then guards. -/
def gls (es : List (List Nat)) : List (List Nat) := es.map (fun e => gdj e 9) ++ List.replicate 9 [7]
def glk (es : List (List Nat)) (t : Nat) : List (List Nat) := es.map (fun e => gdj e 9) ++ List.replicate t [7]
theorem glk_succ (es : List (List Nat)) (t : Nat) : glk es t ++ [[7]] = glk es (t + 1) := by simp [glk, List.replicate_succ']
set_option maxRecDepth 100000 in
set_option maxHeartbeats 1000000 in
theorem mguarded_any (x : Value) (vs : List Value) (es : List (List Nat)) (w : World) (hp : Pcs w x vs es) (hB : ∀ e ∈ es, e.length ≤ 4000000) (hn : es.length ≤ 8000000) :
    Calls Tryd.prog 23 #[x] w fun e w' => ∃ so sc svs ao ac avs, e = .returned (.tuple #[.slice so es.length sc, .slice ao (es.length + 9) ac]) ∧ svs.length = es.length + 9 ∧ GI w w' es (gls es) so sc svs ao ac avs := by
  obtain ⟨xo, xc, rfl⟩ := hp.form
  have HG := hide (And.intro hp (And.intro hB hn))
  clear hp hB hn
  generalize hN : es.length = N at *
  go_enter Tryd.func23, Tryd.ntmps23
  go_wp2_with fail
  go_loopw [4, 5, 6] (fun sv av iv wr => ∃ (k : Nat) (so : Option Addr) (sc : Nat) (svs : List Value) (ao : Option Addr) (ac : Nat) (avs : List Value), k ≤ N ∧ iv = .int .i64 (k : Nat) ∧ sv = .slice so k sc ∧ av = .slice ao k ac ∧ svs.length = k ∧ GI w wr es ((es.take k).map fun e => gdj e 9) so sc svs ao ac avs) (fun _ _ iv _ => N - (intOf iv).toNat)
  case atStart => exact ⟨0, none, 0, [], none, 0, [], Nat.zero_le _, rfl, rfl, rfl, rfl, GI.nil w es⟩
  case round =>
    obtain ⟨k, so, sc, svs, ao, ac, avs, hk, rfl, rfl, rfl, hsl, hI⟩ := hrel
    have hN8 := (unhide HG).2.2
    by_cases hlt : k < N
    · have hlt' : (k : Int) < (N : Int) := by omega
      have hke : k < es.length := by omega
      have hF := hI.all.own.fr
      obtain ⟨g, o, vo, vc, rfl, hcw, hSw⟩ := (unhide HG).1.nth (Fr.refl _ _) k hke
      have hcell := (hF.cell (p := ⟨g, o + k, none⟩) (lt_of_cell hcw) (fun h => h)).trans hcw
      have hS := hSw.fr0 hF
      have hgl : g < wr.heap.size := lt_of_cell hcell
      have hel := (unhide HG).2.1 es[k] (List.getElem_mem hke)
      have htk : (es.take (k + 1)).map (fun e => gdj e 9) = (es.take k).map (fun e => gdj e 9) ++ [gdj es[k] 9] := by
        rw [List.take_add_one, List.getElem?_eq_getElem hke, Option.toList_some, List.map_append]; rfl
      have hek : es[k]? = some es[k] := List.getElem?_eq_getElem hke
      generalize es[k] = e at *
      generalize hE : e.length = E at *
      obtain ⟨w1, hr1, ho1, hF1⟩ := make0 (E + 9) wr (by omega)
      have hO1 : OB wr w1 (some ⟨wr.heap.size, 0, none⟩) (E + 9) [] := ⟨ho1, hF1⟩
      have c1 := (hF1.cell (p := ⟨g, o + k, none⟩) hgl (fun h => h)).trans hcell
      obtain ⟨a2, c2, w2, hr2, hO2⟩ := hO1.app _ e (hS.s.fr0 hF1) (by rw [hE]; simp; omega)
      have hO2' : OB wr w2 a2 c2 (gdj e 0) := by simpa [gdj] using hO2
      have e2 : (([] : List Nat) ++ e).length = E := hE
      rw [e2] at hr2
      have HR1 := hide (show (Instr.makeSlice 26 (.int .i64 0) (.int .i64 ((E : Int) + 9))).run Tryd.prog wr = .ok (.slice (some ⟨wr.heap.size, 0, none⟩) 0 (E + 9)) w1 from hr1)
      have HR2 := hide hr2
      have HI := hide (And.intro hI (And.intro hO2' (And.intro htk (And.intro hek (And.intro hS (And.intro hcw hgl))))))
      clear hcw hSw hI hO2' htk hek hS hr1 hr2 ho1 hF1 hO1 hO2 e2 hF
      have r0 : IntKind.i64.wrap ((E : Int) + 9) = (E : Int) + 9 := by rw [IntKind.wrap_i64]; omega
      have hr1 := unhide HR1
      go_wp2_with (first | (at_builtin; refine wpList_app rfl (.tmp 23) (.tmp 27) 26 26 rfl _ _ _ rfl rfl (unhide HR2) ?_))
      clear hr1 c1 hcell
      go_loopw [7, 8] (fun lv jv wq => ∃ (t : Nat) (lo : Option Addr) (lc : Nat), t ≤ 9 ∧ jv = .int .i64 (t : Nat) ∧ lv = .slice lo (E + t) lc ∧ OB wr wq lo lc (gdj e t)) (fun _ jv _ => 9 - (intOf jv).toNat)
      case atStart => exact ⟨0, a2, c2, Nat.zero_le _, rfl, rfl, (unhide HI).2.1⟩
      case round =>
        obtain ⟨t, lo, lc, ht, rfl, rfl, hO⟩ := hrel
        rename World => wq
        by_cases hl9 : t < 9
        · have hl9' : (t : Int) < 9 := by omega
          have hlp : (gdj e t).length = E + t := by rw [gdj_len, hE]
          obtain ⟨a4, c4, w4, hr4, hO4⟩ := hO.app1 77 (by decide) (by rw [hlp]; omega)
          rw [List.length_append, hlp] at hr4
          rw [gdj_succ] at hO4
          have HR4 := hide hr4
          have HO4 := hide hO4
          clear hr4 hO4 hlp hO
          go_wp2_with (at_builtin; refine wpList_app rfl (.tmp 33) (.tmp 34) 26 26 rfl _ _ _ rfl rfl (unhide HR4) ?_)
          exact ⟨⟨t + 1, _, _, by omega, by go_num, rfl, unhide HO4⟩, by simp [intOf]; omega⟩
        · have hte : t = 9 := by omega
          subst hte
          have hl9' : ¬ (9 : Int) < 9 := by decide
          obtain ⟨hI, _, htk, hek, hS, hcell, hgl2⟩ := unhide HI
          obtain ⟨gg, rfl, hg1, hg2, hcap, _⟩ := hO.at_ (by rw [gdj_len]; omega)
          have hlp : (gdj e 9).length = E + 9 := by rw [gdj_len, hE]
          rw [hlp] at hcap
          have hal : avs.length = k := by rw [← hI.sln]; exact hsl
          obtain ⟨ao', ac', w5, hr5, hF5, hc5, ⟨qb, rfl⟩, so', sc', w6, hr6, hI6⟩ := hI.step (gdj e 9) gg lc E hO (gdj_lt hS.b 9) (by omega) (fun e' he' => by
            rw [hsl, hek] at he'
            cases he'
            exact ⟨hE.symm, by rw [hlp, hE]⟩) (E + 9) hlp
          rw [hal] at hr5
          rw [hsl] at hr6
          rw [← htk] at hI6
          have c5 : w5.cell? ⟨g, o + k, none⟩ = some (.slice vo E vc) := (hF5.cell (p := ⟨g, o + k, none⟩) (lt_of_cell hcell) (fun h => h)).trans hcell
          have HR5 := hide hr5
          have HR6 := hide hr6
          have H6 := hide (And.intro hI6 hsl)
          clear hr5 hr6 hI6 hI htk hek hS hcell hO hF5 hc5 hlp hal
          have hE9 : (E : Int) ≤ (lc : Int) := by omega
          go_wp2_with (first | (at_builtin; refine wpList_app rfl (.tmp 36) (.tmp 38) 22 22 rfl _ _ _ rfl rfl (unhide HR5) ?_) | (at_builtin; refine wpList_app rfl (.tmp 40) (.tmp 48) 22 22 rfl _ _ _ rfl rfl (unhide HR6) ?_))
          exact ⟨⟨k + 1, so', sc', _, _, ac', _, by omega, by go_num, rfl, rfl, by rw [List.length_append, (unhide H6).2]; rfl, (unhide H6).1⟩, by simp [intOf]; omega⟩
    · have hkN : k = N := by omega
      have hlt' : ¬ (k : Int) < (N : Int) := by omega
      have htk : es.take k = es := List.take_of_length_le (by omega)
      rw [htk] at hI
      have hI0 : GI w wr es (glk es 0) so sc svs ao ac avs := by simpa [glk] using hI
      have HI := hide (And.intro hI0 (And.intro hsl hkN))
      clear hI hI0 htk hkN hsl
      go_wp2_with fail
      go_loopw [4, 5, 9] (fun sv av jv wq => ∃ (t : Nat) (so : Option Addr) (sc : Nat) (svs : List Value) (ao : Option Addr) (ac : Nat) (avs : List Value), t ≤ 9 ∧ jv = .int .i64 (t : Nat) ∧ sv = .slice so (k + t) sc ∧ av = .slice ao (k + t) ac ∧ svs.length = k + t ∧ GI w wq es (glk es t) so sc svs ao ac avs) (fun _ _ jv _ => 9 - (intOf jv).toNat)
      case atStart => exact ⟨0, so, sc, svs, ao, ac, avs, Nat.zero_le _, rfl, rfl, rfl, (unhide HI).2.1, (unhide HI).1⟩
      case round =>
        obtain ⟨t, so, sc, svs, ao, ac, avs, ht, rfl, rfl, rfl, hsl, hI⟩ := hrel
        rename World => wq
        have hkN := (unhide HI).2.2
        by_cases hl9 : t < 9
        · have hl9' : (t : Int) < 9 := by omega
          have hal : avs.length = k + t := by rw [← hI.sln]; exact hsl
          obtain ⟨ao', ac', w5, hr5, hF5, hc5, ⟨qb, rfl⟩, so', sc', w6, hr6, hI6⟩ := hI.step [7] wq.heap.size 1 1 (ob_lit1 wq 7 (by decide)) (by decide) (by omega) (fun e' he' => by
            have := (List.getElem?_eq_some_iff.1 he').1
            omega) 1 rfl
          rw [hal] at hr5 hc5
          rw [hsl] at hr6
          rw [glk_succ] at hI6
          have e7 : ((7 : Nat) : Int) = 7 := rfl
          have hz : (wq.alloc (.cells #[.int .u8 7] 5)).heap.size = wq.heap.size + 1 := by simp
          simp only [e7, hz] at hr5
          clear e7 hz
          have HR5 := hide hr5
          have HR6 := hide hr6
          have H6 := hide (And.intro hI6 hsl)
          clear hr5 hr6 hI6 hI hF5 hal hsl hkN
          have r1 : IntKind.i64.wrap ((k : Int) + (t : Int) + 1 - 1) = (k : Int) + (t : Int) := by rw [IntKind.wrap_i64]; omega
          simp only at hc5
          go_wp2_with (first | (at_builtin; refine wpList_app rfl (.tmp 54) (.tmp 56) 22 22 rfl _ _ _ rfl rfl (unhide HR5) ?_) | (at_builtin; refine wpList_app rfl (.tmp 58) (.tmp 65) 22 22 rfl _ _ _ rfl rfl (unhide HR6) ?_))
          exact ⟨⟨t + 1, so', sc', _, _, ac', _, by omega, by go_num, rfl, rfl, by rw [List.length_append, (unhide H6).2]; rfl, (unhide H6).1⟩, by simp [intOf]; omega⟩
        · have hte : t = 9 := by omega
          subst hte
          have hl9' : ¬ (9 : Int) < 9 := by decide
          have hcp : k ≤ sc := by
            rcases hI.sho.2 with ⟨e, e2⟩ | ⟨g, cap, cur, e, _, _, h3, _⟩
            · omega
            · simp only [Value.slice.injEq, true_and] at e
              rw [e.2]; omega
          have hI' : GI w wq es (gls es) so sc svs ao ac avs := hI
          have H6 := hide (And.intro hI' (And.intro hsl hkN))
          clear hI hI' hsl hkN
          have hcp' : (k : Int) ≤ (sc : Int) := by omega
          go_wp2_with fail
          go_returns
          obtain ⟨h1, h2, h3⟩ := unhide H6
          subst h3
          exact ⟨so, sc, svs, ao, ac, rfl, h2, avs, h1⟩
end Go.Proofs.YtocdnomfpgdglaaDoor

namespace Go.Proofs.YtocdnomfpgdglaaDoor
open Go.RowKit

theorem gls_len (es : List (List Nat)) : (gls es).length = es.length + 9 := by simp [gls]
theorem gls_lo (es : List (List Nat)) (i : Nat) (h : i < es.length) : (gls es)[i]'(by rw [gls_len]; omega) = gdj es[i] 9 := by
  simp only [gls]
  rw [List.getElem_append_left (by simpa using h)]
  simp
theorem gls_hi (es : List (List Nat)) (i : Nat) (h : es.length ≤ i) (h2 : i < es.length + 9) : (gls es)[i]'(by rw [gls_len]; omega) = [7] := by
  simp only [gls]
  rw [List.getElem_append_right (by simpa using h), List.getElem_replicate]
theorem gdj_at (m : List Nat) (k j : Nat) (hj : j < m.length + k) : (gdj m k).getD j 0 = if j < m.length then m.getD j 0 else 77 := by
  rw [gdj, List.getD, List.getD]
  by_cases h : j < m.length
  · rw [if_pos h, List.getElem?_append_left h]
  · rw [if_neg h, List.getElem?_append_right (by omega), List.getElem?_replicate, if_pos (by omega)]; rfl
set_option maxRecDepth 100000 in
set_option maxHeartbeats 1000000 in
theorem mleft_any (x y z : Value) (vs us ts : List Value) (es : List (List Nat)) (w : World) (hx : Pcs w x vs es) (hy : Pcs w y us es) (hz : Pcs w z ts (gls es)) (hB : ∀ e ∈ es, e.length ≤ 4000000) (hn : es.length ≤ 8000000) :
    Calls Tryd.prog 26 #[x, y, z] w fun e w' => e = .returned (.bool true) ∧ Fr (fun _ => False) w w' := by
  obtain ⟨xo, xc, rfl⟩ := hx.form
  obtain ⟨yo, yc, rfl⟩ := hy.form
  obtain ⟨zo, zc, rfl⟩ := hz.form
  rw [gls_len] at hz ⊢
  have HG := hide (And.intro hx (And.intro hy (And.intro hz (And.intro hB hn))))
  clear hx hy hz hB hn
  generalize hN : es.length = N at *
  go_enter Tryd.func26, Tryd.ntmps26
  go_wp2_with fail
  go_loopw [7] (fun iv wr => ∃ (i q : Nat), i ≤ N + 9 ∧ iv = .int .i64 (i : Nat) ∧ wr = w.drewN q) (fun iv _ => N + 9 - (intOf iv).toNat)
  case atStart => exact ⟨0, 0, Nat.zero_le _, rfl, rfl⟩
  case round =>
    obtain ⟨i, q, hi, rfl, rfl⟩ := hrel
    have hN8 := (unhide HG).2.2.2.2
    by_cases hlt : i < N + 9
    · have hlt' : (i : Int) < (N : Int) + 9 := by omega
      obtain ⟨gz, oz, ao, ac, rfl, cz, sz⟩ := (unhide HG).2.2.1.nth (Fr.refl _ _) i (by rw [gls_len, hN]; exact hlt)
      by_cases hiN : i < N
      · have hiN' : ¬ (N : Int) ≤ (i : Int) := by omega
        have hiN2 : ¬ N ≤ i := by omega
        have hie : i < es.length := by omega
        obtain ⟨gx, ox, bo, bc, rfl, cx, sx⟩ := (unhide HG).1.nth (Fr.refl _ _) i hie
        obtain ⟨gy, oy, so, sc, rfl, cy, -⟩ := (unhide HG).2.1.nth (Fr.refl _ _) i hie
        rw [gls_lo es i hie] at cz sz
        rw [gdj_len] at cz sz
        have hel := (unhide HG).2.2.2.1 es[i] (List.getElem_mem hie)
        generalize es[i] = e at *
        have HS := hide (And.intro sz sx)
        clear sz sx
        generalize hE : e.length = E at *
        have hiN3 : (i : Int) < (N : Int) := by omega
        go_wp2_with fail
        go_quiet (fail)
        go_wp2_with fail
        go_loopw [8] (fun jv wq => ∃ (j p : Nat), j ≤ E + 9 ∧ jv = .int .i64 (j : Nat) ∧ wq = w.drewN p) (fun jv _ => E + 9 - (intOf jv).toNat)
        case atStart => exact ⟨0, q + nq, Nat.zero_le _, rfl, by rw [World.drewN_drewN]⟩
        case round =>
          obtain ⟨j, p, hj, rfl, rfl⟩ := hrel
          by_cases hjl : j < E + 9
          · have hjl' : (j : Int) < (E : Int) + 9 := by omega
            obtain ⟨g1, o1, rfl, b1⟩ := src_cell (unhide HS).1.s j (by rw [gdj_len, hE]; exact hjl) (unhide HS).1.b
            rw [gdj_at e 9 j (by rw [hE]; exact hjl), hE] at b1
            by_cases hjE : j < E
            · rw [if_pos hjE] at b1
              obtain ⟨g2, o2, rfl, b2⟩ := src_cell (unhide HS).2.s j (by rw [hE]; exact hjE) (unhide HS).2.b
              have hjE' : (j : Int) < (E : Int) := by omega
              have hjE2 : ¬ (E : Int) ≤ (j : Int) := by omega
              have hjE3 : ¬ E ≤ j := by omega
              generalize e.getD j 0 = v at *
              go_wp2_with fail
              go_quiet (fail)
              go_wp2_with fail
              exact ⟨⟨j + 1, p + nq, by omega, by go_num, rfl⟩, by simp [intOf]; omega⟩
            · rw [if_neg hjE] at b1
              have hjE' : ¬ (j : Int) < (E : Int) := by omega
              have hjE2 : (E : Int) ≤ (j : Int) := by omega
              go_wp2_with fail
              go_quiet (fail)
              go_wp2_with fail
              exact ⟨⟨j + 1, p + nq, by omega, by go_num, rfl⟩, by simp [intOf]; omega⟩
          · have hjl' : ¬ (j : Int) < (E : Int) + 9 := by omega
            go_wp2_with fail
            exact ⟨⟨i + 1, p, by omega, by go_num, rfl⟩, by simp [intOf]; omega⟩
      · have hiN' : (N : Int) ≤ (i : Int) := by omega
        rw [gls_hi es i (by omega) (by omega)] at cz sz
        obtain ⟨g1, o1, rfl, b1⟩ := src_cell sz.s 0 (by decide) sz.b
        have b2 : w.cell? ⟨g1, o1, none⟩ = some (.int .u8 7) := b1
        clear b1 sz
        simp only [List.length_singleton] at cz
        go_wp2_with fail
        exact ⟨⟨i + 1, q, by omega, by go_num, rfl⟩, by simp [intOf]; omega⟩
    · have hlt' : ¬ (i : Int) < (N : Int) + 9 := by omega
      go_wp2_with fail
      go_ret
      exact ⟨rfl, (Fr.refl _ _).drewN q⟩
end Go.Proofs.YtocdnomfpgdglaaDoor

namespace Go.Proofs.YtocdnomfpgdglaaDoor
open Go.RowKit

theorem GI.pcsA {w wr : World} {es qs : List (List Nat)} {so : Option Addr} {sc : Nat} {svs : List Value} {ao : Option Addr} {ac : Nat} {avs : List Value} (h : GI w wr es qs so sc svs ao ac avs) : Pcs wr (.slice ao avs.length ac) avs qs := h.all.pcs
theorem GI.pcsS {w wr : World} {es : List (List Nat)} {so : Option Addr} {sc : Nat} {svs : List Value} {ao : Option Addr} {ac : Nat} {avs : List Value} (h : GI w wr es (gls es) so sc svs ao ac avs) (hl : svs.length = es.length + 9) (hb : ∀ e ∈ es, ∀ v ∈ e, v < 256) : Pcs wr (.slice so es.length sc) (svs.take es.length) es ∧ Cp (.slice so es.length sc) := by
  have hal : avs.length = es.length + 9 := by rw [← h.sln]; exact hl
  obtain ⟨gs, rfl⟩ : ∃ g, so = some ⟨g, 0, none⟩ := by
    rcases h.sho.2 with ⟨_, e⟩ | ⟨g, cap, cur, e, _⟩
    · omega
    · simp only [Value.slice.injEq] at e
      exact ⟨g, e.1⟩
  have hsc : svs.length ≤ sc := by
    rcases h.sho.2 with ⟨e, _⟩ | ⟨g, cap, cur, e, _, _, h3, _⟩
    · simp at e
    · simp only [Value.slice.injEq, true_and] at e
      rw [e.2]; exact h3
  have hlt := (h.sho.lt gs rfl).2
  have htl : (svs.take es.length).length = es.length := by rw [List.length_take]; omega
  refine ⟨⟨htl, .inr (.inr ⟨gs, 0, sc, by rw [htl], hlt, fun j v hv => ?_⟩), fun j v p hv hp => ?_, hb⟩, fun _ _ _ e => by cases e; omega⟩
  · rw [List.getElem?_take] at hv
    split at hv
    · rename_i hj
      rw [Nat.zero_add, h.sho.cellAt j (by omega)]; exact hv
    · cases hv
  · rw [List.getElem?_take] at hv
    split at hv
    · rename_i hj
      have hpe : es[j] = p := by
        rw [List.getElem?_eq_getElem hj] at hp
        exact Option.some.inj hp
      have hv' : avs[j]? = some (avs[j]'(by omega)) := List.getElem?_eq_getElem _
      obtain ⟨g, c, e1, e2⟩ := h.pre j v _ p hv hv' hp
      obtain ⟨bo, c', e3, hO⟩ := h.all.row j _ _ hv' (List.getElem?_eq_getElem (l := gls es) (by rw [gls_len]; omega))
      rw [gls_lo es j hj, hpe] at e3 hO
      rw [e2] at e3
      simp only [Value.slice.injEq] at e3
      obtain ⟨rfl, _, rfl⟩ := e3
      have hbp : ∀ v ∈ gdj p 9, v < 256 := gdj_lt (hb p (List.mem_of_getElem? hp)) 9
      have hs := hO.part 0 p.length (by rw [gdj_len]; omega) hbp
      have ee : ((gdj p 9).drop 0).take p.length = p := by rw [List.drop_zero, gdj, List.take_left]
      rw [ee, Nat.sub_zero] at hs
      rw [e1]
      exact ⟨hs.s, hs.cap, hs.lt⟩
    · cases hv
/-- The root, whatever the width. -/
def mr (j : Int) (es : List (List Nat)) : List Nat := if 1 ≤ j ∧ j ≤ 32 then mth j (es.map (lf j)) else []
theorem mr_lt (j : Int) (es : List (List Nat)) : ∀ v ∈ mr j es, v < 256 := by
  unfold mr
  split
  · exact mth_lt _ _ _ (Nat.le_refl _) (fun p hp => by
      obtain ⟨e, _, rfl⟩ := List.mem_map.1 hp
      exact lf_lt _ _)
  · intro v h; cases h
theorem mr_len (j : Int) (es : List (List Nat)) : (mr j es).length ≤ 32 := by
  unfold mr
  split
  · rename_i h
    obtain ⟨wi, rfl⟩ : ∃ k : Nat, j = (k : Int) := ⟨j.toNat, by omega⟩
    rw [mth_wid wi (by omega) (by omega) _ (map_lf_len wi (by omega) (by omega) es)]; omega
  · exact Nat.zero_le _
theorem mrootU (j : Int) (x : Value) (us : List Value) (es : List (List Nat)) (w : World) (hg : GS w) (ht : GT w) (hp : Pcs w x us es) (hB : ∀ e ∈ es, e.length ≤ 16000000) (hn : es.length ≤ 8000000) :
    Calls Tryd.prog 25 #[.int .i64 j, x] w fun e w' => ∃ yo yc, e = .returned (.slice yo (mr j es).length yc) ∧ OB w w' yo yc (mr j es) := by
  by_cases h : 1 ≤ j ∧ j ≤ 32
  · obtain ⟨wi, rfl⟩ : ∃ k : Nat, j = (k : Int) := ⟨j.toNat, by omega⟩
    have := mroot_in wi (by omega) (by omega) x us es w hg ht hp hB hn
    have hm := mth_wid wi (by omega) (by omega) _ (map_lf_len wi (by omega) (by omega) es)
    rw [mr, if_pos h, hm]
    exact this
  · refine (mroot_out j (by omega) x us es w hp hn).mono ?_
    rintro e w' ⟨rfl, hF⟩
    rw [mr, if_neg h]
    exact ⟨none, 0, rfl, own_nil _ _, hF⟩
set_option maxRecDepth 100000 in
theorem groot_out (i : Int) (x : Value) (w : World) (h : i < 1 ∨ 32 < i) : Calls Tryd.prog 24 #[.int .i64 i, x] w fun e w' => e = .returned (.slice none 0 0) ∧ w' = w := by
  go_enter Tryd.func24, Tryd.ntmps24
  go_wp2_with fail
  refine (may_no i w h).mono ?_
  rintro e w0 ⟨rfl, rfl⟩
  go_wp2_with fail
  go_ret
  exact ⟨rfl, rfl⟩
theorem grootU (j : Int) (x : Value) (vs : List Value) (es : List (List Nat)) (w : World) (hr : GR w) (hp : Pcs w x vs es) (hB : ∀ e ∈ es, e.length ≤ 4000000) (hn : es.length ≤ 8000000) :
    Calls Tryd.prog 24 #[.int .i64 j, x] w fun e w' => ∃ yo yc, e = .returned (.slice yo (mr j es).length yc) ∧ Sl w' (.slice yo (mr j es).length yc) (mr j es) ∧ Fr (fun _ => False) w w' := by
  by_cases h : 1 ≤ j ∧ j ≤ 32
  · rw [mr, if_pos h]
    exact groot_any j x vs es w hr hp hB hn h.1 h.2
  · refine (groot_out j x w (by omega)).mono ?_
    rintro e w' ⟨rfl, rfl⟩
    rw [mr, if_neg h]
    exact ⟨none, 0, rfl, sl_nil _, Fr.refl _ _⟩
theorem OB.ptr {w wr : World} {xo : Option Addr} {cp : Nat} {l : List Nat} (h : OB w wr xo cp l) : l = [] ∨ ∃ g, xo = some ⟨g, 0, none⟩ ∧ w.heap.size ≤ g ∧ g < wr.heap.size := by
  rcases h.own.2 with ⟨e, e2⟩ | ⟨g, cap, cur, e, _⟩
  · exact .inl (List.length_eq_zero_iff.1 e2)
  · simp only [Value.slice.injEq] at e
    obtain ⟨rfl, _⟩ := e
    exact .inr ⟨g, rfl, h.own.lt g rfl⟩
end Go.Proofs.YtocdnomfpgdglaaDoor

namespace Go.Proofs.YtocdnomfpgdglaaDoor
open Go.RowKit

theorem box6 (w : World) (a b c d e f : Value) (ty : Nat) (W : World) (hW : w.alloc (.cells #[a, b, c, d, e, f] ty) = W) : (W.cell? ⟨w.heap.size, 0, none⟩ = some a ∧ W.cell? ⟨w.heap.size, 1, none⟩ = some b ∧ W.cell? ⟨w.heap.size, 2, none⟩ = some c ∧ W.cell? ⟨w.heap.size, 3, none⟩ = some d ∧ W.cell? ⟨w.heap.size, 4, none⟩ = some e ∧ W.cell? ⟨w.heap.size, 5, none⟩ = some f) ∧ Fr (fun _ => False) w W ∧ w.heap.size < W.heap.size := by
  subst hW
  have hc : ∀ j, (w.alloc (.cells #[a, b, c, d, e, f] ty)).cell? ⟨w.heap.size, j, none⟩ = (#[a, b, c, d, e, f] : Array Value)[j]? := fun j => World.cell?_alloc_at _ _ _ _ rfl
  exact ⟨⟨hc 0, hc 1, hc 2, hc 3, hc 4, hc 5⟩, (Fr.refl _ _).alloc _, by simp⟩
def X6 (w : World) (b : Nat) (c0 c1 c2 c3 c4 c5 : Value) : Prop := w.cell? ⟨b, 0, none⟩ = some c0 ∧ w.cell? ⟨b, 1, none⟩ = some c1 ∧ w.cell? ⟨b, 2, none⟩ = some c2 ∧ w.cell? ⟨b, 3, none⟩ = some c3 ∧ w.cell? ⟨b, 4, none⟩ = some c4 ∧ w.cell? ⟨b, 5, none⟩ = some c5
theorem X6.fr0 {w w' : World} {b : Nat} {c0 c1 c2 c3 c4 c5 : Value} (h : X6 w b c0 c1 c2 c3 c4 c5) (hf : Fr (fun _ => False) w w') : X6 w' b c0 c1 c2 c3 c4 c5 := by
  obtain ⟨h0, h1, h2, h3, h4, h5⟩ := h
  have hl := lt_of_cell h0
  have hc : ∀ j v, w.cell? ⟨b, j, none⟩ = some v → w'.cell? ⟨b, j, none⟩ = some v := fun j v h => (hf.cell (p := ⟨b, j, none⟩) hl (fun h => h)).trans h
  exact ⟨hc _ _ h0, hc _ _ h1, hc _ _ h2, hc _ _ h3, hc _ _ h4, hc _ _ h5⟩
set_option maxRecDepth 100000 in
set_option maxHeartbeats 4000000 in
/-- MerkleChecks. -/
theorem checks_any (a i n : Int) (lv pv rv : Value) (leaf root : List Nat) (us : List Value) (ps : List (List Nat)) (w : World) (hg : GS w) (hr : GR w) (ht : GT w) (hl : Sl w lv leaf) (hrt : Sl w rv root) (hp : Pcs w pv us ps) (hC : Cp pv) (hn : n < 9223372036854775808) (hB : ∀ p ∈ ps, p.length ≤ 4000000) (hN : ps.length ≤ 4000000) :
    Calls Tryd.prog 7 #[.agg #[.int .i64 a, .int .i64 i, .int .i64 n, lv, pv, rv]] w fun e w' => e = .returned (.bool true) ∧ Fr (fun _ => False) w w' := by
  obtain ⟨lo, lc, rfl⟩ := hl.form
  obtain ⟨ro, rc, rfl⟩ := hrt.form
  obtain ⟨po, pc, rfl⟩ := hp.form
  have hgd := fun w' (hf : Fr (fun _ => False) w w') => mguarded_any _ us ps w' (hp.fr0 hf) hB (by omega)
  have hm := fun w' so sc us' (hf : Fr (fun _ => False) w w') (h1 : Pcs w' (.slice so ps.length sc) us' ps) (h2 : Cp (.slice so ps.length sc)) => checkPath_any a i n _ _ _ leaf root us' ps w' (hg.fr0 hf) (hl.fr0 hf) (hrt.fr0 hf) h1 h2 hn (by omega)
  have hgm := fun w' (hf : Fr (fun _ => False) w w') => gcheckPath_any a i n _ _ _ leaf root us ps w' (hr.fr0 hf) (hl.fr0 hf) (hrt.fr0 hf) (hp.fr0 hf) hC hn (by omega)
  have hq := fun w' so sc us' (hf : Fr (fun _ => False) w w') (h1 : Pcs w' (.slice so ps.length sc) us' ps) (h2 : Cp (.slice so ps.length sc)) => checkProof_any a i n _ _ _ leaf root us' ps w' (hg.fr0 hf) (hl.fr0 hf) (hrt.fr0 hf) h1 h2 hn (by omega)
  have hgq := fun w' (hf : Fr (fun _ => False) w w') => gcheckProof_any a i n _ _ _ leaf root us ps w' (hr.fr0 hf) (hl.fr0 hf) (hrt.fr0 hf) (hp.fr0 hf) hC hn (by omega)
  have hlf := fun w' so sc ao ac us' ts (hf : Fr (fun _ => False) w w') (h1 : Pcs w' (.slice so ps.length sc) us' ps) (h2 : Pcs w' (.slice ao (ps.length + 9) ac) ts (gls ps)) => mleft_any _ _ _ us us' ts ps w' (hp.fr0 hf) h1 h2 hB (by omega)
  have hlv := fun (w' : World) (hf : Fr (fun _ => False) w w') => mlives_any w' (hg.fr0 hf) (ht.fr0 hf)
  have hbyt := hp.byt
  generalize chkP a leaf i n ps root = B1 at *
  generalize chkQ a i n leaf root ps = B2 at *
  have HC := hide (And.intro hgd (And.intro hm (And.intro hgm (And.intro hq (And.intro hgq (And.intro hlf (And.intro hlv hbyt)))))))
  clear hgd hm hgm hq hgq hlf hlv hbyt hg hr ht hl hrt hp hC hn hB hN
  generalize leaf.length = LL at *
  generalize root.length = RL at *
  generalize hPN : ps.length = PN at *
  obtain ⟨W1, hW1⟩ : ∃ W1, w.alloc (.cells #[.int .i64 a, .int .i64 i, .int .i64 n, .slice lo LL lc, .slice po PN pc, .slice ro RL rc] 54) = W1 := ⟨_, rfl⟩
  obtain ⟨⟨x0, x1, x2, x3, x4, x5⟩, hF1, hlt1⟩ := box6 w _ _ _ _ _ _ _ W1 hW1
  have HX := hide (And.intro (show X6 W1 w.heap.size _ _ _ _ _ _ from ⟨x0, x1, x2, x3, x4, x5⟩) hF1)
  clear hF1 hlt1
  go_enter Tryd.func7, Tryd.ntmps7
  go_wp2_with fail
  try rw [hW1]
  generalize w.heap.size = b at *
  clear hW1
  refine ((unhide HC).1 _ (unhide HX).2).mono ?_
  rintro e w1 ⟨so, sc, svs, ao, ac, avs, rfl, hsl, hI⟩
  have h1 := hI.pcsS (by rw [hsl, hPN]) (unhide HC).2.2.2.2.2.2.2
  have h2 := hI.pcsA
  have hal : avs.length = PN + 9 := by rw [← hI.sln]; exact hsl
  rw [hal] at h2
  rw [hPN] at h1
  have hFw1 : Fr (fun _ => False) w w1 := (unhide HX).2.trans hI.all.own.fr (fun _ _ h => h)
  have hS : ∀ w', Fr (fun _ => False) w1 w' → X6 w' b (.int .i64 a) (.int .i64 i) (.int .i64 n) (.slice lo LL lc) (.slice po PN pc) (.slice ro RL rc) := fun w' hf => ((unhide HX).1.fr0 hI.all.own.fr).fr0 hf
  unfold X6 at hS
  have H1 := hide (And.intro hFw1 (And.intro h1.1 (And.intro h2 h1.2)))
  have HS := hide hS
  clear hI h1 h2 hsl hal hFw1 hS x0 x1 x2 x3 x4 x5
  have T1 : True := trivial
  go_wp2_with fail
  go_region_held3 (fun w' => w'.cell? ⟨b, 0, none⟩ = some (.int .i64 a) ∧ w'.cell? ⟨b, 1, none⟩ = some (.int .i64 i) ∧ w'.cell? ⟨b, 2, none⟩ = some (.int .i64 n) ∧ w'.cell? ⟨b, 3, none⟩ = some (.slice lo LL lc) ∧ w'.cell? ⟨b, 4, none⟩ = some (.slice po PN pc) ∧ w'.cell? ⟨b, 5, none⟩ = some (.slice ro RL rc))
    (first | assumption | exact (unhide HS) _ (Fr.refl _ _).drew | exact (unhide HS) _ fC | exact (unhide HS) _ fB | exact (unhide HS) _ fA)
    (first
      | (go_at_call 19; clear T1; refine ((unhide HC).2.1 _ _ _ _ ((unhide H1).1.drew) ((unhide H1).2.1.fr0 (Fr.refl _ _).drew) (unhide H1).2.2.2).mono ?_; rintro e wA ⟨rfl, hA⟩; have fA : Fr (fun _ => False) w1 wA := (Fr.refl _ _).drew.trans hA (fun _ _ h => h))
      | (go_at_call 35; refine ((unhide HC).2.2.1 _ ((unhide H1).1.trans fA (fun _ _ h => h))).mono ?_; rintro e wB ⟨rfl, hB⟩; have fB : Fr (fun _ => False) w1 wB := fA.trans hB (fun _ _ h => h))
      | (go_at_call 26; refine ((unhide HC).2.2.2.2.2.1 _ _ _ _ _ _ _ ((unhide H1).1.trans fB (fun _ _ h => h)) ((unhide H1).2.1.fr0 fB) ((unhide H1).2.2.1.fr0 fB)).mono ?_; rintro e wC ⟨rfl, hC⟩; have fC : Fr (fun _ => False) w1 wC := fB.trans hC (fun _ _ h => h)))
  have H2 := hide fC
  clear fA fB fC hA hB hC
  have T2 : True := trivial
  go_wp2_with fail
  go_region_held3 (fun w' => w'.cell? ⟨b, 0, none⟩ = some (.int .i64 a) ∧ w'.cell? ⟨b, 1, none⟩ = some (.int .i64 i) ∧ w'.cell? ⟨b, 2, none⟩ = some (.int .i64 n) ∧ w'.cell? ⟨b, 3, none⟩ = some (.slice lo LL lc) ∧ w'.cell? ⟨b, 4, none⟩ = some (.slice po PN pc) ∧ w'.cell? ⟨b, 5, none⟩ = some (.slice ro RL rc))
    (first | assumption | exact (unhide HS) _ (unhide H2).drew | exact (unhide HS) _ fG | exact (unhide HS) _ fF | exact (unhide HS) _ fE | exact (unhide HS) _ fD)
    (first
      | (go_at_call 36; clear T2; refine ((unhide HC).2.2.2.1 _ _ _ _ ((unhide H1).1.trans (unhide H2).drew (fun _ _ h => h)) ((unhide H1).2.1.fr0 (unhide H2).drew) (unhide H1).2.2.2).mono ?_; rintro e wD ⟨rfl, hD⟩; have fD : Fr (fun _ => False) w1 wD := (unhide H2).drew.trans hD (fun _ _ h => h))
      | (go_at_call 37; refine ((unhide HC).2.2.2.2.1 _ ((unhide H1).1.trans fD (fun _ _ h => h))).mono ?_; rintro e wE ⟨rfl, hE⟩; have fE : Fr (fun _ => False) w1 wE := fD.trans hE (fun _ _ h => h))
      | (go_at_call 26; refine ((unhide HC).2.2.2.2.2.1 _ _ _ _ _ _ _ ((unhide H1).1.trans fE (fun _ _ h => h)) ((unhide H1).2.1.fr0 fE) ((unhide H1).2.2.1.fr0 fE)).mono ?_; rintro e wF ⟨rfl, hF⟩; have fF : Fr (fun _ => False) w1 wF := fE.trans hF (fun _ _ h => h))
      | (go_at_call 10; refine ((unhide HC).2.2.2.2.2.2.1 _ ((unhide H1).1.trans fF (fun _ _ h => h))).mono ?_; rintro e wG ⟨rfl, hG⟩; have fG : Fr (fun _ => False) w1 wG := fF.trans hG (fun _ _ h => h)))
  have H3 := hide ((unhide H1).1.trans fG (fun _ _ h => h))
  clear fD fE fF fG hD hE hF hG
  go_wp2_with fail
  go_ret
  exact ⟨rfl, unhide H3⟩
end Go.Proofs.YtocdnomfpgdglaaDoor

namespace Go.Proofs.YtocdnomfpgdglaaDoor
open Go.RowKit

theorem count_split (t : Int) : ∀ zs : List Int, zs.Pairwise (· < ·) → (∀ z ∈ zs.take (zs.countP (· < t)), z < t) ∧ ∀ z ∈ zs.drop (zs.countP (· < t)), t ≤ z := by
  intro zs
  induction zs with
  | nil => intro _; simp
  | cons a r ih =>
    intro h
    rw [List.pairwise_cons] at h
    obtain ⟨h1, h2⟩ := h
    obtain ⟨i1, i2⟩ := ih h2
    by_cases ha : a < t
    · rw [List.countP_cons_of_pos (by simpa using ha)]
      refine ⟨fun z hz => ?_, fun z hz => ?_⟩
      · rw [List.take_succ_cons] at hz
        rcases List.mem_cons.1 hz with rfl | hz
        · exact ha
        · exact i1 z hz
      · rw [List.drop_succ_cons] at hz; exact i2 z hz
    · have h0 : r.countP (· < t) = 0 := by
        rw [List.countP_eq_zero]
        intro z hz
        have := h1 z hz
        simp; omega
      rw [List.countP_cons_of_neg (by simpa using ha), h0]
      refine ⟨fun z hz => by simp at hz, fun z hz => ?_⟩
      rw [List.drop_zero] at hz
      rcases List.mem_cons.1 hz with rfl | hz
      · omega
      · have := h1 z hz; omega
/-- A slice of numbers. -/
def Ints (w : World) (x : Value) (zs : List Int) : Prop :=
  ((x = .slice none 0 0 ∧ zs = []) ∨ (∃ a c, x = .slice (some a) 0 c ∧ zs = []) ∨ ∃ g o c, x = .slice (some ⟨g, o, none⟩) zs.length c ∧ zs.length ≤ c ∧ g < w.heap.size ∧ ∀ j, j < zs.length → w.cell? ⟨g, o + j, none⟩ = some (.int .i64 (zs.getD j 0)))
theorem Ints.form {w : World} {x : Value} {zs : List Int} (h : Ints w x zs) : ∃ xo xc, x = .slice xo zs.length xc := by
  rcases h with ⟨rfl, rfl⟩ | ⟨a, c, rfl, rfl⟩ | ⟨g, o, c, rfl, _⟩ <;> exact ⟨_, _, rfl⟩
theorem Ints.fr0 {w w' : World} {x : Value} {zs : List Int} (h : Ints w x zs) (hf : Fr (fun _ => False) w w') : Ints w' x zs := by
  rcases h with h | h | ⟨g, o, c, h1, h2, h3, h4⟩
  · exact .inl h
  · exact .inr (.inl h)
  · exact .inr (.inr ⟨g, o, c, h1, h2, Nat.lt_of_lt_of_le h3 hf.size, fun j hj => (hf.cell (p := ⟨g, o + j, none⟩) h3 (fun h => h)).trans (h4 j hj)⟩)
theorem Ints.at_ {w : World} {xo : Option Addr} {n c : Nat} {zs : List Int} (h : Ints w (.slice xo n c) zs) (h0 : 0 < zs.length) : ∃ g o, xo = some ⟨g, o, none⟩ ∧ n = zs.length ∧ zs.length ≤ c ∧ g < w.heap.size ∧ ∀ j, j < zs.length → w.cell? ⟨g, o + j, none⟩ = some (.int .i64 (zs.getD j 0)) := by
  rcases h with ⟨_, rfl⟩ | ⟨a, c, _, rfl⟩ | ⟨g, o, c', e, h2, h3, h4⟩
  · simp at h0
  · simp at h0
  · simp only [Value.slice.injEq] at e
    obtain ⟨rfl, rfl, rfl⟩ := e
    exact ⟨g, o, rfl, rfl, h2, h3, h4⟩
theorem Ints.take {w : World} {g o n c : Nat} {zs : List Int} (hc : zs.length ≤ c) (hg : g < w.heap.size) (h : ∀ j, j < zs.length → w.cell? ⟨g, o + j, none⟩ = some (.int .i64 (zs.getD j 0))) (hn : n ≤ zs.length) : Ints w (.slice (some ⟨g, o, none⟩) n c) (zs.take n) := by
  have hl : (zs.take n).length = n := by rw [List.length_take]; omega
  refine .inr (.inr ⟨g, o, c, by rw [hl], by omega, hg, fun j hj => ?_⟩)
  rw [h j (by omega)]
  simp only [List.getD, List.getElem?_take]
  rw [if_pos (by omega)]
theorem Ints.drop {w : World} {g o n c : Nat} {zs : List Int} (hc : zs.length ≤ c) (hg : g < w.heap.size) (h : ∀ j, j < zs.length → w.cell? ⟨g, o + j, none⟩ = some (.int .i64 (zs.getD j 0))) (hn : n ≤ zs.length) : Ints w (.slice (some ⟨g, o + n, none⟩) (zs.length - n) (c - n)) (zs.drop n) := by
  have hl : (zs.drop n).length = zs.length - n := by rw [List.length_drop]
  refine .inr (.inr ⟨g, o + n, c - n, by rw [hl], by omega, hg, fun j hj => ?_⟩)
  rw [Nat.add_assoc, h (n + j) (by omega)]
  simp only [List.getD, List.getElem?_drop]
/-- The hashes for places. -/
def mny (wi : Nat) (L : List (List Nat)) (f n : Nat) (zs : List Int) : List (List Nat) :=
  if zs = [] then [mth wi (blk L f n)]
  else if _h : n < 2 then []
  else mny wi L f (hf n) (zs.take (zs.countP (· < ((f + hf n : Nat) : Int)))) ++ mny wi L (f + hf n) (n - hf n) (zs.drop (zs.countP (· < ((f + hf n : Nat) : Int))))
termination_by n
decreasing_by
  · exact hf_lt n (by omega)
  · have := hf_pos n; omega
theorem mny_nil (wi : Nat) (L : List (List Nat)) (f n : Nat) : mny wi L f n [] = [mth wi (blk L f n)] := by rw [mny, if_pos rfl]
theorem mny_one {wi : Nat} {L : List (List Nat)} {f n : Nat} {zs : List Int} (hz : zs ≠ []) (h : n < 2) : mny wi L f n zs = [] := by rw [mny, if_neg hz, dif_pos h]
theorem mny_two {wi : Nat} {L : List (List Nat)} {f n : Nat} {zs : List Int} (hz : zs ≠ []) (h : 2 ≤ n) : mny wi L f n zs = mny wi L f (hf n) (zs.take (zs.countP (· < ((f + hf n : Nat) : Int)))) ++ mny wi L (f + hf n) (n - hf n) (zs.drop (zs.countP (· < ((f + hf n : Nat) : Int)))) := by
  conv => lhs; rw [mny, if_neg hz, dif_neg (by omega)]
theorem mny_lt (wi : Nat) (L : List (List Nat)) (k : Nat) : ∀ f n zs, n ≤ k → zs ≠ [] → 1 ≤ n → (mny wi L f n zs).length ≤ n := by
  induction k with
  | zero => intro f n zs h _ h1; omega
  | succ k ih =>
    intro f n zs h hz h1
    by_cases h2 : n < 2
    · rw [mny_one hz h2]; simp
    · rw [mny_two hz (by omega), List.length_append]
      have h3 := hf_lt n (by omega)
      have h4 := hf_pos n
      generalize zs.countP (· < ((f + hf n : Nat) : Int)) = C
      have one : ∀ f' n', 1 ≤ n' → n' ≤ k → ∀ ys, (mny wi L f' n' ys).length ≤ n' := fun f' n' h5 h6 ys => by
        by_cases hy : ys = []
        · rw [hy, mny_nil]; simpa using h5
        · exact ih f' n' ys h6 hy h5
      have i1 := one f (hf n) (by omega) (by omega) (zs.take C)
      have i2 := one (f + hf n) (n - hf n) (by omega) (by omega) (zs.drop C)
      omega
theorem mny_le (wi : Nat) (L : List (List Nat)) (f n : Nat) (zs : List Int) : (mny wi L f n zs).length ≤ n + 1 := by
  by_cases hz : zs = []
  · rw [hz, mny_nil]; simp
  · by_cases h1 : 1 ≤ n
    · have := mny_lt wi L n f n zs (Nat.le_refl _) hz h1; omega
    · rw [mny_one hz (by omega)]; simp
def ManySays (tb wi : Nat) (L : List (List Nat)) (f n : Nat) (zs : List Int) (x : Value) (w : World) : Prop :=
  Calls Tryd.prog 79 #[pv (.pointer (some ⟨tb, 0, none⟩)) f n, x] w fun e w' => ∃ ao cp vs, e = .returned (.slice ao vs.length cp) ∧ OL w w' ao cp vs (mny wi L f n zs)
set_option maxRecDepth 100000 in
set_option maxHeartbeats 1000000 in
theorem many_nil (tb wi : Nat) (hw1 : 1 ≤ wi) (hw32 : wi ≤ 32) (L : List (List Nat)) (f n : Nat) (x : Value) (w : World) (hT : Tk w tb wi L) (hA : Al f n) (hL : f + n ≤ L.length) (hx : Ints w x []) : ManySays tb wi L f n [] x w := by
  have hroot := fun w' (hf : Fr (fun _ => False) w w') => root_any tb wi hw1 hw32 L _ f n w' (Nat.le_refl _) (hT.fr0 hf) hA hL
  have hMw := hT.mw hw1 hw32 f n
  have hMb := hT.mb f n
  unfold ManySays
  unfold RootSays at hroot
  rw [mny_nil]
  generalize mth wi (blk L f n) = M at *
  obtain ⟨xo, xc, rfl⟩ := hx.form
  have HC := hide (And.intro hroot (And.intro hMw hMb))
  clear hroot hMw hMb hT hA hL hx
  unfold pv at *
  simp only [List.length_nil]
  go_enter Tryd.func79, Tryd.ntmps79
  go_wp2_with fail
  refine ((unhide HC).1 _ ((Fr.refl _ _).alloc _)).mono ?_
  rintro e w1 ⟨yo, yc, rfl, hO⟩
  obtain ⟨W, hW⟩ : ∃ W, w1.alloc (.cells #[.slice yo wi yc] 26) = W := ⟨_, rfl⟩
  have hL1 := (ol_lit1 hO (unhide HC).2.2 wi (unhide HC).2.1 W hW).base ((Fr.refl _ _).alloc _)
  have H1 := hide hL1
  clear hL1 hO
  go_wp2_with fail
  go_ret
  exact ⟨_, 1, _, rfl, unhide H1⟩
set_option maxRecDepth 100000 in
set_option maxHeartbeats 1000000 in
theorem many_one (tb wi : Nat) (L : List (List Nat)) (f : Nat) (zs : List Int) (x : Value) (w : World) (hx : Ints w x zs) (hz : zs ≠ []) : ManySays tb wi L f 1 zs x w := by
  unfold ManySays pv
  rw [mny_one hz (by decide)]
  obtain ⟨xo, xc, rfl⟩ := hx.form
  have h0 : 0 < zs.length := List.length_pos_iff.2 hz
  have q0 : ((zs.length : Int) == 0) = false := beq_false_of_ne (by omega)
  have q1 : ¬ zs.length = 0 := by omega
  have q2 : ¬ zs = [] := hz
  clear hx hz
  generalize zs.length = N at *
  have e1 : ((1 : Nat) : Int) = 1 := rfl
  simp only [e1]
  go_enter Tryd.func79, Tryd.ntmps79
  go_wp2_with fail
  go_ret
  exact ⟨none, 0, [], rfl, (OL.nil _).base ((Fr.refl _ _).alloc _)⟩
set_option maxRecDepth 100000 in
set_option maxHeartbeats 2000000 in
theorem many_two (tb wi : Nat) (L : List (List Nat)) (f n : Nat) (zs : List Int) (x : Value) (w : World) (hb : f + n ≤ 8000000) (h2 : 2 ≤ n) (hx : Ints w x zs) (hz : zs ≠ []) (hs : zs.Pairwise (· < ·)) (hzl : zs.length ≤ 16000000)
    (ih1 : ∀ w' x', Fr (fun _ => False) w w' → Ints w' x' (zs.take (zs.countP (· < ((f + hf n : Nat) : Int)))) → ManySays tb wi L f (hf n) (zs.take (zs.countP (· < ((f + hf n : Nat) : Int)))) x' w')
    (ih2 : ∀ w' x', Fr (fun _ => False) w w' → Ints w' x' (zs.drop (zs.countP (· < ((f + hf n : Nat) : Int)))) → ManySays tb wi L (f + hf n) (n - hf n) (zs.drop (zs.countP (· < ((f + hf n : Nat) : Int)))) x' w') : ManySays tb wi L f n zs x w := by
  have h0 : 0 < zs.length := List.length_pos_iff.2 hz
  obtain ⟨xo, xc, rfl⟩ := hx.form
  obtain ⟨g, o, rfl, -, hc, hgl, hcells⟩ := hx.at_ h0
  have hlt := hf_lt n h2
  have hpos := hf_pos n
  have hpt := fun w => parts_any (some ⟨tb, 0, none⟩) f n w (by omega) h2
  have hfind : ∀ w', Fr (fun _ => False) w w' → Calls Tryd.prog 100 #[.slice (some ⟨g, o, none⟩) zs.length xc, .int .i64 ((f + hf n : Nat) : Int)] w' fun e w'' => ∃ bb, e = .returned (.tuple #[.int .i64 (zs.countP (· < ((f + hf n : Nat) : Int)) : Nat), .bool bb]) ∧ Fr (fun _ => False) w' w'' := fun w' hf' => by
    refine (find_any g o zs.length xc zs ((f + hf n : Nat) : Int) w' (Nat.le_refl _) (by omega) (fun j hj => (hf'.cell (p := ⟨g, o + j, none⟩) hgl (fun h => h)).trans (hcells j hj)) (by rw [List.take_length]; exact hs.imp (fun h => by omega))).mono ?_
    rintro e w'' ⟨rfl, q, rfl⟩
    rw [List.take_length]
    exact ⟨_, rfl, (Fr.refl _ _).drewN q⟩
  have hCl : zs.countP (· < ((f + hf n : Nat) : Int)) ≤ zs.length := List.countP_le_length
  have m1 := mny_le wi L f (hf n) (zs.take (zs.countP (· < ((f + hf n : Nat) : Int))))
  have m2 := mny_le wi L (f + hf n) (n - hf n) (zs.drop (zs.countP (· < ((f + hf n : Nat) : Int))))
  unfold ManySays at *
  rw [mny_two hz h2]
  generalize hC : zs.countP (· < ((f + hf n : Nat) : Int)) = C at *
  have r1 := fun w' (hf' : Fr (fun _ => False) w w') => ih1 w' _ hf' ((Ints.take hc hgl hcells hCl).fr0 hf')
  have r2 : ∀ w', Fr (fun _ => False) w w' → _ := fun w' hf' => ih2 w' _ hf' ((Ints.drop hc hgl hcells hCl).fr0 hf')
  have r3 : C = zs.length → ∀ w' a c', Fr (fun _ => False) w w' → _ := fun hCz w' a c' hf' => ih2 w' (.slice (some a) 0 c') hf' (by rw [hCz, List.drop_length]; exact .inr (.inl ⟨a, c', rfl, rfl⟩))
  generalize mny wi L f (hf n) (zs.take C) = A1 at *
  generalize mny wi L (f + hf n) (n - hf n) (zs.drop C) = A2 at *
  have hcat : ∀ (wr w1 : World) (ao bo : Option Addr) (cp bc : Nat) (vs us : List Value), OL w wr ao cp vs A1 → OL wr w1 bo bc us A2 → True := fun _ _ _ _ _ _ _ _ _ _ => trivial
  have m1' : A1.length ≤ 9000000 := by omega
  have m2' : A2.length ≤ 9000000 := by omega
  have HL := hide (And.intro m1' m2')
  clear m1' m2'
  clear hcat m1 m2 ih1 ih2 hC hs hcells hgl hx hz
  generalize hF2 : f + hf n = F2 at *
  generalize n - hf n = N2 at *
  generalize hf n = K at *
  have q0 : ((zs.length : Int) == 0) = false := beq_false_of_ne (by omega)
  have q1 : ¬ zs.length = 0 := by omega
  have q2 : ((n : Int) == 1) = false := beq_false_of_ne (by omega)
  have q3 : ¬ n = 1 := by omega
  have q4 : (C : Int) ≤ (zs.length : Int) := by omega
  have q5 : (C : Int) ≤ (xc : Int) := by omega
  have HC := hide (And.intro hpt (And.intro hfind (And.intro r1 (And.intro r2 r3))))
  clear hpt hfind r1 r2 r3
  unfold pv at *
  by_cases hcC : xc = C
  · have hCz : C = zs.length := by omega
    have HCz := hide hCz
    have hxc : xc = zs.length := by omega
    clear hcC
    subst hxc
    subst hCz
    generalize zs.length = N at *
    go_enter Tryd.func79, Tryd.ntmps79
    go_wp2_with fail
    obtain ⟨W0, hW0⟩ : ∃ W0, w.alloc (.cells #[.pointer (some ⟨tb, 0, none⟩), .int .i64 f, .int .i64 n] 79) = W0 := ⟨_, rfl⟩
    rw [hW0]
    obtain ⟨-, -, -, hF0⟩ := box3p w _ _ _ _ W0 hW0
    refine ((unhide HC).1 _).mono ?_
    rintro e wA ⟨rfl, hFA⟩
    have HF := hide (hF0.trans hFA (fun _ _ h => h))
    clear hF0 hFA hW0
    go_wp2_with fail
    obtain ⟨W1, hW1⟩ : ∃ W1, (wA.alloc (.cells #[.pointer (some ⟨tb, 0, none⟩), .int .i64 f, .int .i64 K] 79)).alloc (.cells #[.pointer (some ⟨tb, 0, none⟩), .int .i64 F2, .int .i64 N2] 79) = W1 := ⟨_, rfl⟩
    rw [hW1]
    obtain ⟨x0, x1, x2, y0, y1, y2, hF1⟩ := two3 wA _ _ _ _ _ _ _ W1 hW1
    refine ((unhide HC).2.1 _ ((unhide HF).trans hF1 (fun _ _ h => h))).mono ?_
    rintro e wB ⟨bb, rfl, hFB⟩
    have u0 := (hFB.cell (lt_of_cell x0) (fun h => h)).trans x0
    have u1 := (hFB.cell (lt_of_cell x1) (fun h => h)).trans x1
    have u2 := (hFB.cell (lt_of_cell x2) (fun h => h)).trans x2
    have v0 := (hFB.cell (lt_of_cell y0) (fun h => h)).trans y0
    have v1 := (hFB.cell (lt_of_cell y1) (fun h => h)).trans y1
    have v2 := (hFB.cell (lt_of_cell y2) (fun h => h)).trans y2
    have HF2 := hide (((unhide HF).trans hF1 (fun _ _ h => h)).trans hFB (fun _ _ h => h))
    clear hF1 hFB hW1 x0 x1 x2 y0 y1 y2 HF
    generalize wA.heap.size = Z at *
    have hS : ∀ w', Fr (fun _ => False) wB w' → w'.cell? ⟨Z, 0, none⟩ = some (.pointer (some ⟨tb, 0, none⟩)) ∧ w'.cell? ⟨Z, 1, none⟩ = some (.int .i64 f) ∧ w'.cell? ⟨Z, 2, none⟩ = some (.int .i64 K) ∧ w'.cell? ⟨Z + 1, 0, none⟩ = some (.pointer (some ⟨tb, 0, none⟩)) ∧ w'.cell? ⟨Z + 1, 1, none⟩ = some (.int .i64 F2) ∧ w'.cell? ⟨Z + 1, 2, none⟩ = some (.int .i64 N2) := fun w' hf =>
      ⟨(hf.cell (lt_of_cell u0) (fun h => h)).trans u0, (hf.cell (lt_of_cell u1) (fun h => h)).trans u1, (hf.cell (lt_of_cell u2) (fun h => h)).trans u2, (hf.cell (lt_of_cell v0) (fun h => h)).trans v0, (hf.cell (lt_of_cell v1) (fun h => h)).trans v1, (hf.cell (lt_of_cell v2) (fun h => h)).trans v2⟩
    have HS := hide hS
    clear hS
    have T1 : True := trivial
    go_wp2_with fail
    go_region_held3 (fun w' => w'.cell? ⟨Z, 0, none⟩ = some (.pointer (some ⟨tb, 0, none⟩)) ∧ w'.cell? ⟨Z, 1, none⟩ = some (.int .i64 f) ∧ w'.cell? ⟨Z, 2, none⟩ = some (.int .i64 K) ∧ w'.cell? ⟨Z + 1, 0, none⟩ = some (.pointer (some ⟨tb, 0, none⟩)) ∧ w'.cell? ⟨Z + 1, 1, none⟩ = some (.int .i64 F2) ∧ w'.cell? ⟨Z + 1, 2, none⟩ = some (.int .i64 N2))
      (first | assumption | exact (unhide HS) _ (Fr.refl _ _).drew | exact (unhide HS) _ fE | exact (unhide HS) _ fD | exact (unhide HS) _ fC)
      (first
        | (go_at_call 79; clear T1; refine ((unhide HC).2.2.1 _ (by exact (unhide HF2).drew)).mono ?_; rintro e wC ⟨ao, cp, vs, rfl, oC⟩; have fC : Fr (fun _ => False) wB wC := (Fr.refl _ _).drew.trans oC.own.fr (fun _ _ h => h))
        | (go_at_call 79; refine ((unhide HC).2.2.2.2 (unhide HCz) _ _ _ (by exact (unhide HF2).trans fC (fun _ _ h => h))).mono ?_; rintro e wD ⟨bo, bc, us, rfl, oD⟩; have fD : Fr (fun _ => False) wB wD := fC.trans oD.own.fr (fun _ _ h => h))
        | (obtain ⟨ao2, cp2, wE, hr2, hO2⟩ := oC.cat oD (by rw [oC.len, oD.len]; have h1 := (unhide HL).1; have h2 := (unhide HL).2; omega); have fE : Fr (fun _ => False) wB wE := (Fr.refl _ _).drew.trans hO2.own.fr (fun _ _ h => h); refine step_app rfl (.tmp 36) (.tmp 41) 22 22 rfl _ _ _ (by simp [Act.eval]) (by simp [Act.eval]) hr2 ?_))
    have HE := hide (hO2.base ((unhide HF2).drew))
    clear oC oD hO2 hr2 fC fD fE
    go_wp2_with fail
    go_ret
    exact ⟨ao2, cp2, _, by rw [List.length_append]; rfl, unhide HE⟩
  · have q6 : ¬ C = xc := fun h => hcC h.symm
    generalize zs.length = N at *
    go_enter Tryd.func79, Tryd.ntmps79
    go_wp2_with fail
    obtain ⟨W0, hW0⟩ : ∃ W0, w.alloc (.cells #[.pointer (some ⟨tb, 0, none⟩), .int .i64 f, .int .i64 n] 79) = W0 := ⟨_, rfl⟩
    rw [hW0]
    obtain ⟨-, -, -, hF0⟩ := box3p w _ _ _ _ W0 hW0
    refine ((unhide HC).1 _).mono ?_
    rintro e wA ⟨rfl, hFA⟩
    have HF := hide (hF0.trans hFA (fun _ _ h => h))
    clear hF0 hFA hW0
    go_wp2_with fail
    obtain ⟨W1, hW1⟩ : ∃ W1, (wA.alloc (.cells #[.pointer (some ⟨tb, 0, none⟩), .int .i64 f, .int .i64 K] 79)).alloc (.cells #[.pointer (some ⟨tb, 0, none⟩), .int .i64 F2, .int .i64 N2] 79) = W1 := ⟨_, rfl⟩
    rw [hW1]
    obtain ⟨x0, x1, x2, y0, y1, y2, hF1⟩ := two3 wA _ _ _ _ _ _ _ W1 hW1
    refine ((unhide HC).2.1 _ ((unhide HF).trans hF1 (fun _ _ h => h))).mono ?_
    rintro e wB ⟨bb, rfl, hFB⟩
    have u0 := (hFB.cell (lt_of_cell x0) (fun h => h)).trans x0
    have u1 := (hFB.cell (lt_of_cell x1) (fun h => h)).trans x1
    have u2 := (hFB.cell (lt_of_cell x2) (fun h => h)).trans x2
    have v0 := (hFB.cell (lt_of_cell y0) (fun h => h)).trans y0
    have v1 := (hFB.cell (lt_of_cell y1) (fun h => h)).trans y1
    have v2 := (hFB.cell (lt_of_cell y2) (fun h => h)).trans y2
    have HF2 := hide (((unhide HF).trans hF1 (fun _ _ h => h)).trans hFB (fun _ _ h => h))
    clear hF1 hFB hW1 x0 x1 x2 y0 y1 y2 HF
    generalize wA.heap.size = Z at *
    have hS : ∀ w', Fr (fun _ => False) wB w' → w'.cell? ⟨Z, 0, none⟩ = some (.pointer (some ⟨tb, 0, none⟩)) ∧ w'.cell? ⟨Z, 1, none⟩ = some (.int .i64 f) ∧ w'.cell? ⟨Z, 2, none⟩ = some (.int .i64 K) ∧ w'.cell? ⟨Z + 1, 0, none⟩ = some (.pointer (some ⟨tb, 0, none⟩)) ∧ w'.cell? ⟨Z + 1, 1, none⟩ = some (.int .i64 F2) ∧ w'.cell? ⟨Z + 1, 2, none⟩ = some (.int .i64 N2) := fun w' hf =>
      ⟨(hf.cell (lt_of_cell u0) (fun h => h)).trans u0, (hf.cell (lt_of_cell u1) (fun h => h)).trans u1, (hf.cell (lt_of_cell u2) (fun h => h)).trans u2, (hf.cell (lt_of_cell v0) (fun h => h)).trans v0, (hf.cell (lt_of_cell v1) (fun h => h)).trans v1, (hf.cell (lt_of_cell v2) (fun h => h)).trans v2⟩
    have HS := hide hS
    clear hS
    have T1 : True := trivial
    go_wp2_with fail
    go_region_held3 (fun w' => w'.cell? ⟨Z, 0, none⟩ = some (.pointer (some ⟨tb, 0, none⟩)) ∧ w'.cell? ⟨Z, 1, none⟩ = some (.int .i64 f) ∧ w'.cell? ⟨Z, 2, none⟩ = some (.int .i64 K) ∧ w'.cell? ⟨Z + 1, 0, none⟩ = some (.pointer (some ⟨tb, 0, none⟩)) ∧ w'.cell? ⟨Z + 1, 1, none⟩ = some (.int .i64 F2) ∧ w'.cell? ⟨Z + 1, 2, none⟩ = some (.int .i64 N2))
      (first | assumption | exact (unhide HS) _ (Fr.refl _ _).drew | exact (unhide HS) _ fE | exact (unhide HS) _ fD | exact (unhide HS) _ fC)
      (first
        | (go_at_call 79; clear T1; refine ((unhide HC).2.2.1 _ (by exact (unhide HF2).drew)).mono ?_; rintro e wC ⟨ao, cp, vs, rfl, oC⟩; have fC : Fr (fun _ => False) wB wC := (Fr.refl _ _).drew.trans oC.own.fr (fun _ _ h => h))
        | (go_at_call 79; refine ((unhide HC).2.2.2.1 _ (by exact (unhide HF2).trans fC (fun _ _ h => h))).mono ?_; rintro e wD ⟨bo, bc, us, rfl, oD⟩; have fD : Fr (fun _ => False) wB wD := fC.trans oD.own.fr (fun _ _ h => h))
        | (obtain ⟨ao2, cp2, wE, hr2, hO2⟩ := oC.cat oD (by rw [oC.len, oD.len]; have h1 := (unhide HL).1; have h2 := (unhide HL).2; omega); have fE : Fr (fun _ => False) wB wE := (Fr.refl _ _).drew.trans hO2.own.fr (fun _ _ h => h); refine step_app rfl (.tmp 36) (.tmp 41) 22 22 rfl _ _ _ (by simp [Act.eval]) (by simp [Act.eval]) hr2 ?_))
    have HE := hide (hO2.base ((unhide HF2).drew))
    clear oC oD hO2 hr2 fC fD fE
    go_wp2_with fail
    go_ret
    exact ⟨ao2, cp2, _, by rw [List.length_append]; rfl, unhide HE⟩
/-- The hashes for places, of a part. -/
theorem many_any (tb wi : Nat) (hw1 : 1 ≤ wi) (hw32 : wi ≤ 32) (L : List (List Nat)) (k : Nat) : ∀ (f n : Nat) (zs : List Int) (x : Value) (w : World), n ≤ k → Tk w tb wi L → Al f n → f + n ≤ L.length → Ints w x zs → zs.Pairwise (· < ·) → (∀ z ∈ zs, (f : Int) ≤ z ∧ z < f + n) → zs.length ≤ 16000000 → ManySays tb wi L f n zs x w := by
  induction k with
  | zero =>
    intro f n zs x w hk hT hA hL hx hs hz hl
    have e : zs = [] := by
      rcases zs with _ | ⟨a, r⟩
      · rfl
      · have := hz a (by simp); omega
    subst e
    exact many_nil tb wi hw1 hw32 L f n x w hT hA hL hx
  | succ k ih =>
    intro f n zs x w hk hT hA hL hx hs hz hl
    by_cases e : zs = []
    · subst e
      exact many_nil tb wi hw1 hw32 L f n x w hT hA hL hx
    · have hn1 : 1 ≤ n := by
        rcases zs with _ | ⟨a, r⟩
        · exact absurd rfl e
        · have := hz a (by simp); omega
      by_cases h1 : n = 1
      · subst h1
        exact many_one tb wi L f zs x w hx e
      · have hlt := hf_lt n (by omega)
        have hpos := hf_pos n
        obtain ⟨hA1, hA2⟩ := hA.halves (by omega)
        obtain ⟨s1, s2⟩ := count_split ((f + hf n : Nat) : Int) zs hs
        have hle := hT.len
        refine many_two tb wi L f n zs x w (by omega) (by omega) hx e hs hl (fun w' x' hf' hx' => ?_) (fun w' x' hf' hx' => ?_)
        · exact ih f (hf n) _ x' w' (by omega) (hT.fr0 hf') hA1 (by omega) hx' (hs.sublist (List.take_sublist _ _)) (fun z hz' => by have h1 := hz z (List.mem_of_mem_take hz'); have h2 := s1 z hz'; omega) (by rw [List.length_take]; omega)
        · exact ih (f + hf n) (n - hf n) _ x' w' (by omega) (hT.fr0 hf') hA2 (by omega) hx' (hs.sublist (List.drop_sublist _ _)) (fun z hz' => by have h1 := hz z (List.mem_of_mem_drop hz'); have h2 := s2 z hz'; omega) (by rw [List.length_drop]; omega)
end Go.Proofs.YtocdnomfpgdglaaDoor

namespace Go.Proofs.YtocdnomfpgdglaaDoor
open Go.ChangeShapes Go.WideShapes Go.ChangeAt Go.RowKit
set_option maxRecDepth 100000

theorem Tryd.cellsInt : Tryd.prog.cellsOf 3 = 1 := by kernel_rfl
/-- A slice of whole numbers that came in. -/
theorem ints_of_reading {H : Type} {enc : TypeId × Value → H} {W : World} {base : Nat} {v : Value} {d : DataW H} {p : List MemPlace} (hval : Value.okWide Tryd.prog W .any base 34 v) (h : DataW.Trod enc Tryd.prog W 0 (fun _ => true) true 34 v d p) :
    ∃ zs, Ints W v zs ∧ (∀ z ∈ zs, -9223372036854775808 ≤ z ∧ z < 9223372036854775808) ∧ zs.length ≤ Rows.uptoBulk d := by
  obtain ⟨a0, len0, cap0, rfl⟩ := okWide_slice Tryd.underlying34 hval
  obtain ⟨fuel, hf⟩ := h
  rcases open_ints Tryd.underlying34 Tryd.underlying3 Tryd.cellsInt (by simpa [Value.cells] using hf) with ⟨hcs, hx⟩ | ⟨a, len, cap, zs, hcs, _, hl, hm, hz, hx, hcell, hwz⟩
  · simp only [List.cons.injEq, and_true] at hcs
    rw [hcs]
    exact ⟨[], .inl ⟨rfl, rfl⟩, (fun _ h => by cases h), Nat.zero_le _⟩
  · simp only [List.cons.injEq, and_true] at hcs
    rw [hcs]
    simp only [Prod.mk.injEq] at hx
    obtain ⟨rfl, -⟩ := hx
    simp only [if_true] at hz
    have hlen : (zs.take len).length = len := by simp; omega
    have hbulk : len ≤ Rows.uptoBulk (DataW.slice (lits .i64 (zs.take len)) (lits .i64 (zs.drop len)) : DataW H) := by
      have h1 := bulk_len (lits .i64 (zs.take len) : List (DataW H))
      have h2 : (lits .i64 (zs.take len) : List (DataW H)).length = len := by simp [lits]; omega
      simp only [Rows.uptoBulk]
      omega
    by_cases h0 : len = 0
    · subst h0
      exact ⟨[], .inr (.inl ⟨a, cap, rfl, rfl⟩), (fun _ h => by cases h), Nat.zero_le _⟩
    · obtain ⟨b, off, rfl, hc⟩ := ints_at hcell (show 0 < zs.length by omega)
      refine ⟨zs.take len, .inr (.inr ⟨b, off, cap, by rw [hlen], by omega, lt_of_cell (hc 0 (by omega)), fun j hj => ?_⟩), fun z hz1 => ?_, by rw [hlen]; exact hbulk⟩
      · rw [hc j (by omega)]
        simp only [List.getD, List.getElem?_take]
        rw [if_pos (by omega)]
      · have := bounds_i64 (hwz z (List.mem_of_mem_take hz1))
        omega
end Go.Proofs.YtocdnomfpgdglaaDoor

namespace Go.Proofs.YtocdnomfpgdglaaDoor
open Go.ChangeShapes Go.WideShapes Go.ChangeAt Go.RowKit Go.Deep
set_option maxRecDepth 100000

theorem Tryd.cellsPcs : Tryd.prog.cellsOf 22 = 1 := by kernel_rfl
theorem Tryd.cellsClaim : Tryd.prog.cellsOf 54 = 6 := by kernel_rfl
/-- A Claim that came in. -/
theorem claim_of_reading {H : Type} {enc : TypeId × Value → H} {W : World} {base : Nat} {v : Value} {d : DataW H} {p : List MemPlace} (hval : Value.okWide Tryd.prog W .any base 54 v) (h : DataW.Trod enc Tryd.prog W 0 (fun _ => true) true 54 v d p) :
    ∃ (a i n : Int) (lv pv rv : Value) (leaf root : List Nat) (us : List Value) (ps : List (List Nat)), v = .agg #[.int .i64 a, .int .i64 i, .int .i64 n, lv, pv, rv] ∧ Sl W lv leaf ∧ Sl W rv root ∧ Pcs W pv us ps ∧ Cp pv ∧ n < 9223372036854775808 ∧ leaf.length ≤ Rows.uptoBulk d ∧ root.length ≤ Rows.uptoBulk d ∧ (∀ q ∈ ps, q.length ≤ Rows.uptoBulk d) ∧ ps.length ≤ Rows.uptoBulk d := by
  obtain ⟨cs, rfl, hsz⟩ := okWide_struct Tryd.underlying54 hval
  obtain ⟨fuel, hf0⟩ := h
  obtain ⟨xs, n, _, hx, hl, hlen, hfs⟩ := DataW.trod_struct Tryd.underlying54 hf0
  rw [Tryd.cellsClaim] at hl
  simp only [Prod.mk.injEq] at hx
  obtain ⟨rfl, -⟩ := hx
  have h0 := hfs 0 _ rfl
  have h1 := hfs 1 _ rfl
  have h2 := hfs 2 _ rfl
  have h3 := hfs 3 _ rfl
  have h4 := hfs 4 _ rfl
  have h5 := hfs 5 _ rfl
  have hc : (Value.agg cs).cells.toList = cs.toList := rfl
  rw [hc] at hl h0 h1 h2 h3 h4 h5
  obtain ⟨l⟩ := cs
  simp only at hl h0 h1 h2 h3 h4 h5
  match l, hl with
  | [c0, c1, c2, c3, c4, c5], _ =>
    match xs, hlen with
    | [y0, y1, y2, y3, y4, y5], _ =>
      simp [Tryd.cellsInt, Tryd.cellsB, Tryd.cellsPcs] at h0 h1 h2 h3 h4 h5
      obtain ⟨a, e0, q0, wa⟩ := DataW.trod_int Tryd.underlying3 h0
      obtain ⟨i, e1, q1, wi⟩ := DataW.trod_int Tryd.underlying3 h1
      obtain ⟨n, e2, q2, wn⟩ := DataW.trod_int Tryd.underlying3 h2
      simp only [List.cons.injEq, and_true] at e0 e1 e2
      subst e0 e1 e2
      obtain ⟨l3, s1, s2, s3, s4, s5⟩ := src_of_trod (d := y3.1) (p := y3.2) h3
      obtain ⟨l5, t1, t2, t3, t4, t5⟩ := src_of_trod (d := y5.1) (p := y5.2) h5
      have hform : ∃ a len cap, c4 = .slice a len cap := by
        rcases open_slice1 Tryd.underlying22 Tryd.cellsB h4 with ⟨hcs, hx⟩ | ⟨a, len, cap, m, n, V, D, Pl, hcs, _⟩
        · simp at hcs
          exact ⟨_, _, _, hcs⟩
        · simp at hcs
          exact ⟨_, _, _, hcs⟩
      obtain ⟨a4, len4, cap4, rfl⟩ := hform
      obtain ⟨us, ps, hP, hC, hB, hN⟩ := pcs_of_formC (v := .slice a4 len4 cap4) (d := y4.1) (p := y4.2) ⟨_, _, _, rfl⟩ ⟨_, h4⟩
      have hn := bounds_i64 wn
      have hbi : ∀ y : DataW H, y ∈ [y0, y1, y2, y3, y4, y5].map (·.1) → Rows.uptoBulk y ≤ Rows.uptoBulk (DataW.agg ([y0, y1, y2, y3, y4, y5].map (·.1)) : DataW H) := fun y hy => by
        have := bulk_in _ y hy
        simp only [Rows.uptoBulk]
        omega
      have b3 := hbi y3.1 (by simp)
      have b4 := hbi y4.1 (by simp)
      have b5 := hbi y5.1 (by simp)
      exact ⟨a, i, n, c3, .slice a4 len4 cap4, c5, l3, l5, us, ps, rfl, ⟨s1, s3, s4, s2⟩, ⟨t1, t3, t4, t2⟩, hP, hC, by omega, by omega, by omega, fun q hq => by have := hB q hq; omega, by omega⟩
end Go.Proofs.YtocdnomfpgdglaaDoor

namespace Go.Proofs.YtocdnomfpgdglaaDoor
open Go.ChangeShapes Go.WideShapes Go.ChangeAt Go.RowKit
set_option maxRecDepth 100000

theorem mchecks_contract (H : Type) (enc : TypeId × Value → H) (W : World) (base : Nat) (args : Array Value) (ds gs : List (DataW H)) (before : List MemPlace)
    (hval : ∀ (j : Nat) t v, Tryd.f7.params[j]? = some t → args[j]? = some v → Value.okWide Tryd.prog W .any base t v)
    (hW : DataW.Whole enc Tryd.prog Tryd.f7.params.toList Rows.merkleChecksSpec.vars false W args.toList ds gs before) (hk : Rows.uptoSmall H (ds ++ gs) = true) (hL : laidMetH Tryd.prog Rows.merkleChecksUptoRow.laid W) (hsh : W.ShapedOpen Tryd.prog) :
    Calls Tryd.prog 7 args W fun e W' => ∃ v, e = .returned v ∧ Rows.merkleChecksSpec.post enc Tryd.prog Tryd.f7 false true false false W args v W' := by
  have hW' := hW
  obtain ⟨p, q, hA0, hV, rfl, hfz, hnd⟩ := hW
  have hA : DataW.TrodAll enc Tryd.prog W 0 (fun _ => true) true Tryd.f7.params.toList args.toList ds p := hA0
  rw [Tryd.params7] at hA hval
  obtain ⟨v0, vs0, d0, ds0, p0, q0, hargs, rfl, rfl, h0, r0⟩ := trodAll_cons hA
  obtain ⟨rfl, rfl, rfl⟩ := trodAll_nil r0
  obtain rfl : args = #[v0] := by cases args; simp_all
  obtain ⟨rfl, rfl⟩ := trodVars_none hV
  obtain ⟨a0, i0, n0, lv0, pv0, rv0, lf0, rt0, us0, ps0, rfl, hL0, hR0, hP0, hCp0, hn0, hBl0, hBr0, hB0, hN0⟩ := claim_of_reading (hval 0 54 v0 rfl rfl) h0
  have hk0 : Rows.uptoBulk d0 ≤ 1048576 := by
    have h := of_decide_eq_true hk
    simp only [List.append_nil, Rows.uptoBulkAll] at h
    omega
  obtain ⟨hg, hr, ht⟩ := g6_of_laid (show laidMet Tryd.prog laid6 W from hL) (heap_enough hsh)
  clear hA0
  refine (checks_any a0 i0 n0 lv0 pv0 rv0 lf0 rt0 us0 ps0 W hg hr ht hL0 hR0 hP0 hCp0 hn0 (fun p hp => by have := hB0 p hp; omega) (by omega)).mono fun e W' ⟨he, hf⟩ => ?_
  subst he
  have hlt : ∀ x ∈ p0 ++ [], x.block < W.heap.size := fun x hx => hW'.lt x (by simpa using hx)
  have hb := hf.below
  refine ⟨_, rfl, _, _, _, [], p0 ++ [], [], hW', ?_, ?_, ?_, hb.frame _, fun h => by cases h⟩
  · exact trodAll_cons_mk (shut_bool Tryd.underlying4 true) trodAll_mk0
  · exact (trodAll_cons_mk (Below.trod (by kernel_rfl) (by kernel_rfl) (by decide +kernel) h0 hb (fun x hx => hlt x (by simp [hx]))) trodAll_mk0)
  · rfl

theorem mchecks_laid_met (os : Os) : laidMetH Tryd.prog Rows.merkleChecksUptoRow.laid ((mWorld os).forCall (fun _ _ => 0) ⟨#[], #[.agg #[.int .i64 0, .int .i64 0, .int .i64 0, .slice none 0 0, .slice none 0 0, .slice none 0 0]], []⟩).memory :=
  laidMetH_of_parts (laidMet_of_run' 8 (by kernel_rfl) (by kernel_rfl)) (by kernel_rfl)
theorem mchecks_reads (os : Os) {H : Type} (enc : TypeId × Value → H) : ∃ places, DataW.whole enc Tryd.prog ((mWorld os).forCall (fun _ _ => 0) ⟨#[], #[.agg #[.int .i64 0, .int .i64 0, .int .i64 0, .slice none 0 0, .slice none 0 0, .slice none 0 0]], []⟩).memory Tryd.f7.params.toList Rows.merkleChecksSpec.vars false #[Value.agg #[.int .i64 0, .int .i64 0, .int .i64 0, .slice none 0 0, .slice none 0 0, .slice none 0 0]].toList 8 = some ([.agg [.lit (.int .i64 0), .lit (.int .i64 0), .lit (.int .i64 0), .nil, .nil, .nil]], [], places) :=
  ⟨[], by kernel_rfl⟩

theorem mchecks_lifted (os : Os) (started : os.Started) (H : Type) (enc : TypeId × Value → H) (F : Stop.Interp) :
    ReturnsInHanded {} Tryd.checked os 7 .any ((Rows.OpenSpec.upto Rows.merkleChecksSpec).preRow enc Tryd.prog Tryd.f7 Rows.merkleChecksUptoRow.domain false Rows.merkleChecksUptoRow.laid) (((Rows.OpenSpec.upto Rows.merkleChecksSpec).at F).post enc Tryd.prog Tryd.f7 false true false false) := by
  obtain ⟨places, hx⟩ := mchecks_reads os enc
  refine returnsInHanded_of_row (C := Tryd.checked) (s := Rows.OpenSpec.upto Rows.merkleChecksSpec) Tryd.ownKnob started (by kernel_rfl) Tryd.func7
    (witness_row_atRef (enc := enc) (C := Tryd.checked) false (mWorld os) #[.agg #[.int .i64 0, .int .i64 0, .int .i64 0, .slice none 0 0, .slice none 0 0, .slice none 0 0]] rfl (by kernel_rfl) (by kernel_rfl) (by kernel_rfl)
      (OpenSpec.preRow_of_cond 8 hx (by kernel_rfl) (fun k hk => by cases hk; kernel_rfl) (by kernel_rfl) (mchecks_laid_met os))) ?_
  intro W base args ds gs before hval hW _ hcond _ hL hsh _
  exact mchecks_contract H enc W base args ds gs before hval hW (hcond _ rfl) hL hsh

theorem mchecks_said : Rows.MerkleChecksUptoSaid :=
  OpenClaim.holds_of_cond 7 Tryd.f7 rfl rfl rfl rfl rfl rfl rfl ⟨rfl, rfl, rfl, rfl, rfl⟩ rfl rfl rfl rfl rfl (by kernel_rfl) Tryd.func7 (by kernel_rfl)
    (of_decide_eq_true (by kernel_rfl)) (by unfold Func.isWrapper; first | (rw [if_pos (by decide +kernel)]; kernel_rfl) | (rw [if_neg (by decide +kernel)]; exact ⟨rfl, rfl⟩))
    (fun os started H enc _ F => by rw [OpenClaim.pre_eq_preRow]; exact mchecks_lifted os started H enc F)

theorem mchecks_plain (f : FuncId) (fn : Func) (hf : Tryd.pinned.checked.prog.funcNamed Rows.merkleChecksUptoRow.func = some f) (hfn : Tryd.pinned.checked.prog.funcs[f]? = some fn) :
    false = Tryd.pinned.checked.prog.looks [] ∧ ∀ (j : Nat) t, fn.params[j]? = some t → Tryd.pinned.checked.prog.wantsStandIn t = false := by
  obtain rfl : f = 7 := Option.some.inj ((show Tryd.prog.funcNamed Rows.merkleChecksUptoRow.func = some 7 by kernel_rfl).symm.trans hf) |>.symm
  obtain rfl : fn = Tryd.f7 := (Option.some.inj (Tryd.func7.symm.trans hfn)).symm
  refine ⟨by kernel_rfl, fun j t ht => ?_⟩
  rw [Tryd.params7] at ht
  have ht' : t = 54 := by simpa using Array.mem_of_getElem? ht
  rcases ht' with rfl
  exact (show Tryd.prog.wantsStandIn 54 = false by kernel_rfl)

/-- THE SECOND FORM's CARD. -/
theorem mchecks_card : Rows.MerkleChecksUptoCardSaid :=
  Claim7.holds_tied_plain_at .later [] _ _ _ _ mchecks_said (fun _ h => by cases h) (by kernel_rfl) (fun _ h => by cases h) merkleChecksUpto_row_tie rfl ⟨rfl, rfl⟩ (by kernel_rfl) rfl mchecks_plain (by kernel_rfl)
#print axioms mchecks_card
end Go.Proofs.YtocdnomfpgdglaaDoor

