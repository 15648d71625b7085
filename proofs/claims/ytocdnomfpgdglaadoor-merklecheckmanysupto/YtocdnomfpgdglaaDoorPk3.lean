import Derived.Test.YtocdnomfpgdglaaDoorPk2
import Derived.Test.YtocdnomfpgdglaaDoorMab
import Derived.Test.YtocdnomfpgdglaaDoorPk1
import Derived.Test.YtocdnomfpgdglaaDoorMae
import Derived.Test.YtocdnomfpgdglaaDoorSbw
namespace Go.Proofs.YtocdnomfpgdglaaDoor
open Go.RowKit

/-- What the document's gather tells of a part: a hash, the leaves and the hashes left. -/
def GaYes (w' : World) (e : Ending) (t : List Nat) (l r : List (List Nat)) : Prop :=
  ∃ (yo : Option Addr) (yn yc : Nat) (la : Option Addr) (lc : Nat) (us : List Value) (xa : Option Addr) (xc : Nat) (vs : List Value), e = .returned (.tuple #[.slice yo yn yc, .slice la l.length lc, .slice xa r.length xc, .bool true]) ∧ Sl w' (.slice yo yn yc) t ∧ Pcs w' (.slice la l.length lc) us l ∧ Cp (.slice la l.length lc) ∧ Pcs w' (.slice xa r.length xc) vs r ∧ Cp (.slice xa r.length xc)
def GaNo (e : Ending) : Prop := e = .returned (.tuple #[.slice none 0 0, .slice none 0 0, .slice none 0 0, .bool false])
def GaSays (wi f n : Nat) (zs : List Int) (ls hs : List (List Nat)) (pv lv xv : Value) (w : World) : Prop :=
  Calls Tryd.prog 75 #[.int .i64 wi, .int .i64 n, pv, lv, xv] w fun e w' =>
    (∀ t r, gth wi f n zs (ls.take zs.length) hs = some (t, r) → GaYes w' e t (ls.drop zs.length) r) ∧ (gth wi f n zs (ls.take zs.length) hs = none → GaNo e) ∧ Fr (fun _ => False) w w'
set_option maxRecDepth 100000 in
set_option maxHeartbeats 1000000 in
/-- No place, no hash. -/
theorem gather_short (wi f n : Nat) (ls : List (List Nat)) (pv lv xv : Value) (us vs : List Value) (w : World) (hx : Ints w pv []) (hl : Pcs w lv us ls) (hh : Pcs w xv vs []) : GaSays wi f n [] ls [] pv lv xv w := by
  unfold GaSays
  rw [gth_nil]
  obtain ⟨xo, xc, rfl⟩ := hx.form
  obtain ⟨lo, lc, rfl⟩ := hl.form
  obtain ⟨ho, hc, rfl⟩ := hh.form
  simp only [List.length_nil]
  clear hx hl hh
  generalize ls.length = LN at *
  go_enter Tryd.func75, Tryd.ntmps75
  go_wp2_with fail
  go_returns
  exact ⟨(fun t r h => by cases h), (fun _ => rfl), Fr.refl _ _⟩
set_option maxRecDepth 100000 in
set_option maxHeartbeats 1000000 in
/-- No place: the next hash. -/
theorem gather_next (wi f n : Nat) (ls : List (List Nat)) (p : List Nat) (r : List (List Nat)) (pv lv xv : Value) (us vs : List Value) (w : World) (hx : Ints w pv []) (hl : Pcs w lv us ls) (hlc : Cp lv) (hh : Pcs w xv vs (p :: r)) (hhc : Cp xv) : GaSays wi f n [] ls (p :: r) pv lv xv w := by
  unfold GaSays
  rw [gth_next]
  obtain ⟨xo, xc, rfl⟩ := hx.form
  obtain ⟨lo, lc, rfl⟩ := hl.form
  obtain ⟨ho, hc, rfl⟩ := hh.form
  obtain ⟨g, o, vo, vc, rfl, hcell, hsl⟩ := hh.nth (Fr.refl _ w) 0 (by simp)
  simp only [List.length_nil, List.getElem_cons_zero, Nat.add_zero, List.length_cons, List.drop_zero] at *
  have hcap : r.length + 1 ≤ hc := hhc _ _ _ rfl
  have q0 : (((r.length : Int) + 1) == 0) = false := beq_false_of_ne (by omega)
  have q1 : ¬ (r.length : Int) + 1 = 0 := by omega
  have q2 : (0 : Int) < (r.length : Int) + 1 := by omega
  have q3 : (1 : Int) ≤ (r.length : Int) + 1 := by omega
  have e1 : (r.length : Int) + 1 - 1 = (r.length : Int) := by omega
  by_cases h1 : hc = 1
  · have hr0 : r = [] := List.length_eq_zero_iff.1 (by omega)
    subst h1 hr0
    have HM := hide (And.intro hsl (And.intro hl hlc))
    simp only [List.length_nil] at *
    clear hsl hl hlc hh hhc hx
    generalize p.length = PL at *
    generalize hLN : ls.length = LN at *
    go_enter Tryd.func75, Tryd.ntmps75
    go_wp2_with fail
    go_region
    go_wp2_with fail
    go_returns
    refine ⟨fun t r h => ?_, (fun h => by cases h), Fr.drew (Fr.refl _ _)⟩
    cases h
    have hF : Fr (fun _ => False) w w.drew := Fr.drew (Fr.refl _ _)
    refine ⟨vo, PL, vc, lo, lc, us, some ⟨g, o, none⟩, 0, [], by rw [hLN]; rfl, (unhide HM).1.fr0 hF, by rw [hLN]; exact (unhide HM).2.1.fr0 hF, by rw [hLN]; exact (unhide HM).2.2, Pcs.zero _ _, fun _ _ _ e => by cases e; exact Nat.le_refl _⟩
  · have hP := hh.rest (by simp) 1 (by simp)
    simp only [List.drop_succ_cons, List.drop_zero, Nat.add_sub_cancel] at hP
    have HM := hide (And.intro hsl (And.intro hl (And.intro hlc hP)))
    have q4 : ¬ hc = 1 := h1
    clear hsl hl hlc hh hhc hx hP
    generalize p.length = PL at *
    generalize hRL : r.length = RL at *
    generalize hLN : ls.length = LN at *
    go_enter Tryd.func75, Tryd.ntmps75
    go_wp2_with fail
    go_region
    go_wp2_with fail
    go_returns
    refine ⟨fun t r' h => ?_, (fun h => by cases h), Fr.drew (Fr.refl _ _)⟩
    cases h
    have hF : Fr (fun _ => False) w w.drew := Fr.drew (Fr.refl _ _)
    refine ⟨vo, PL, vc, lo, lc, us, some ⟨g, o + 1, none⟩, hc - 1, vs.drop 1, by rw [hLN, hRL], (unhide HM).1.fr0 hF, by rw [hLN]; exact (unhide HM).2.1.fr0 hF, by rw [hLN]; exact (unhide HM).2.2.1, by rw [hRL]; exact (unhide HM).2.2.2.fr0 hF, fun _ _ _ e => by cases e; omega⟩
set_option maxRecDepth 100000 in
set_option maxHeartbeats 1000000 in
/-- The part is a place: the next leaf. -/
theorem gather_one (wi f : Nat) (zs : List Int) (p : List Nat) (q hs : List (List Nat)) (pv lv xv : Value) (us vs : List Value) (w : World) (hz : zs.length = 1) (hx : Ints w pv (zs.map (· - (f : Int)))) (hl : Pcs w lv us (p :: q)) (hlc : Cp lv) (hh : Pcs w xv vs hs) (hhc : Cp xv) : GaSays wi f 1 zs (p :: q) hs pv lv xv w := by
  unfold GaSays
  have hz0 : zs ≠ [] := fun h => by rw [h] at hz; cases hz
  rw [gth_one hz0 (by decide), hz]
  obtain ⟨xo, xc, rfl⟩ := hx.form
  obtain ⟨lo, lc, rfl⟩ := hl.form
  obtain ⟨ho, hc, rfl⟩ := hh.form
  rw [List.length_map, hz]
  obtain ⟨g, o, vo, vc, rfl, hcell, hsl⟩ := hl.nth (Fr.refl _ w) 0 (by simp)
  simp only [List.getElem_cons_zero, Nat.add_zero, List.length_cons, List.take_succ_cons, List.take_zero, List.headD_cons, List.drop_succ_cons, List.drop_zero] at *
  have hcap : q.length + 1 ≤ lc := hlc _ _ _ rfl
  have q2 : (0 : Int) < (q.length : Int) + 1 := by omega
  have q3 : (1 : Int) ≤ (q.length : Int) + 1 := by omega
  have e1 : (q.length : Int) + 1 - 1 = (q.length : Int) := by omega
  have e2 : ((1 : Nat) : Int) = 1 := rfl
  simp only [e2]
  by_cases h1 : lc = 1
  · have hr0 : q = [] := List.length_eq_zero_iff.1 (by omega)
    subst h1 hr0
    have HM := hide (And.intro hsl (And.intro hh hhc))
    simp only [List.length_nil] at *
    clear hsl hl hlc hh hhc hx
    generalize p.length = PL at *
    generalize hHN : hs.length = HN at *
    go_enter Tryd.func75, Tryd.ntmps75
    go_wp2_with fail
    go_region
    go_wp2_with fail
    go_returns
    refine ⟨fun t r h => ?_, (fun h => by cases h), Fr.drew (Fr.refl _ _)⟩
    cases h
    have hF : Fr (fun _ => False) w w.drew := Fr.drew (Fr.refl _ _)
    refine ⟨vo, PL, vc, some ⟨g, o, none⟩, 0, [], ho, hc, vs, by rw [hHN]; rfl, (unhide HM).1.fr0 hF, Pcs.zero _ _, (fun _ _ _ e => by cases e; exact Nat.le_refl _), by rw [hHN]; exact (unhide HM).2.1.fr0 hF, by rw [hHN]; exact (unhide HM).2.2⟩
  · have hP := hl.rest (by simp) 1 (by simp)
    simp only [List.drop_succ_cons, List.drop_zero, Nat.add_sub_cancel] at hP
    have HM := hide (And.intro hsl (And.intro hh (And.intro hhc hP)))
    have q4 : ¬ lc = 1 := h1
    clear hsl hl hlc hh hhc hx hP
    generalize p.length = PL at *
    generalize hRL : q.length = RL at *
    generalize hHN : hs.length = HN at *
    go_enter Tryd.func75, Tryd.ntmps75
    go_wp2_with fail
    go_region
    go_wp2_with fail
    go_returns
    refine ⟨fun t r' h => ?_, (fun h => by cases h), Fr.drew (Fr.refl _ _)⟩
    cases h
    have hF : Fr (fun _ => False) w w.drew := Fr.drew (Fr.refl _ _)
    refine ⟨vo, PL, vc, some ⟨g, o + 1, none⟩, lc - 1, us.drop 1, ho, hc, vs, by rw [hHN, hRL], (unhide HM).1.fr0 hF, by rw [hRL]; exact (unhide HM).2.2.2.fr0 hF, (fun _ _ _ e => by cases e; omega), by rw [hHN]; exact (unhide HM).2.1.fr0 hF, by rw [hHN]; exact (unhide HM).2.2.1⟩
end Go.Proofs.YtocdnomfpgdglaaDoor

namespace Go.Proofs.YtocdnomfpgdglaaDoor
open Go.RowKit

set_option maxRecDepth 100000 in
set_option maxHeartbeats 2000000 in
/-- gather's walk through both halves. -/
theorem gather_go (wi n K : Nat) (po : Option Addr) (N xc : Nat) (lo : Option Addr) (LN lc : Nat) (ho : Option Addr) (HN hc : Nat) (za zb : List Int) (t1 t2 : List Nat) (l1 r1 l2 r2 : List (List Nat)) (C1 C2 : Prop) (w : World) (hN : 0 < N) (hn : ¬ n = 1) (hK : K < n) (hn63 : n < 9223372036854775808)
    (hha : Calls Tryd.prog 88 #[.int .i64 n] w fun e w' => e = .returned (.int .i64 (K : Nat)) ∧ w' = w)
    (hpt : Calls Tryd.prog 93 #[.slice po N xc, .int .i64 (K : Int)] w fun e w' => ∃ a b, e = .returned (.tuple #[a, b]) ∧ Ints w' a za ∧ Ints w' b zb ∧ Fr (fun _ => False) w w')
    (h1 : ∀ w' a, Fr (fun _ => False) w w' → Ints w' a za → Calls Tryd.prog 75 #[.int .i64 wi, .int .i64 (K : Int), a, .slice lo LN lc, .slice ho HN hc] w' fun e w'' => (C1 → GaYes w'' e t1 l1 r1) ∧ (¬ C1 → GaNo e) ∧ Fr (fun _ => False) w' w'')
    (h2 : ∀ w' b lv us xv vs, C1 → Fr (fun _ => False) w w' → Ints w' b zb → Pcs w' lv us l1 → Cp lv → Pcs w' xv vs r1 → Cp xv → Calls Tryd.prog 75 #[.int .i64 wi, .int .i64 ((n - K : Nat) : Int), b, lv, xv] w' fun e w'' => (C2 → GaYes w'' e t2 l2 r2) ∧ (¬ C2 → GaNo e) ∧ Fr (fun _ => False) w' w'')
    (hnode : ∀ w' x y, C1 → C2 → Fr (fun _ => False) w w' → Sl w' x t1 → Sl w' y t2 → Calls Tryd.prog 29 #[.int .i64 wi, x, y] w' fun e w'' => ∃ yo yc, e = .returned (.slice yo wi yc) ∧ Sl w'' (.slice yo wi yc) (nd wi t1 t2) ∧ Fr (fun _ => False) w' w'') :
    Calls Tryd.prog 75 #[.int .i64 wi, .int .i64 (n : Int), .slice po N xc, .slice lo LN lc, .slice ho HN hc] w fun e w' => (C1 ∧ C2 → GaYes w' e (nd wi t1 t2) l2 r2) ∧ (¬ (C1 ∧ C2) → GaNo e) ∧ Fr (fun _ => False) w w' := by
  have q0 : ((N : Int) == 0) = false := beq_false_of_ne (by omega)
  have q1 : ¬ N = 0 := by omega
  have q2 : ((n : Int) == 1) = false := beq_false_of_ne (by omega)
  have q3 : IntKind.i64.wrap ((n : Int) - (K : Int)) = ((n - K : Nat) : Int) := by rw [IntKind.wrap_i64]; omega
  have HC := hide (And.intro hha (And.intro hpt (And.intro h1 (And.intro h2 hnode))))
  clear hha hpt h1 h2 hnode hN hK hn63
  generalize n - K = NK at *
  go_enter Tryd.func75, Tryd.ntmps75
  go_wp2_with fail
  refine (unhide HC).1.mono ?_
  rintro e w0 ⟨rfl, rfl⟩
  go_wp2_with fail
  refine (unhide HC).2.1.mono ?_
  rintro e w1 ⟨a, b, rfl, hA, hB, hF1⟩
  obtain ⟨ao, ac, rfl⟩ := hA.form
  obtain ⟨bo, bc, rfl⟩ := hB.form
  have H1 := hide (And.intro hA (And.intro hB hF1))
  clear hA hB hF1
  generalize za.length = ZA at *
  generalize zb.length = ZB at *
  go_wp2_with fail
  refine ((unhide HC).2.2.1 _ _ (unhide H1).2.2 (unhide H1).1).mono ?_
  rintro e w2 ⟨hY, hN, hF2⟩
  have H2 := hide (And.intro ((unhide H1).2.2.trans hF2 (fun _ _ h => h)) ((unhide H1).2.1.fr0 hF2))
  clear hF2
  by_cases hC1 : C1
  · obtain ⟨yo, yn, yc, la, lc1, us, xa, xc1, vs, rfl, s1, s2, s3, s4, s5⟩ := hY hC1
    have HS := hide (And.intro s1 (And.intro s2 (And.intro s3 (And.intro s4 (And.intro s5 hC1)))))
    clear hY hN s1 s2 s3 s4 s5 hC1
    generalize l1.length = L1 at *
    generalize r1.length = R1 at *
    go_wp2_with fail
    refine ((unhide HC).2.2.2.1 _ _ _ _ _ _ (unhide HS).2.2.2.2.2 (unhide H2).1 (unhide H2).2 (unhide HS).2.1 (unhide HS).2.2.1 (unhide HS).2.2.2.1 (unhide HS).2.2.2.2.1).mono ?_
    rintro e w3 ⟨hY, hN, hF3⟩
    have H3 := hide (And.intro hF3 ((unhide H2).1.trans hF3 (fun _ _ h => h)))
    clear hF3
    by_cases hC2 : C2
    · obtain ⟨zo, zn, zc, lb, lc2, us2, xb, xc2, vs2, rfl, t1', t2', t3', t4', t5'⟩ := hY hC2
      have HT := hide (And.intro t1' (And.intro t2' (And.intro t3' (And.intro t4' (And.intro t5' hC2)))))
      clear hY hN t1' t2' t3' t4' t5' hC2
      generalize hL2 : l2.length = L2 at *
      generalize hR2 : r2.length = R2 at *
      go_wp2_with fail
      refine ((unhide HC).2.2.2.2 _ _ _ (unhide HS).2.2.2.2.2 (unhide HT).2.2.2.2.2 (unhide H3).2 ((unhide HS).1.fr0 (unhide H3).1) (unhide HT).1).mono ?_
      rintro e w4 ⟨no, nc, rfl, hS4, hF4⟩
      have H4 := hide (And.intro hS4 hF4)
      clear hS4 hF4
      go_wp2_with fail
      go_returns
      refine ⟨fun _ => ⟨no, wi, nc, lb, lc2, us2, xb, xc2, vs2, by rw [hL2, hR2], (unhide H4).1, by rw [hL2]; exact (unhide HT).2.1.fr0 (unhide H4).2, by rw [hL2]; exact (unhide HT).2.2.1, by rw [hR2]; exact (unhide HT).2.2.2.1.fr0 (unhide H4).2, by rw [hR2]; exact (unhide HT).2.2.2.2.1⟩, fun h => absurd ⟨(unhide HS).2.2.2.2.2, (unhide HT).2.2.2.2.2⟩ h, (unhide H3).2.trans (unhide H4).2 (fun _ _ h => h)⟩
    · obtain rfl := hN hC2
      have HT := hide hC2
      clear hY hN hC2
      go_wp2_with fail
      go_returns
      exact ⟨fun h => absurd h.2 (unhide HT), fun _ => rfl, (unhide H3).2⟩
  · obtain rfl := hN hC1
    have HT := hide hC1
    clear hY hN hC1
    go_wp2_with fail
    go_returns
    exact ⟨fun h => absurd h.1 (unhide HT), fun _ => rfl, (unhide H2).1⟩
/-- The document's gather. -/
theorem gather_any (wi : Nat) (hw1 : 1 ≤ wi) (hw32 : wi ≤ 32) (m : Nat) : ∀ (f n : Nat) (zs : List Int) (ls hs : List (List Nat)) (pv lv xv : Value) (us vs : List Value) (w : World), n ≤ m → f + n < 9223372036854775808 → GR w → zs.Pairwise (· < ·) → (∀ z ∈ zs, (f : Int) ≤ z ∧ z < ((f + n : Nat) : Int)) → zs.length ≤ 8000000 → zs.length ≤ ls.length → (∀ p ∈ ls, p.length = wi) → (∀ p ∈ hs, p.length = wi) → Ints w pv (zs.map (· - (f : Int))) → Pcs w lv us ls → Cp lv → Pcs w xv vs hs → Cp xv → GaSays wi f n zs ls hs pv lv xv w := by
  induction m with
  | zero =>
    intro f n zs ls hs pv lv xv us vs w h hb hr hs1 hzb hzl hll hlw hhw hx hl hlc hh hhc
    have hz : zs = [] := by
      rcases zs with _ | ⟨a, r⟩
      · rfl
      · have := hzb a (by simp); omega
    subst hz
    rcases hs with _ | ⟨p, r⟩
    · exact gather_short wi f n ls pv lv xv us vs w hx hl hh
    · exact gather_next wi f n ls p r pv lv xv us vs w hx hl hlc hh hhc
  | succ m ih =>
    intro f n zs ls hs pv lv xv us vs w h hb hr hs1 hzb hzl hll hlw hhw hx hl hlc hh hhc
    by_cases hz : zs = []
    · subst hz
      rcases hs with _ | ⟨p, r⟩
      · exact gather_short wi f n ls pv lv xv us vs w hx hl hh
      · exact gather_next wi f n ls p r pv lv xv us vs w hx hl hlc hh hhc
    · have h0 : 0 < zs.length := List.length_pos_iff.2 hz
      by_cases h1 : n < 2
      · have hz1 : zs.length = 1 := by
          match zs, hz with
          | [a], _ => rfl
          | a :: b :: r, _ =>
            have h3 := hzb a (by simp)
            have h4 := hzb b (by simp)
            rw [List.pairwise_cons] at hs1
            have := hs1.1 b (by simp)
            omega
        have hn : n = 1 := by
          rcases zs with _ | ⟨a, r⟩
          · exact absurd rfl hz
          · have := hzb a (by simp); omega
        subst hn
        rcases ls with _ | ⟨p, q⟩
        · simp only [List.length_nil] at hll; omega
        · exact gather_one wi f zs p q hs pv lv xv us vs w hz1 hx hl hlc hh hhc
      · have h2 : 2 ≤ n := by omega
        have h3 := hf_lt n h2
        have h4 := hf_pos n
        have hCl := cnt_le ((f + hf n : Nat) : Int) zs
        obtain ⟨s1, s2⟩ := count_split ((f + hf n : Nat) : Int) zs hs1
        obtain ⟨e1, e2⟩ := filt ((f + hf n : Nat) : Int) zs hs1
        have ee : (f : Int) + ((hf n : Nat) : Int) = ((f + hf n : Nat) : Int) := by omega
        have ea : pa ((hf n : Nat) : Int) (zs.map (· - (f : Int))) = (zs.take (zs.countP (· < ((f + hf n : Nat) : Int)))).map (· - (f : Int)) := by rw [pa_map, ee, e1]
        have eb : pb ((hf n : Nat) : Int) (zs.map (· - (f : Int))) = (zs.drop (zs.countP (· < ((f + hf n : Nat) : Int)))).map (· - ((f + hf n : Nat) : Int)) := by rw [pb_map, ee, e2]
        have hpt := parted_any pv (zs.map (· - (f : Int))) ((hf n : Nat) : Int) w hx (by rw [List.length_map]; omega) (by omega) (fun z hz => by
          obtain ⟨y, hy, rfl⟩ := List.mem_map.1 hz
          have := hzb y hy
          omega)
        rw [ea, eb] at hpt
        have hgt := gth_two (wi := wi) (f := f) (n := n) (zs := zs) (ls := ls.take zs.length) (hs := hs) hz h2
        generalize hC : zs.countP (· < ((f + hf n : Nat) : Int)) = C at *
        have hct : (zs.take C).length = C := by rw [List.length_take]; omega
        have hcd : (zs.drop C).length = zs.length - C := List.length_drop
        have el : (ls.take zs.length).take C = ls.take (zs.take C).length := by rw [List.take_take, hct]; congr 1; omega
        have er : (ls.take zs.length).drop C = (ls.drop C).take (zs.drop C).length := by rw [hcd, List.drop_take]
        rw [el, er] at hgt
        have hlw1 : ∀ p ∈ ls.take (zs.take C).length, p.length = wi := fun p hp => hlw p (List.mem_of_mem_take hp)
        have hg1w := fun t r => gth_wid wi hw1 hw32 (hf n) f (hf n) (zs.take C) (ls.take (zs.take C).length) hs t r (Nat.le_refl _) (by rw [List.length_take, hct]; omega) hlw1 hhw
        obtain ⟨po, pc, rfl⟩ := hx.form
        obtain ⟨lo, lc, rfl⟩ := hl.form
        obtain ⟨ho, hc, rfl⟩ := hh.form
        rw [List.length_map] at hpt hx ⊢
        have hg1 := fun w' a (hf' : Fr (fun _ => False) w w') (ha : Ints w' a ((zs.take C).map (· - (f : Int)))) => ih f (hf n) (zs.take C) ls hs a _ _ us vs w' (by omega) (by omega) (hr.fr0 hf') (hs1.sublist (List.take_sublist _ _)) (fun z hz => ⟨(hzb z (List.mem_of_mem_take hz)).1, s1 z hz⟩) (by omega) (by omega) hlw hhw ha (hl.fr0 hf') hlc (hh.fr0 hf') hhc
        have hg2 := fun w' b lv' us' xv' vs' r1 (hf' : Fr (fun _ => False) w w') (hb' : Ints w' b ((zs.drop C).map (· - ((f + hf n : Nat) : Int)))) (hr1 : ∀ p ∈ r1, p.length = wi) => ih (f + hf n) (n - hf n) (zs.drop C) (ls.drop C) r1 b lv' xv' us' vs' w' (by omega) (by omega) (hr.fr0 hf') (hs1.sublist (List.drop_sublist _ _)) (fun z hz => ⟨s2 z hz, by have := (hzb z (List.mem_of_mem_drop hz)).2; omega⟩) (by omega) (by rw [hcd, List.length_drop]; omega) (fun p hp => hlw p (List.mem_of_mem_drop hp)) hr1 hb'
        have hcd2 : (ls.drop C).drop (zs.drop C).length = ls.drop zs.length := by rw [hcd, List.drop_drop]; congr 1; omega
        unfold GaSays at hg1 hg2 ⊢
        rw [hgt]
        rw [hct] at hg1
        rw [hcd2] at hg2
        rw [hct] at hg1w ⊢
        clear hgt hct el ih
        cases hG1 : gth wi f (hf n) (zs.take C) (ls.take C) hs with
        | none =>
          rw [hG1] at hg1
          refine (gather_go wi n (hf n) po zs.length pc lo ls.length lc ho hs.length hc _ _ [] [] [] [] [] [] False False w h0 (by omega) h3 (by omega) (half_any n w (by omega) h2) hpt (fun w' a hf' ha => (hg1 w' a hf' ha).mono (fun e w'' ⟨_, hN, hF⟩ => ⟨fun h => h.elim, fun _ => hN rfl, hF⟩)) (fun w' b lv us xv vs h => h.elim) (fun w' x y h => h.elim)).mono ?_
          rintro e w' ⟨_, hN, hF⟩
          exact ⟨fun t r h => by simp at h, fun _ => hN (fun h => h.1), hF⟩
        | some a =>
          obtain ⟨t1, r1⟩ := a
          obtain ⟨ht1, j, -, er1⟩ := hg1w t1 r1 hG1
          have hr1 : ∀ p ∈ r1, p.length = wi := fun p hp => by rw [er1] at hp; exact hhw p (List.mem_of_mem_drop hp)
          rw [hG1] at hg1
          rw [Option.bind_some]
          simp only
          cases hG2 : gth wi (f + hf n) (n - hf n) (zs.drop C) ((ls.drop C).take (zs.drop C).length) r1 with
          | none =>
            refine (gather_go wi n (hf n) po zs.length pc lo ls.length lc ho hs.length hc _ _ t1 [] (ls.drop C) r1 [] [] True False w h0 (by omega) h3 (by omega) (half_any n w (by omega) h2) hpt (fun w' a hf' ha => (hg1 w' a hf' ha).mono (fun e w'' ⟨hY, _, hF⟩ => ⟨fun _ => hY t1 r1 rfl, fun h => absurd trivial h, hF⟩)) (fun w' b lv us xv vs _ hf' hb' k1 k2 k3 k4 => ?_) (fun w' x y _ h => h.elim)).mono ?_
            · have := hg2 w' b lv us xv vs r1 hf' hb' hr1 k1 k2 k3 k4
              rw [hG2] at this
              exact this.mono (fun e w'' ⟨_, hN, hF⟩ => ⟨fun h => h.elim, fun _ => hN rfl, hF⟩)
            · rintro e w' ⟨_, hN, hF⟩
              exact ⟨fun t r h => by simp at h, fun _ => hN (fun h => h.2), hF⟩
          | some b =>
            obtain ⟨t2, r2⟩ := b
            obtain ⟨ht2, -⟩ := gth_wid wi hw1 hw32 _ (f + hf n) (n - hf n) (zs.drop C) ((ls.drop C).take (zs.drop C).length) r1 t2 r2 (Nat.le_refl _) (by rw [List.length_take, hcd, List.length_drop]; omega) (fun p hp => hlw p (List.mem_of_mem_drop (List.mem_of_mem_take hp))) hr1 hG2
            have hnd := nd_len wi hw1 hw32 t1 t2
            refine (gather_go wi n (hf n) po zs.length pc lo ls.length lc ho hs.length hc _ _ t1 t2 (ls.drop C) r1 (ls.drop zs.length) r2 True True w h0 (by omega) h3 (by omega) (half_any n w (by omega) h2) hpt (fun w' a hf' ha => (hg1 w' a hf' ha).mono (fun e w'' ⟨hY, _, hF⟩ => ⟨fun _ => hY t1 r1 rfl, fun h => absurd trivial h, hF⟩)) (fun w' b lv us xv vs _ hf' hb' k1 k2 k3 k4 => ?_) (fun w' x y _ _ hF hx hy => ?_)).mono ?_
            · have := hg2 w' b lv us xv vs r1 hf' hb' hr1 k1 k2 k3 k4
              rw [hG2] at this
              exact this.mono (fun e w'' ⟨hY, _, hF⟩ => ⟨fun _ => hY t2 r2 rfl, fun h => absurd trivial h, hF⟩)
            · refine (gnode_any (wi : Int) x y _ _ w' (hr.fr0 hF) hx.s hy.s hx.b hy.b (by omega) (by omega)).mono ?_
              rintro e w'' ⟨yo, yc, rfl, hO⟩
              have hs := hO.sl (nd_lt _ _ _)
              rw [hnd] at hs ⊢
              exact ⟨yo, yc, rfl, hs, hO.fr⟩
            · rintro e w' ⟨hY, _, hF⟩
              exact ⟨fun t r h => by simp at h; obtain ⟨rfl, rfl⟩ := h; exact hY ⟨trivial, trivial⟩, fun h => by simp at h, hF⟩
end Go.Proofs.YtocdnomfpgdglaaDoor

namespace Go.Proofs.YtocdnomfpgdglaaDoor
open Go.RowKit

/-- The root of what does not lie behind the part, as it comes out of a claim. -/
def olderv (wi : Nat) (r : List Nat) (f n tf tn : Nat) (path : List (List Nat)) : List Nat :=
  if _h : (f = tf ∧ n = tn) ∨ n < 2 then r
  else if tf < f + hf n then olderv wi r f (hf n) tf tn path.dropLast
  else nd wi (path.getLastD []) (olderv wi r (f + hf n) (n - hf n) tf tn path.dropLast)
termination_by n
decreasing_by
  · exact hf_lt n (by omega)
  · have := hf_pos n; omega
theorem olderv_eq (wi : Nat) (r : List Nat) (f n : Nat) (p : List (List Nat)) : olderv wi r f n f n p = r := by rw [olderv, dif_pos (.inl ⟨rfl, rfl⟩)]
theorem olderv_l {wi : Nat} {r : List Nat} {f n tf tn : Nat} {p : List (List Nat)} (h2 : 2 ≤ n) (hne : ¬ (f = tf ∧ n = tn)) (hlt : tf < f + hf n) : olderv wi r f n tf tn p = olderv wi r f (hf n) tf tn p.dropLast := by
  conv => lhs; rw [olderv, dif_neg (by omega), if_pos hlt]
theorem olderv_r {wi : Nat} {r : List Nat} {f n tf tn : Nat} {p : List (List Nat)} (h2 : 2 ≤ n) (hne : ¬ (f = tf ∧ n = tn)) (hlt : ¬ tf < f + hf n) : olderv wi r f n tf tn p = nd wi (p.getLastD []) (olderv wi r (f + hf n) (n - hf n) tf tn p.dropLast) := by
  conv => lhs; rw [olderv, dif_neg (by omega), if_neg hlt]
theorem olderv_wid (wi : Nat) (hw1 : 1 ≤ wi) (hw32 : wi ≤ 32) (r : List Nat) (hr : r.length = wi) (m : Nat) : ∀ f n tf tn (ps : List (List Nat)), n ≤ m → (olderv wi r f n tf tn ps).length = wi := by
  induction m with
  | zero => intro f n tf tn ps h; rw [olderv, dif_pos (by omega)]; exact hr
  | succ m ih =>
    intro f n tf tn ps h
    by_cases e : (f = tf ∧ n = tn) ∨ n < 2
    · rw [olderv, dif_pos e]; exact hr
    · have h3 := hf_lt n (by omega)
      by_cases hl : tf < f + hf n
      · rw [olderv_l (by omega) (by omega) hl]; exact ih _ _ _ _ _ (by omega)
      · rw [olderv_r (by omega) (by omega) hl]; exact nd_len wi hw1 hw32 _ _
set_option maxRecDepth 100000 in
set_option maxHeartbeats 1000000 in
theorem older_l (wi tf tn f n N xc g o : Nat) (ro : Option Addr) (rn rc : Nat) (v : Value) (w : World) (hc : w.cell? ⟨g, o + N, none⟩ = some v) (hcp : N + 1 ≤ xc) (hN : N < 9223372036854775807) (hv : ∃ a n c, v = .slice a n c) (h2 : 2 ≤ n) (hb : f + n < 9223372036854775808) (hne : ¬ (f = tf ∧ n = tn)) (hl : tf < f + hf n) (M : List Nat)
    (ht : ∀ w', Fr (fun _ => False) w w' → Calls Tryd.prog 71 #[cv wi tf tn (.slice ro rn rc) (.slice (some ⟨g, o, none⟩) N xc), sv f (hf n)] w' fun e w'' => ∃ uo un uc, e = .returned (.slice uo un uc) ∧ Sl w'' (.slice uo un uc) M ∧ Fr (fun _ => False) w' w'') :
    Calls Tryd.prog 71 #[cv wi tf tn (.slice ro rn rc) (.slice (some ⟨g, o, none⟩) (N + 1) xc), sv f n] w fun e w' => ∃ uo un uc, e = .returned (.slice uo un uc) ∧ Sl w' (.slice uo un uc) M ∧ Fr (fun _ => False) w w' := by
  obtain ⟨va, vn, vc, rfl⟩ := hv
  have hin := fun (w' : World) (hf : Fr (fun _ => False) w w') => inner_any wi tf tn N xc g o ro rn rc (.slice va vn vc) w' ((hf.cell (lt_of_cell hc) (fun h => h)).trans hc) hcp hN ⟨_, _, _, rfl⟩
  have eqs := fun w => eq_span f n tf tn w
  rw [decide_eq_false hne] at eqs
  have eg := Tryd.guard_span
  clear hne
  have hhv := fun w => halves_any f n w hb h2
  have hbf := fun w => before_any tf tn (f + hf n) (n - hf n) w
  rw [decide_eq_true hl] at hbf
  clear hl hc hcp hN hb h2
  generalize f + hf n = F2 at *
  generalize n - hf n = N2 at *
  generalize hf n = K at *
  have HC := hide (And.intro hhv (And.intro hbf (And.intro hin ht)))
  clear hhv hbf hin ht
  unfold sv cv at *
  go_enter Tryd.func71, Tryd.ntmps71
  go_wp2_with fail
  obtain ⟨W0, hW0⟩ : ∃ W0, (w.alloc (.cells #[.int .i64 wi, .int .i64 tf, .int .i64 tn, .slice ro rn rc, .slice (some ⟨g, o, none⟩) (N + 1) xc] 71)).alloc (.cells #[.int .i64 f, .int .i64 n] 69) = W0 := ⟨_, rfl⟩
  rw [hW0]
  obtain ⟨⟨a0, a1, a2, a3, a4⟩, -, -, hF0⟩ := box52 w _ _ _ _ _ _ _ _ _ W0 hW0
  refine ((unhide HC).1 _).mono ?_
  rintro e' wA ⟨rfl, hFA⟩
  have b0 := (hFA.cell (lt_of_cell a0) (fun h => h)).trans a0
  have b1 := (hFA.cell (lt_of_cell a1) (fun h => h)).trans a1
  have b2 := (hFA.cell (lt_of_cell a2) (fun h => h)).trans a2
  have b3 := (hFA.cell (lt_of_cell a3) (fun h => h)).trans a3
  have b4 := (hFA.cell (lt_of_cell a4) (fun h => h)).trans a4
  have HF := hide (hF0.trans hFA (fun _ _ h => h))
  clear hFA hF0 a0 a1 a2 a3 a4 hW0
  generalize w.heap.size = P at *
  have l0 : P < wA.heap.size := lt_of_cell b0
  have l1 : P < wA.heap.size + 1 := Nat.lt_succ_of_lt l0
  go_wp2_with fail
  obtain ⟨W1, hW1⟩ : ∃ W1, (wA.alloc (.cells #[.int .i64 f, .int .i64 K] 69)).alloc (.cells #[.int .i64 F2, .int .i64 N2] 69) = W1 := ⟨_, rfl⟩
  rw [hW1]
  obtain ⟨x0, x1, y0, y1, hF1⟩ := two2 wA _ _ _ _ _ W1 hW1
  refine ((unhide HC).2.2.1 _ ((unhide HF).trans hF1 (fun _ _ h => h))).mono ?_
  rintro e' wB ⟨rfl, hFB⟩
  have hF1B := hF1.trans hFB (fun _ _ h => h)
  have c1 := (hF1B.cell (lt_of_cell b1) (fun h => h)).trans b1
  have c2 := (hF1B.cell (lt_of_cell b2) (fun h => h)).trans b2
  have u0 := (hFB.cell (lt_of_cell x0) (fun h => h)).trans x0
  have u1 := (hFB.cell (lt_of_cell x1) (fun h => h)).trans x1
  have v0 := (hFB.cell (lt_of_cell y0) (fun h => h)).trans y0
  have v1 := (hFB.cell (lt_of_cell y1) (fun h => h)).trans y1
  have HF2 := hide ((unhide HF).trans hF1B (fun _ _ h => h))
  clear hF1 hFB hF1B hW1 x0 x1 y0 y1 b0 b1 b2 b3 b4 HF l0 l1
  generalize wA.heap.size = Z at *
  have k0 : P < wB.heap.size := lt_of_cell c1
  have k1 : Z < wB.heap.size := lt_of_cell u0
  have k2 : Z + 1 < wB.heap.size := lt_of_cell v0
  go_wp2_with fail
  obtain ⟨W2, hW2⟩ : ∃ W2, wB.alloc (.cells #[.int .i64 wi, .int .i64 tf, .int .i64 tn, .slice ro rn rc, .slice (some ⟨g, o, none⟩) N xc] 71) = W2 := ⟨_, rfl⟩
  rw [hW2]
  obtain ⟨⟨p0, p1, p2, p3, p4⟩, hF3⟩ := box5 wB _ _ _ _ _ _ W2 hW2
  refine ((unhide HC).2.1 _).mono ?_
  rintro e' wC ⟨rfl, hFC⟩
  have hF3C := hF3.trans hFC (fun _ _ h => h)
  have q0 := (hFC.cell (lt_of_cell p0) (fun h => h)).trans p0
  have q1 := (hFC.cell (lt_of_cell p1) (fun h => h)).trans p1
  have q2 := (hFC.cell (lt_of_cell p2) (fun h => h)).trans p2
  have q3 := (hFC.cell (lt_of_cell p3) (fun h => h)).trans p3
  have q4 := (hFC.cell (lt_of_cell p4) (fun h => h)).trans p4
  have m0 := (hF3C.cell (lt_of_cell u0) (fun h => h)).trans u0
  have m1 := (hF3C.cell (lt_of_cell u1) (fun h => h)).trans u1
  have HF4 := hide ((unhide HF2).trans hF3C (fun _ _ h => h))
  clear hF3 hFC hF3C hW2 p0 p1 p2 p3 p4 HF2 u0 u1 v0 v1 c1 c2 k0 k1 k2
  generalize wB.heap.size = Y at *
  go_wp2_with fail
  refine ((unhide HC).2.2.2 _ (unhide HF4)).mono ?_
  rintro e' wD ⟨uo, un, uc, rfl, hS, hFD⟩
  have HD := hide (And.intro hS ((unhide HF4).trans hFD (fun _ _ h => h)))
  clear hS hFD
  go_wp2_with fail
  go_ret
  exact ⟨uo, un, uc, rfl, (unhide HD).1, (unhide HD).2⟩
set_option maxRecDepth 100000 in
set_option maxHeartbeats 2000000 in
theorem older_r (wi tf tn f n N xc g o : Nat) (ro : Option Addr) (rn rc : Nat) (v : Value) (w : World) (hc : w.cell? ⟨g, o + N, none⟩ = some v) (hcp : N + 1 ≤ xc) (hN : N < 9223372036854775807) (hv : ∃ a n c, v = .slice a n c) (h2 : 2 ≤ n) (hb : f + n < 9223372036854775808) (hne : ¬ (f = tf ∧ n = tn)) (hl : ¬ tf < f + hf n) (M B : List Nat) (hg : GS w) (hnode : ∀ w' x, GS w' → Fr (fun _ => False) w w' → Sl w' x M → Calls Tryd.prog 27 #[.int .i64 wi, v, x] w' fun e w'' => ∃ yo, e = .returned (.slice yo wi wi) ∧ Sl w'' (.slice yo wi wi) B ∧ Fr (fun _ => False) w' w'')
    (ht : ∀ w', Fr (fun _ => False) w w' → Calls Tryd.prog 71 #[cv wi tf tn (.slice ro rn rc) (.slice (some ⟨g, o, none⟩) N xc), sv (f + hf n) (n - hf n)] w' fun e w'' => ∃ uo un uc, e = .returned (.slice uo un uc) ∧ Sl w'' (.slice uo un uc) M ∧ Fr (fun _ => False) w' w'') :
    Calls Tryd.prog 71 #[cv wi tf tn (.slice ro rn rc) (.slice (some ⟨g, o, none⟩) (N + 1) xc), sv f n] w fun e w' => ∃ uo un uc, e = .returned (.slice uo un uc) ∧ Sl w' (.slice uo un uc) B ∧ Fr (fun _ => False) w w' := by
  obtain ⟨va, vn, vc, rfl⟩ := hv
  have hin := fun (w' : World) (hf : Fr (fun _ => False) w w') => inner_any wi tf tn N xc g o ro rn rc (.slice va vn vc) w' ((hf.cell (lt_of_cell hc) (fun h => h)).trans hc) hcp hN ⟨_, _, _, rfl⟩
  have eqs := fun w => eq_span f n tf tn w
  rw [decide_eq_false hne] at eqs
  have eg := Tryd.guard_span
  clear hne
  have hhv := fun w => halves_any f n w hb h2
  have hbf := fun w => before_any tf tn (f + hf n) (n - hf n) w
  rw [decide_eq_false hl] at hbf
  clear hl hc hcp hN hb h2
  generalize f + hf n = F2 at *
  generalize n - hf n = N2 at *
  generalize hf n = K at *
  have HC := hide (And.intro hhv (And.intro hbf (And.intro hin (And.intro ht (And.intro hg hnode)))))
  clear hhv hbf hin ht hg hnode
  unfold sv cv at *
  go_enter Tryd.func71, Tryd.ntmps71
  go_wp2_with fail
  obtain ⟨W0, hW0⟩ : ∃ W0, (w.alloc (.cells #[.int .i64 wi, .int .i64 tf, .int .i64 tn, .slice ro rn rc, .slice (some ⟨g, o, none⟩) (N + 1) xc] 71)).alloc (.cells #[.int .i64 f, .int .i64 n] 69) = W0 := ⟨_, rfl⟩
  rw [hW0]
  obtain ⟨⟨a0, a1, a2, a3, a4⟩, -, -, hF0⟩ := box52 w _ _ _ _ _ _ _ _ _ W0 hW0
  refine ((unhide HC).1 _).mono ?_
  rintro e' wA ⟨rfl, hFA⟩
  have b0 := (hFA.cell (lt_of_cell a0) (fun h => h)).trans a0
  have b1 := (hFA.cell (lt_of_cell a1) (fun h => h)).trans a1
  have b2 := (hFA.cell (lt_of_cell a2) (fun h => h)).trans a2
  have b3 := (hFA.cell (lt_of_cell a3) (fun h => h)).trans a3
  have b4 := (hFA.cell (lt_of_cell a4) (fun h => h)).trans a4
  have HF := hide (hF0.trans hFA (fun _ _ h => h))
  clear hFA hF0 a0 a1 a2 a3 a4 hW0
  generalize w.heap.size = P at *
  have l0 : P < wA.heap.size := lt_of_cell b0
  have l1 : P < wA.heap.size + 1 := Nat.lt_succ_of_lt l0
  go_wp2_with fail
  obtain ⟨W1, hW1⟩ : ∃ W1, (wA.alloc (.cells #[.int .i64 f, .int .i64 K] 69)).alloc (.cells #[.int .i64 F2, .int .i64 N2] 69) = W1 := ⟨_, rfl⟩
  rw [hW1]
  obtain ⟨x0, x1, y0, y1, hF1⟩ := two2 wA _ _ _ _ _ W1 hW1
  refine ((unhide HC).2.2.1 _ ((unhide HF).trans hF1 (fun _ _ h => h))).mono ?_
  rintro e' wB ⟨rfl, hFB⟩
  have hF1B := hF1.trans hFB (fun _ _ h => h)
  have c0 := (hF1B.cell (lt_of_cell b0) (fun h => h)).trans b0
  have c1 := (hF1B.cell (lt_of_cell b1) (fun h => h)).trans b1
  have c2 := (hF1B.cell (lt_of_cell b2) (fun h => h)).trans b2
  have u0 := (hFB.cell (lt_of_cell x0) (fun h => h)).trans x0
  have u1 := (hFB.cell (lt_of_cell x1) (fun h => h)).trans x1
  have v0 := (hFB.cell (lt_of_cell y0) (fun h => h)).trans y0
  have v1 := (hFB.cell (lt_of_cell y1) (fun h => h)).trans y1
  have HF2 := hide ((unhide HF).trans hF1B (fun _ _ h => h))
  clear hF1 hFB hF1B hW1 x0 x1 y0 y1 b0 b1 b2 b3 b4 HF l0 l1
  generalize wA.heap.size = Z at *
  have k0 : P < wB.heap.size := lt_of_cell c1
  have k1 : Z < wB.heap.size := lt_of_cell u0
  have k2 : Z + 1 < wB.heap.size := lt_of_cell v0
  go_wp2_with fail
  obtain ⟨W2, hW2⟩ : ∃ W2, wB.alloc (.cells #[.int .i64 wi, .int .i64 tf, .int .i64 tn, .slice ro rn rc, .slice (some ⟨g, o, none⟩) N xc] 71) = W2 := ⟨_, rfl⟩
  rw [hW2]
  obtain ⟨⟨p0, p1, p2, p3, p4⟩, hF3⟩ := box5 wB _ _ _ _ _ _ W2 hW2
  refine ((unhide HC).2.1 _).mono ?_
  rintro e' wC ⟨rfl, hFC⟩
  have hF3C := hF3.trans hFC (fun _ _ h => h)
  have q0 := (hFC.cell (lt_of_cell p0) (fun h => h)).trans p0
  have q1 := (hFC.cell (lt_of_cell p1) (fun h => h)).trans p1
  have q2 := (hFC.cell (lt_of_cell p2) (fun h => h)).trans p2
  have q3 := (hFC.cell (lt_of_cell p3) (fun h => h)).trans p3
  have q4 := (hFC.cell (lt_of_cell p4) (fun h => h)).trans p4
  have d0 := (hF3C.cell (lt_of_cell c0) (fun h => h)).trans c0
  have m0 := (hF3C.cell (lt_of_cell v0) (fun h => h)).trans v0
  have m1 := (hF3C.cell (lt_of_cell v1) (fun h => h)).trans v1
  have HF4 := hide ((unhide HF2).trans hF3C (fun _ _ h => h))
  clear hF3 hFC hF3C hW2 p0 p1 p2 p3 p4 HF2 u0 u1 v0 v1 c0 c1 c2 k0 k1 k2
  generalize wB.heap.size = Y at *
  have hS : ∀ w', Fr (fun _ => False) wC w' → w'.cell? ⟨P, 0, none⟩ = some (.int .i64 wi) ∧ w'.cell? ⟨Y, 0, none⟩ = some (.int .i64 wi) ∧ w'.cell? ⟨Y, 1, none⟩ = some (.int .i64 tf) ∧ w'.cell? ⟨Y, 2, none⟩ = some (.int .i64 tn) ∧ w'.cell? ⟨Y, 3, none⟩ = some (.slice ro rn rc) ∧ w'.cell? ⟨Y, 4, none⟩ = some (.slice (some ⟨g, o, none⟩) N xc) ∧ w'.cell? ⟨Z + 1, 0, none⟩ = some (.int .i64 F2) ∧ w'.cell? ⟨Z + 1, 1, none⟩ = some (.int .i64 N2) := fun w' hf =>
    ⟨(hf.cell (lt_of_cell d0) (fun h => h)).trans d0, (hf.cell (lt_of_cell q0) (fun h => h)).trans q0, (hf.cell (lt_of_cell q1) (fun h => h)).trans q1, (hf.cell (lt_of_cell q2) (fun h => h)).trans q2, (hf.cell (lt_of_cell q3) (fun h => h)).trans q3, (hf.cell (lt_of_cell q4) (fun h => h)).trans q4, (hf.cell (lt_of_cell m0) (fun h => h)).trans m0, (hf.cell (lt_of_cell m1) (fun h => h)).trans m1⟩
  have HS := hide hS
  clear hS
  go_wp2_with fail
  go_region_held3 (fun w' => w'.cell? ⟨P, 0, none⟩ = some (.int .i64 wi) ∧ w'.cell? ⟨Y, 0, none⟩ = some (.int .i64 wi) ∧ w'.cell? ⟨Y, 1, none⟩ = some (.int .i64 tf) ∧ w'.cell? ⟨Y, 2, none⟩ = some (.int .i64 tn) ∧ w'.cell? ⟨Y, 3, none⟩ = some (.slice ro rn rc) ∧ w'.cell? ⟨Y, 4, none⟩ = some (.slice (some ⟨g, o, none⟩) N xc) ∧ w'.cell? ⟨Z + 1, 0, none⟩ = some (.int .i64 F2) ∧ w'.cell? ⟨Z + 1, 1, none⟩ = some (.int .i64 N2))
    (first | assumption | exact (unhide HS) _ (Fr.refl _ _).drew | exact (unhide HS) _ fE | exact (unhide HS) _ fD)
    (first
      | (go_at_call 71; refine ((unhide HC).2.2.2.1 _ (by first | exact unhide HF4 | exact (unhide HF4).drew)).mono ?_; rintro e' wD ⟨uo, un, uc, rfl, sD, fD0⟩; have fD : Fr (fun _ => False) wC wD := by first | exact fD0 | exact (Fr.refl _ _).drew.trans fD0 (fun _ _ h => h))
      | (go_at_call 27; refine ((unhide HC).2.2.2.2.2 wD _ ((unhide HC).2.2.2.2.1.fr0 ((unhide HF4).trans fD (fun _ _ h => h))) ((unhide HF4).trans fD (fun _ _ h => h)) sD).mono ?_; rintro e' wE ⟨zo, rfl, sE, fE0⟩; have fE : Fr (fun _ => False) wC wE := fD.trans fE0 (fun _ _ h => h)))
  have HD := hide (And.intro sE ((unhide HF4).trans fE (fun _ _ h => h)))
  clear sE fE sD fD fE0 fD0
  go_wp2_with fail
  go_ret
  exact ⟨zo, wi, wi, rfl, (unhide HD).1, (unhide HD).2⟩
end Go.Proofs.YtocdnomfpgdglaaDoor

namespace Go.Proofs.YtocdnomfpgdglaaDoor
open Go.RowKit

set_option maxRecDepth 100000 in
set_option maxHeartbeats 2000000 in
/-- The older root as it comes out of a claim. -/
theorem older_any (wi : Nat) (hw1 : 1 ≤ wi) (hw32 : wi ≤ 32) (m : Nat) : ∀ (f n tf tn : Nat) (w : World) (ro : Option Addr) (rn rc : Nat) (r : List Nat) (x : Value) (vs : List Value) (ps : List (List Nat)), n ≤ m → f + n < 9223372036854775808 → Rch f n tf tn → GS w → Sl w (.slice ro rn rc) r → r.length = wi → Pcs w x vs ps → Cp x → ps.length = dep f n tf tn → (∀ p ∈ ps, p.length = wi) →
    Calls Tryd.prog 71 #[cv wi tf tn (.slice ro rn rc) x, sv f n] w fun e w' => ∃ uo un uc, e = .returned (.slice uo un uc) ∧ Sl w' (.slice uo un uc) (olderv wi r f n tf tn ps) ∧ Fr (fun _ => False) w w' := by
  induction m with
  | zero =>
    intro f n tf tn w ro rn rc r x vs ps hm hb hr hg hs hrw hp hcx hpd hpw
    by_cases e : f = tf ∧ n = tn
    · obtain ⟨rfl, rfl⟩ := e
      rw [olderv_eq]
      have eqs := fun w => eq_span f n f n w
      simp only [decide_true, and_self] at eqs
      have eg := Tryd.guard_span
      obtain ⟨xo, xc, rfl⟩ := hp.form
      have HS := hide hs
      clear hs hg hp hcx hpd hpw hrw
      generalize ps.length = N at *
      unfold sv cv
      go_enter Tryd.func71, Tryd.ntmps71
      go_wp2_with fail
      go_ret
      exact ⟨ro, rn, rc, rfl, (unhide HS).fr0 (((Fr.refl _ _).alloc _).alloc _), ((Fr.refl _ _).alloc _).alloc _⟩
    · have := (rch_ne hr e).1; omega
  | succ m ih =>
    intro f n tf tn w ro rn rc r x vs ps hm hb hr hg hs hrw hp hcx hpd hpw
    by_cases e : f = tf ∧ n = tn
    · obtain ⟨rfl, rfl⟩ := e
      rw [olderv_eq]
      have eqs := fun w => eq_span f n f n w
      simp only [decide_true, and_self] at eqs
      have eg := Tryd.guard_span
      obtain ⟨xo, xc, rfl⟩ := hp.form
      have HS := hide hs
      clear hs hg hp hcx hpd hpw hrw
      generalize ps.length = N at *
      unfold sv cv
      go_enter Tryd.func71, Tryd.ntmps71
      go_wp2_with fail
      go_ret
      exact ⟨ro, rn, rc, rfl, (unhide HS).fr0 (((Fr.refl _ _).alloc _).alloc _), ((Fr.refl _ _).alloc _).alloc _⟩
    · obtain ⟨h2, r1, r2⟩ := rch_ne hr e
      have hlt := hf_lt n h2
      have hpos := hf_pos n
      have eqs := fun w => eq_span f n tf tn w
      rw [decide_eq_false e] at eqs
      have eg := Tryd.guard_span
      by_cases hl : tf < f + hf n
      · have hdp := dep_l h2 e hl
        obtain ⟨D, hD⟩ : ∃ D, dep f (hf n) tf tn = D := ⟨_, rfl⟩
        rw [hD] at hdp
        have hlen : ps.length = D + 1 := by rw [hpd, hdp]
        obtain ⟨xo, xc, rfl⟩ := hp.form
        rw [hlen] at hp hcx ⊢
        obtain ⟨g, o, v, rfl, hcell, -⟩ := hp.cell (Fr.refl _ _) D (by omega)
        have hDb : D ≤ n := by rw [← hD]; have := dep_le _ f (hf n) tf tn (Nat.le_refl _); omega
        have hDc : D < 9223372036854775807 := by have h1 := dep_le _ f n tf tn (Nat.le_refl _); omega
        have hcap : D + 1 ≤ xc := hcx _ _ _ rfl
        have hvD : vs[D]? = some v := by
          have hvl : D < vs.length := by rw [hp.len]; omega
          rcases hp.at_ with ⟨e', _⟩ | ⟨_, _, e', _⟩ | ⟨g', o', c', e', _, hc'⟩
          · simp at e'
          · simp at e'
          · simp only [Value.slice.injEq, Option.some.injEq, Addr.mk.injEq, and_true] at e'
            obtain ⟨⟨rfl, rfl⟩, _⟩ := e'
            have h1 := hc' D _ (List.getElem?_eq_getElem hvl)
            rw [h1] at hcell
            rw [List.getElem?_eq_getElem hvl, Option.some.inj hcell]
        have hsv : Sl w v ps[D] := hp.sl D v _ hvD (List.getElem?_eq_getElem (by omega))
        have hdl : ps.dropLast = ps.take D := by rw [List.dropLast_eq_take, hlen]; rfl
        have hp' := hp.take D (by omega)
        have htop : ∀ w', Fr (fun _ => False) w w' → _ := fun w' hf' => ih f (hf n) tf tn w' ro rn rc r _ _ (ps.take D) (by omega) (by omega) (r1 hl) (hg.fr0 hf') (hs.fr0 hf') hrw (hp'.fr0 hf') (fun _ _ _ e => by cases e; omega) (by rw [List.length_take]; omega) (fun p hp => hpw p (List.mem_of_mem_take hp))
        rw [olderv_l h2 e hl, hdl]
        obtain ⟨va, vn, vc, rfl⟩ : ∃ a n c, v = .slice a n c := by
          obtain ⟨a, c, e⟩ := hsv.form
          exact ⟨_, _, _, e⟩
        exact older_l wi tf tn f n D xc g o ro rn rc (.slice va vn vc) w hcell hcap hDc ⟨_, _, _, rfl⟩ h2 hb e hl _ htop
      · have hdp := dep_r h2 e hl
        obtain ⟨D, hD⟩ : ∃ D, dep (f + hf n) (n - hf n) tf tn = D := ⟨_, rfl⟩
        rw [hD] at hdp
        have hlen : ps.length = D + 1 := by rw [hpd, hdp]
        obtain ⟨xo, xc, rfl⟩ := hp.form
        rw [hlen] at hp hcx ⊢
        obtain ⟨g, o, v, rfl, hcell, -⟩ := hp.cell (Fr.refl _ _) D (by omega)
        have hDb : D ≤ n := by rw [← hD]; have := dep_le _ (f + hf n) (n - hf n) tf tn (Nat.le_refl _); omega
        have hDc : D < 9223372036854775807 := by have h1 := dep_le _ f n tf tn (Nat.le_refl _); omega
        have hcap : D + 1 ≤ xc := hcx _ _ _ rfl
        have hvD : vs[D]? = some v := by
          have hvl : D < vs.length := by rw [hp.len]; omega
          rcases hp.at_ with ⟨e', _⟩ | ⟨_, _, e', _⟩ | ⟨g', o', c', e', _, hc'⟩
          · simp at e'
          · simp at e'
          · simp only [Value.slice.injEq, Option.some.injEq, Addr.mk.injEq, and_true] at e'
            obtain ⟨⟨rfl, rfl⟩, _⟩ := e'
            have h1 := hc' D _ (List.getElem?_eq_getElem hvl)
            rw [h1] at hcell
            rw [List.getElem?_eq_getElem hvl, Option.some.inj hcell]
        have hsv : Sl w v ps[D] := hp.sl D v _ hvD (List.getElem?_eq_getElem (by omega))
        have hdl : ps.dropLast = ps.take D := by rw [List.dropLast_eq_take, hlen]; rfl
        have hgl : ps.getLastD [] = ps[D] := getLastD_at ps D hlen
        have hp' := hp.take D (by omega)
        have htop : ∀ w', Fr (fun _ => False) w w' → _ := fun w' hf' => ih (f + hf n) (n - hf n) tf tn w' ro rn rc r _ _ (ps.take D) (by omega) (by omega) (r2 hl) (hg.fr0 hf') (hs.fr0 hf') hrw (hp'.fr0 hf') (fun _ _ _ e => by cases e; omega) (by rw [List.length_take]; omega) (fun p hp => hpw p (List.mem_of_mem_take hp))
        rw [olderv_r h2 e hl, hdl, hgl]
        have hTw := olderv_wid wi hw1 hw32 r hrw _ (f + hf n) (n - hf n) tf tn (ps.take D) (Nat.le_refl _)
        have hAw := hpw ps[D] (List.getElem_mem _)
        obtain ⟨va, vn, vc, rfl⟩ : ∃ a n c, v = .slice a n c := by
          obtain ⟨a, c, e⟩ := hsv.form
          exact ⟨_, _, _, e⟩
        have hnl := nd_len wi hw1 hw32 ps[D] (olderv wi r (f + hf n) (n - hf n) tf tn (ps.take D))
        refine older_r wi tf tn f n D xc g o ro rn rc (.slice va vn vc) w hcell hcap hDc ⟨_, _, _, rfl⟩ h2 hb e hl _ _ hg (fun w' x hg' hf' hx => ?_) htop
        refine (node_any (wi : Int) (.slice va vn vc) x ps[D] _ w' hg' (hsv.fr0 hf') hx (by omega) (by omega)).mono ?_
        rintro e' w'' ⟨yo, rfl, hO⟩
        have hsl := hO.sl (nd_lt _ _ _)
        rw [hnl] at hsl ⊢
        exact ⟨yo, rfl, hsl, hO.fr⟩
end Go.Proofs.YtocdnomfpgdglaaDoor

namespace Go.Proofs.YtocdnomfpgdglaaDoor
open Go.RowKit

theorem set5 (w : World) (b : Nat) (x0 x1 x2 x3 x4 : Value) (h : ∀ j : Nat, j < 5 → (w.cell? ⟨b, j, none⟩).isSome = true) (W : World) (hW : ((((w.setCell ⟨b, 0, none⟩ x0).setCell ⟨b, 1, none⟩ x1).setCell ⟨b, 2, none⟩ x2).setCell ⟨b, 3, none⟩ x3).setCell ⟨b, 4, none⟩ x4 = W) : W.cell? ⟨b, 0, none⟩ = some x0 ∧ W.cell? ⟨b, 1, none⟩ = some x1 ∧ W.cell? ⟨b, 2, none⟩ = some x2 ∧ W.cell? ⟨b, 3, none⟩ = some x3 ∧ W.cell? ⟨b, 4, none⟩ = some x4 := by
  subst hW
  have o : ∀ (v : World) (i j : Nat) (u : Value), i ≠ j → (v.setCell ⟨b, i, none⟩ u).cell? ⟨b, j, none⟩ = v.cell? ⟨b, j, none⟩ := fun v i j u h => World.cell?_setCell_other _ _ _ _ (by intro e; injection e with e1 e2; omega)
  refine ⟨?_, ?_, ?_, ?_, ?_⟩
  · rw [o _ 4 0 _ (by decide), o _ 3 0 _ (by decide), o _ 2 0 _ (by decide), o _ 1 0 _ (by decide), World.cell?_setCell_same' _ _ _ (h 0 (by decide))]
  · rw [o _ 4 1 _ (by decide), o _ 3 1 _ (by decide), o _ 2 1 _ (by decide), World.cell?_setCell_same' _ _ _ (by rw [o _ 0 1 _ (by decide)]; exact h 1 (by decide))]
  · rw [o _ 4 2 _ (by decide), o _ 3 2 _ (by decide), World.cell?_setCell_same' _ _ _ (by rw [o _ 1 2 _ (by decide), o _ 0 2 _ (by decide)]; exact h 2 (by decide))]
  · rw [o _ 4 3 _ (by decide), World.cell?_setCell_same' _ _ _ (by rw [o _ 2 3 _ (by decide), o _ 1 3 _ (by decide), o _ 0 3 _ (by decide)]; exact h 3 (by decide))]
  · rw [World.cell?_setCell_same' _ _ _ (by rw [o _ 3 4 _ (by decide), o _ 2 4 _ (by decide), o _ 1 4 _ (by decide), o _ 0 4 _ (by decide)]; exact h 4 (by decide))]
theorem nil5 (w : World) (W : World) (hW : w.alloc (.cells #[.int .i64 0, .int .i64 0, .int .i64 0, .slice none 0 0, .slice none 0 0] 71) = W) : (W.cell? ⟨w.heap.size, 0, none⟩ = some (.int .i64 0) ∧ W.cell? ⟨w.heap.size, 1, none⟩ = some (.int .i64 0) ∧ W.cell? ⟨w.heap.size, 2, none⟩ = some (.int .i64 0) ∧ W.cell? ⟨w.heap.size, 3, none⟩ = some (.slice none 0 0) ∧ W.cell? ⟨w.heap.size, 4, none⟩ = some (.slice none 0 0)) ∧ (∀ j : Nat, j < 5 → W.frozen? ⟨w.heap.size, j, none⟩ = false) ∧ Fr (fun _ => False) w W := by
  subst hW
  refine ⟨⟨?_, ?_, ?_, ?_, ?_⟩, fun j hj => ?_, (Fr.refl _ _).alloc _⟩
  iterate 5 (rw [World.cell?_alloc_at _ _ _ _ rfl] <;> rfl)
  rw [World.frozen?_alloc_at _ _ _ _ rfl] <;> first | rfl | skip
set_option maxRecDepth 100000 in
set_option maxHeartbeats 1000000 in
/-- What a proof says, where SUB never left the first entries. -/
theorem ofProof_l (wi m n : Nat) (h0 : 0 < m) (hm : m ≤ n) (hn : n < 9223372036854775808) (he : (endF 0 n m).1 = 0) (ro : Option Addr) (rn rc : Nat) (xo : Option Addr) (xn xc : Nat) (w : World) :
    Calls Tryd.prog 70 #[.int .i64 wi, .int .i64 m, .int .i64 n, .slice ro rn rc, .slice xo xn xc] w fun e w' => e = .returned (.tuple #[cv wi (endF 0 n m).1 (endF 0 n m).2 (.slice ro rn rc) (.slice xo xn xc), .bool true]) ∧ Fr (fun _ => False) w w' := by
  have hend := fun w' => end_any n 0 n m w' (Nat.le_refl _) (by omega) h0 (by omega)
  unfold EndSays at hend
  rw [he] at hend ⊢
  generalize (endF 0 n m).2 = EN at *
  have HE := hide hend
  clear hend he h0 hm hn
  unfold sv cv at *
  have e0 : ((0 : Nat) : Int) = 0 := rfl
  simp only [e0] at HE ⊢
  clear e0
  go_enter Tryd.func70, Tryd.ntmps70
  go_wp2_with fail
  obtain ⟨W0, hW0⟩ : ∃ W0, w.alloc (.cells #[.int .i64 0, .int .i64 0, .int .i64 0, .slice none 0 0, .slice none 0 0] 71) = W0 := ⟨_, rfl⟩
  rw [hW0]
  obtain ⟨⟨a0, a1, a2, a3, a4⟩, hz, hF0⟩ := nil5 w W0 hW0
  refine ((unhide HE) _).mono ?_
  rintro e w1 ⟨rfl, hF⟩
  have c0 := (hF.cell (lt_of_cell a0) (fun h => h)).trans a0
  have c1 := (hF.cell (lt_of_cell a1) (fun h => h)).trans a1
  have c2 := (hF.cell (lt_of_cell a2) (fun h => h)).trans a2
  have c3 := (hF.cell (lt_of_cell a3) (fun h => h)).trans a3
  have c4 := (hF.cell (lt_of_cell a4) (fun h => h)).trans a4
  have y0 := (hF.frozen (p := ⟨w.heap.size, 0, none⟩) (lt_of_cell a0) (fun h => h)).trans (hz 0 (by decide))
  have y1 := (hF.frozen (p := ⟨w.heap.size, 1, none⟩) (lt_of_cell a1) (fun h => h)).trans (hz 1 (by decide))
  have y2 := (hF.frozen (p := ⟨w.heap.size, 2, none⟩) (lt_of_cell a2) (fun h => h)).trans (hz 2 (by decide))
  have y3 := (hF.frozen (p := ⟨w.heap.size, 3, none⟩) (lt_of_cell a3) (fun h => h)).trans (hz 3 (by decide))
  have y4 := (hF.frozen (p := ⟨w.heap.size, 4, none⟩) (lt_of_cell a4) (fun h => h)).trans (hz 4 (by decide))
  have HF := hide (hF0.trans hF (fun _ _ h => h))
  have hP : w.heap.size ≤ w.heap.size := Nat.le_refl _
  clear hF hF0 a0 a1 a2 a3 a4 hz hW0
  generalize hPe : w.heap.size = P at *
  have HP := hide hPe
  clear hPe
  have l0 : P < w1.heap.size := lt_of_cell c0
  have l1 : P < w1.heap.size + 1 := Nat.lt_succ_of_lt l0
  go_wp2_with fail
  obtain ⟨W2, hW2⟩ : ∃ W2, ((((w1.setCell ⟨P, 0, none⟩ (.int .i64 (wi : Int))).setCell ⟨P, 1, none⟩ (.int .i64 0)).setCell ⟨P, 2, none⟩ (.int .i64 (EN : Int))).setCell ⟨P, 3, none⟩ (.slice ro rn rc)).setCell ⟨P, 4, none⟩ (.slice xo xn xc) = W2 := ⟨_, rfl⟩
  obtain ⟨k0, k1, k2, k3, k4⟩ := set5 w1 P _ _ _ _ _ (fun j hj => by
    match j, hj with
    | 0, _ => rw [c0]; rfl
    | 1, _ => rw [c1]; rfl
    | 2, _ => rw [c2]; rfl
    | 3, _ => rw [c3]; rfl
    | 4, _ => rw [c4]; rfl) W2 hW2
  have hPw : w.heap.size ≤ P := Nat.le_of_eq (unhide HP)
  have hF2 : Fr (fun _ => False) w W2 := by
    rw [← hW2]
    exact (((((unhide HF).setCell (p := ⟨P, 0, none⟩) (.inr hPw) _).setCell (p := ⟨P, 1, none⟩) (.inr hPw) _).setCell (p := ⟨P, 2, none⟩) (.inr hPw) _).setCell (p := ⟨P, 3, none⟩) (.inr hPw) _).setCell (p := ⟨P, 4, none⟩) (.inr hPw) _
  rw [hW2]
  obtain ⟨W3, hW3⟩ : ∃ W3, W2.alloc (.cells #[.int .i64 0, .int .i64 (EN : Int)] 69) = W3 := ⟨_, rfl⟩
  have hF3 : Fr (fun _ => False) W2 W3 := by rw [← hW3]; exact (Fr.refl _ _).alloc _
  rw [hW3]
  have j0 := (hF3.cell (lt_of_cell k0) (fun h => h)).trans k0
  have j1 := (hF3.cell (lt_of_cell k1) (fun h => h)).trans k1
  have j2 := (hF3.cell (lt_of_cell k2) (fun h => h)).trans k2
  have j3 := (hF3.cell (lt_of_cell k3) (fun h => h)).trans k3
  have j4 := (hF3.cell (lt_of_cell k4) (fun h => h)).trans k4
  refine bodyPost_ret (by simp [results, Tryd.results70, go_sem, j0, j1, j2, j3, j4]; try rfl) rfl ?_
  exact ⟨rfl, hF2.trans hF3 (fun _ _ h => h)⟩
end Go.Proofs.YtocdnomfpgdglaaDoor

namespace Go.Proofs.YtocdnomfpgdglaaDoor
open Go.RowKit

set_option maxRecDepth 100000 in
set_option maxHeartbeats 1000000 in
/-- A proof without the root of the part where SUB ends. -/
theorem ofProof_no (wi m n : Nat) (h0 : 0 < m) (hm : m ≤ n) (hn : n < 9223372036854775808) (he : ¬ (endF 0 n m).1 = 0) (ro : Option Addr) (rn rc : Nat) (xo : Option Addr) (xc : Nat) (w : World) :
    Calls Tryd.prog 70 #[.int .i64 wi, .int .i64 m, .int .i64 n, .slice ro rn rc, .slice xo 0 xc] w fun e w' => e = .returned (.tuple #[cv 0 0 0 (.slice none 0 0) (.slice none 0 0), .bool false]) ∧ Fr (fun _ => False) w w' := by
  have hend := fun w' => end_any n 0 n m w' (Nat.le_refl _) (by omega) h0 (by omega)
  unfold EndSays at hend
  generalize (endF 0 n m).2 = EN at *
  generalize (endF 0 n m).1 = E1 at *
  have q1 : ((E1 : Int) == 0) = false := beq_false_of_ne (by omega)
  have q2 := he
  have HE := hide hend
  clear hend he h0 hm hn
  unfold sv cv at *
  have e0 : ((0 : Nat) : Int) = 0 := rfl
  simp only [e0] at HE ⊢
  clear e0
  go_enter Tryd.func70, Tryd.ntmps70
  go_wp2_with fail
  obtain ⟨W0, hW0⟩ : ∃ W0, w.alloc (.cells #[.int .i64 0, .int .i64 0, .int .i64 0, .slice none 0 0, .slice none 0 0] 71) = W0 := ⟨_, rfl⟩
  rw [hW0]
  obtain ⟨⟨a0, a1, a2, a3, a4⟩, hz, hF0⟩ := nil5 w W0 hW0
  refine ((unhide HE) _).mono ?_
  rintro e w1 ⟨rfl, hF⟩
  have c0 := (hF.cell (lt_of_cell a0) (fun h => h)).trans a0
  have c1 := (hF.cell (lt_of_cell a1) (fun h => h)).trans a1
  have c2 := (hF.cell (lt_of_cell a2) (fun h => h)).trans a2
  have c3 := (hF.cell (lt_of_cell a3) (fun h => h)).trans a3
  have c4 := (hF.cell (lt_of_cell a4) (fun h => h)).trans a4
  have y0 := (hF.frozen (p := ⟨w.heap.size, 0, none⟩) (lt_of_cell a0) (fun h => h)).trans (hz 0 (by decide))
  have y1 := (hF.frozen (p := ⟨w.heap.size, 1, none⟩) (lt_of_cell a1) (fun h => h)).trans (hz 1 (by decide))
  have y2 := (hF.frozen (p := ⟨w.heap.size, 2, none⟩) (lt_of_cell a2) (fun h => h)).trans (hz 2 (by decide))
  have y3 := (hF.frozen (p := ⟨w.heap.size, 3, none⟩) (lt_of_cell a3) (fun h => h)).trans (hz 3 (by decide))
  have y4 := (hF.frozen (p := ⟨w.heap.size, 4, none⟩) (lt_of_cell a4) (fun h => h)).trans (hz 4 (by decide))
  have HF := hide (hF0.trans hF (fun _ _ h => h))
  have hP : w.heap.size ≤ w.heap.size := Nat.le_refl _
  clear hF hF0 a0 a1 a2 a3 a4 hz hW0
  generalize hPe : w.heap.size = P at *
  have HP := hide hPe
  clear hPe
  have l0 : P < w1.heap.size := lt_of_cell c0
  have l1 : P < w1.heap.size + 1 := Nat.lt_succ_of_lt l0
  go_wp2_with fail
  obtain ⟨W2, hW2⟩ : ∃ W2, ((((w1.setCell ⟨P, 0, none⟩ (.int .i64 0)).setCell ⟨P, 1, none⟩ (.int .i64 0)).setCell ⟨P, 2, none⟩ (.int .i64 0)).setCell ⟨P, 3, none⟩ (.slice none 0 0)).setCell ⟨P, 4, none⟩ (.slice none 0 0) = W2 := ⟨_, rfl⟩
  obtain ⟨k0, k1, k2, k3, k4⟩ := set5 w1 P _ _ _ _ _ (fun j hj => by
    match j, hj with
    | 0, _ => rw [c0]; rfl
    | 1, _ => rw [c1]; rfl
    | 2, _ => rw [c2]; rfl
    | 3, _ => rw [c3]; rfl
    | 4, _ => rw [c4]; rfl) W2 hW2
  have hPw : w.heap.size ≤ P := Nat.le_of_eq (unhide HP)
  have hF2 : Fr (fun _ => False) w W2 := by
    rw [← hW2]
    exact (((((unhide HF).setCell (p := ⟨P, 0, none⟩) (.inr hPw) _).setCell (p := ⟨P, 1, none⟩) (.inr hPw) _).setCell (p := ⟨P, 2, none⟩) (.inr hPw) _).setCell (p := ⟨P, 3, none⟩) (.inr hPw) _).setCell (p := ⟨P, 4, none⟩) (.inr hPw) _
  rw [hW2]
  obtain ⟨W3, hW3⟩ : ∃ W3, W2.alloc (.cells #[.int .i64 (E1 : Int), .int .i64 (EN : Int)] 69) = W3 := ⟨_, rfl⟩
  have hF3 : Fr (fun _ => False) W2 W3 := by rw [← hW3]; exact (Fr.refl _ _).alloc _
  rw [hW3]
  have j0 := (hF3.cell (lt_of_cell k0) (fun h => h)).trans k0
  have j1 := (hF3.cell (lt_of_cell k1) (fun h => h)).trans k1
  have j2 := (hF3.cell (lt_of_cell k2) (fun h => h)).trans k2
  have j3 := (hF3.cell (lt_of_cell k3) (fun h => h)).trans k3
  have j4 := (hF3.cell (lt_of_cell k4) (fun h => h)).trans k4
  refine bodyPost_ret (by simp [results, Tryd.results70, go_sem, j0, j1, j2, j3, j4]; try rfl) rfl ?_
  exact ⟨rfl, hF2.trans hF3 (fun _ _ h => h)⟩
end Go.Proofs.YtocdnomfpgdglaaDoor

namespace Go.Proofs.YtocdnomfpgdglaaDoor
open Go.RowKit

set_option maxRecDepth 100000 in
set_option maxHeartbeats 2000000 in
/-- What a proof says, its first hash the root of the part where SUB ends. -/
theorem ofProof_r (wi m n : Nat) (h0 : 0 < m) (hm : m ≤ n) (hn : n < 9223372036854775808) (he : ¬ (endF 0 n m).1 = 0) (ro : Option Addr) (rn rc : Nat) (g o xn xc : Nat) (vo : Option Addr) (vn vc : Nat) (w : World) (hc : w.cell? ⟨g, o, none⟩ = some (.slice vo vn vc)) (hxc : xn + 1 ≤ xc) (hx1 : ¬ xc = 1) :
    Calls Tryd.prog 70 #[.int .i64 wi, .int .i64 m, .int .i64 n, .slice ro rn rc, .slice (some ⟨g, o, none⟩) (xn + 1) xc] w fun e w' => e = .returned (.tuple #[cv wi (endF 0 n m).1 (endF 0 n m).2 (.slice vo vn vc) (.slice (some ⟨g, o + 1, none⟩) xn (xc - 1)), .bool true]) ∧ Fr (fun _ => False) w w' := by
  have hend := fun w' => end_any n 0 n m w' (Nat.le_refl _) (by omega) h0 (by omega)
  unfold EndSays at hend
  generalize (endF 0 n m).2 = EN at *
  generalize (endF 0 n m).1 = E1 at *
  have q1 : ((E1 : Int) == 0) = false := beq_false_of_ne (by omega)
  have q2 := he
  have q3 : (((xn : Int) + 1) == 0) = false := beq_false_of_ne (by omega)
  have q4 : ¬ (xn : Int) + 1 = 0 := by omega
  have q5 : (0 : Int) < (xn : Int) + 1 := by omega
  have q6 : (1 : Int) ≤ (xn : Int) + 1 := by omega
  have q7 : (1 : Int) ≤ (xc : Int) := by omega
  have q8 : (xn : Int) + 1 ≤ (xc : Int) := by omega
  have q9 : ¬ 1 = xc := fun h => hx1 h.symm
  have HE := hide hend
  clear hend he h0 hm hn
  unfold sv cv at *
  have e0 : ((0 : Nat) : Int) = 0 := rfl
  simp only [e0] at HE ⊢
  clear e0
  go_enter Tryd.func70, Tryd.ntmps70
  go_wp2_with fail
  obtain ⟨W0, hW0⟩ : ∃ W0, w.alloc (.cells #[.int .i64 0, .int .i64 0, .int .i64 0, .slice none 0 0, .slice none 0 0] 71) = W0 := ⟨_, rfl⟩
  rw [hW0]
  obtain ⟨⟨a0, a1, a2, a3, a4⟩, hz, hF0⟩ := nil5 w W0 hW0
  refine ((unhide HE) _).mono ?_
  rintro e w1 ⟨rfl, hF⟩
  have hc1 := ((hF0.trans hF (fun _ _ h => h)).cell (lt_of_cell hc) (fun h => h)).trans hc
  have hgl : g < w1.heap.size := lt_of_cell hc1
  have hgl1 : g < w1.heap.size + 1 := Nat.lt_succ_of_lt hgl
  have hgne : ¬ g = w.heap.size := by have := lt_of_cell hc; exact fun h => by simp at this; omega
  clear hc
  have c0 := (hF.cell (lt_of_cell a0) (fun h => h)).trans a0
  have c1 := (hF.cell (lt_of_cell a1) (fun h => h)).trans a1
  have c2 := (hF.cell (lt_of_cell a2) (fun h => h)).trans a2
  have c3 := (hF.cell (lt_of_cell a3) (fun h => h)).trans a3
  have c4 := (hF.cell (lt_of_cell a4) (fun h => h)).trans a4
  have y0 := (hF.frozen (p := ⟨w.heap.size, 0, none⟩) (lt_of_cell a0) (fun h => h)).trans (hz 0 (by decide))
  have y1 := (hF.frozen (p := ⟨w.heap.size, 1, none⟩) (lt_of_cell a1) (fun h => h)).trans (hz 1 (by decide))
  have y2 := (hF.frozen (p := ⟨w.heap.size, 2, none⟩) (lt_of_cell a2) (fun h => h)).trans (hz 2 (by decide))
  have y3 := (hF.frozen (p := ⟨w.heap.size, 3, none⟩) (lt_of_cell a3) (fun h => h)).trans (hz 3 (by decide))
  have y4 := (hF.frozen (p := ⟨w.heap.size, 4, none⟩) (lt_of_cell a4) (fun h => h)).trans (hz 4 (by decide))
  have HF := hide (hF0.trans hF (fun _ _ h => h))
  have hP : w.heap.size ≤ w.heap.size := Nat.le_refl _
  clear hF hF0 a0 a1 a2 a3 a4 hz hW0
  generalize hPe : w.heap.size = P at *
  have HP := hide hPe
  clear hPe
  have l0 : P < w1.heap.size := lt_of_cell c0
  have l1 : P < w1.heap.size + 1 := Nat.lt_succ_of_lt l0
  go_wp2_with fail
  go_region
  go_wp2_with fail
  obtain ⟨W2, hW2⟩ : ∃ W2, ((((w1.setCell ⟨P, 0, none⟩ (.int .i64 (wi : Int))).setCell ⟨P, 1, none⟩ (.int .i64 (E1 : Int))).setCell ⟨P, 2, none⟩ (.int .i64 (EN : Int))).setCell ⟨P, 3, none⟩ (.slice vo vn vc)).setCell ⟨P, 4, none⟩ (.slice (some ⟨g, o + 1, none⟩) xn (xc - 1)) = W2 := ⟨_, rfl⟩
  obtain ⟨k0, k1, k2, k3, k4⟩ := set5 w1 P _ _ _ _ _ (fun j hj => by
    match j, hj with
    | 0, _ => rw [c0]; rfl
    | 1, _ => rw [c1]; rfl
    | 2, _ => rw [c2]; rfl
    | 3, _ => rw [c3]; rfl
    | 4, _ => rw [c4]; rfl) W2 hW2
  have hPw : w.heap.size ≤ P := Nat.le_of_eq (unhide HP)
  have hF2 : Fr (fun _ => False) w W2 := by
    rw [← hW2]
    exact (((((unhide HF).setCell (p := ⟨P, 0, none⟩) (.inr hPw) _).setCell (p := ⟨P, 1, none⟩) (.inr hPw) _).setCell (p := ⟨P, 2, none⟩) (.inr hPw) _).setCell (p := ⟨P, 3, none⟩) (.inr hPw) _).setCell (p := ⟨P, 4, none⟩) (.inr hPw) _
  rw [hW2]
  obtain ⟨W3, hW3⟩ : ∃ W3, (W2.alloc (.cells #[.int .i64 (E1 : Int), .int .i64 (EN : Int)] 69)).drew = W3 := ⟨_, rfl⟩
  have hF3 : Fr (fun _ => False) W2 W3 := by rw [← hW3]; exact ((Fr.refl _ _).alloc _).drew
  rw [hW3]
  have j0 := (hF3.cell (lt_of_cell k0) (fun h => h)).trans k0
  have j1 := (hF3.cell (lt_of_cell k1) (fun h => h)).trans k1
  have j2 := (hF3.cell (lt_of_cell k2) (fun h => h)).trans k2
  have j3 := (hF3.cell (lt_of_cell k3) (fun h => h)).trans k3
  have j4 := (hF3.cell (lt_of_cell k4) (fun h => h)).trans k4
  refine bodyPost_ret (by simp [results, Tryd.results70, go_sem, j0, j1, j2, j3, j4]; try rfl) rfl ?_
  exact ⟨rfl, hF2.trans hF3 (fun _ _ h => h)⟩
end Go.Proofs.YtocdnomfpgdglaaDoor

namespace Go.Proofs.YtocdnomfpgdglaaDoor
open Go.RowKit

set_option maxRecDepth 100000 in
set_option maxHeartbeats 2000000 in
/-- What a proof says, its one hash the root of the part where SUB ends, in a slice of capacity 1. -/
theorem ofProof_r1 (wi m n : Nat) (h0 : 0 < m) (hm : m ≤ n) (hn : n < 9223372036854775808) (he : ¬ (endF 0 n m).1 = 0) (ro : Option Addr) (rn rc : Nat) (g o : Nat) (vo : Option Addr) (vn vc : Nat) (w : World) (hc : w.cell? ⟨g, o, none⟩ = some (.slice vo vn vc)) :
    Calls Tryd.prog 70 #[.int .i64 wi, .int .i64 m, .int .i64 n, .slice ro rn rc, .slice (some ⟨g, o, none⟩) 1 1] w fun e w' => e = .returned (.tuple #[cv wi (endF 0 n m).1 (endF 0 n m).2 (.slice vo vn vc) (.slice (some ⟨g, o, none⟩) 0 0), .bool true]) ∧ Fr (fun _ => False) w w' := by
  have hend := fun w' => end_any n 0 n m w' (Nat.le_refl _) (by omega) h0 (by omega)
  unfold EndSays at hend
  generalize (endF 0 n m).2 = EN at *
  generalize (endF 0 n m).1 = E1 at *
  have q1 : ((E1 : Int) == 0) = false := beq_false_of_ne (by omega)
  have q2 := he
  have HE := hide hend
  clear hend he h0 hm hn
  unfold sv cv at *
  have e0 : ((0 : Nat) : Int) = 0 := rfl
  simp only [e0] at HE ⊢
  clear e0
  go_enter Tryd.func70, Tryd.ntmps70
  go_wp2_with fail
  obtain ⟨W0, hW0⟩ : ∃ W0, w.alloc (.cells #[.int .i64 0, .int .i64 0, .int .i64 0, .slice none 0 0, .slice none 0 0] 71) = W0 := ⟨_, rfl⟩
  rw [hW0]
  obtain ⟨⟨a0, a1, a2, a3, a4⟩, hz, hF0⟩ := nil5 w W0 hW0
  refine ((unhide HE) _).mono ?_
  rintro e w1 ⟨rfl, hF⟩
  have hc1 := ((hF0.trans hF (fun _ _ h => h)).cell (lt_of_cell hc) (fun h => h)).trans hc
  have hgl : g < w1.heap.size := lt_of_cell hc1
  have hgl1 : g < w1.heap.size + 1 := Nat.lt_succ_of_lt hgl
  have hgne : ¬ g = w.heap.size := by have := lt_of_cell hc; exact fun h => by simp at this; omega
  clear hc
  have c0 := (hF.cell (lt_of_cell a0) (fun h => h)).trans a0
  have c1 := (hF.cell (lt_of_cell a1) (fun h => h)).trans a1
  have c2 := (hF.cell (lt_of_cell a2) (fun h => h)).trans a2
  have c3 := (hF.cell (lt_of_cell a3) (fun h => h)).trans a3
  have c4 := (hF.cell (lt_of_cell a4) (fun h => h)).trans a4
  have y0 := (hF.frozen (p := ⟨w.heap.size, 0, none⟩) (lt_of_cell a0) (fun h => h)).trans (hz 0 (by decide))
  have y1 := (hF.frozen (p := ⟨w.heap.size, 1, none⟩) (lt_of_cell a1) (fun h => h)).trans (hz 1 (by decide))
  have y2 := (hF.frozen (p := ⟨w.heap.size, 2, none⟩) (lt_of_cell a2) (fun h => h)).trans (hz 2 (by decide))
  have y3 := (hF.frozen (p := ⟨w.heap.size, 3, none⟩) (lt_of_cell a3) (fun h => h)).trans (hz 3 (by decide))
  have y4 := (hF.frozen (p := ⟨w.heap.size, 4, none⟩) (lt_of_cell a4) (fun h => h)).trans (hz 4 (by decide))
  have HF := hide (hF0.trans hF (fun _ _ h => h))
  have hP : w.heap.size ≤ w.heap.size := Nat.le_refl _
  clear hF hF0 a0 a1 a2 a3 a4 hz hW0
  generalize hPe : w.heap.size = P at *
  have HP := hide hPe
  clear hPe
  have l0 : P < w1.heap.size := lt_of_cell c0
  have l1 : P < w1.heap.size + 1 := Nat.lt_succ_of_lt l0
  go_wp2_with fail
  go_region
  go_wp2_with fail
  obtain ⟨W2, hW2⟩ : ∃ W2, ((((w1.setCell ⟨P, 0, none⟩ (.int .i64 (wi : Int))).setCell ⟨P, 1, none⟩ (.int .i64 (E1 : Int))).setCell ⟨P, 2, none⟩ (.int .i64 (EN : Int))).setCell ⟨P, 3, none⟩ (.slice vo vn vc)).setCell ⟨P, 4, none⟩ (.slice (some ⟨g, o, none⟩) 0 0) = W2 := ⟨_, rfl⟩
  obtain ⟨k0, k1, k2, k3, k4⟩ := set5 w1 P _ _ _ _ _ (fun j hj => by
    match j, hj with
    | 0, _ => rw [c0]; rfl
    | 1, _ => rw [c1]; rfl
    | 2, _ => rw [c2]; rfl
    | 3, _ => rw [c3]; rfl
    | 4, _ => rw [c4]; rfl) W2 hW2
  have hPw : w.heap.size ≤ P := Nat.le_of_eq (unhide HP)
  have hF2 : Fr (fun _ => False) w W2 := by
    rw [← hW2]
    exact (((((unhide HF).setCell (p := ⟨P, 0, none⟩) (.inr hPw) _).setCell (p := ⟨P, 1, none⟩) (.inr hPw) _).setCell (p := ⟨P, 2, none⟩) (.inr hPw) _).setCell (p := ⟨P, 3, none⟩) (.inr hPw) _).setCell (p := ⟨P, 4, none⟩) (.inr hPw) _
  rw [hW2]
  obtain ⟨W3, hW3⟩ : ∃ W3, (W2.alloc (.cells #[.int .i64 (E1 : Int), .int .i64 (EN : Int)] 69)).drew = W3 := ⟨_, rfl⟩
  have hF3 : Fr (fun _ => False) W2 W3 := by rw [← hW3]; exact ((Fr.refl _ _).alloc _).drew
  rw [hW3]
  have j0 := (hF3.cell (lt_of_cell k0) (fun h => h)).trans k0
  have j1 := (hF3.cell (lt_of_cell k1) (fun h => h)).trans k1
  have j2 := (hF3.cell (lt_of_cell k2) (fun h => h)).trans k2
  have j3 := (hF3.cell (lt_of_cell k3) (fun h => h)).trans k3
  have j4 := (hF3.cell (lt_of_cell k4) (fun h => h)).trans k4
  refine bodyPost_ret (by simp [results, Tryd.results70, go_sem, j0, j1, j2, j3, j4]; try rfl) rfl ?_
  exact ⟨rfl, hF2.trans hF3 (fun _ _ h => h)⟩
end Go.Proofs.YtocdnomfpgdglaaDoor

namespace Go.Proofs.YtocdnomfpgdglaaDoor
open Go.RowKit

/-- Whether hashes say of a part that the older root and the root come out of them. -/
def bodyQ (wi n ef en : Nat) (r : List Nat) (qs : List (List Nat)) (old root : List Nat) : Bool :=
  decide (qs.length = dep 0 n ef en) && (decide (olderv wi r 0 n ef en qs = old) && decide (topv wi r 0 n ef en qs = root))
def prfQ (wi n m : Nat) (old root : List Nat) (ps : List (List Nat)) : Bool :=
  if (endF 0 n m).1 = 0 then bodyQ wi n (endF 0 n m).1 (endF 0 n m).2 old ps old root
  else match ps with
    | [] => false
    | p :: q => bodyQ wi n (endF 0 n m).1 (endF 0 n m).2 p q old root
/-- Whether CheckProof takes a proof. -/
def chkQ (j m n : Int) (old root : List Nat) (ps : List (List Nat)) : Bool :=
  decide (1 ≤ j ∧ j ≤ 32) && (decide (0 ≤ m) && (decide (m ≤ n) && (wdq j [old, root] && (wdq j ps &&
    (if m = 0 then decide (ps = []) && (decide (old = sm j []) && (decide (0 < n) || decide (root = sm j []))) else prfQ j.toNat n.toNat m.toNat old root ps)))))
/-- The claim that a proof makes. -/
theorem ofProof_any (wi m n : Nat) (h0 : 0 < m) (hm : m ≤ n) (hn : n < 9223372036854775808) (ov x : Value) (old root : List Nat) (vs : List Value) (ps : List (List Nat)) (w : World) (ho : Sl w ov old) (hp : Pcs w x vs ps) (hcx : Cp x) (how : old.length = wi) (hpw : ∀ p ∈ ps, p.length = wi) (h : (endF 0 n m).1 = 0 ∨ ps ≠ []) :
    ∃ (ro : Option Addr) (rn rc : Nat) (yo : Option Addr) (yc : Nat) (r : List Nat) (us : List Value) (qs : List (List Nat)), Sl w (.slice ro rn rc) r ∧ r.length = wi ∧ Pcs w (.slice yo qs.length yc) us qs ∧ Cp (.slice yo qs.length yc) ∧ (∀ p ∈ qs, p.length = wi) ∧ prfQ wi n m old root ps = bodyQ wi n (endF 0 n m).1 (endF 0 n m).2 r qs old root ∧
      ∀ w', Fr (fun _ => False) w w' → Calls Tryd.prog 70 #[.int .i64 wi, .int .i64 m, .int .i64 n, ov, x] w' fun e w'' => e = .returned (.tuple #[cv wi (endF 0 n m).1 (endF 0 n m).2 (.slice ro rn rc) (.slice yo qs.length yc), .bool true]) ∧ Fr (fun _ => False) w' w'' := by
  obtain ⟨oo, oc, rfl⟩ := ho.form
  obtain ⟨xo, xc, rfl⟩ := hp.form
  by_cases he : (endF 0 n m).1 = 0
  · exact ⟨oo, old.length, oc, xo, xc, old, vs, ps, ho, how, hp, hcx, hpw, by unfold prfQ; rw [if_pos he], fun w' _ => ofProof_l wi m n h0 hm hn he oo _ oc xo _ xc w'⟩
  · have hne := h.resolve_left he
    match ps, hne with
    | p :: q, _ =>
      obtain ⟨g, o, vo, vc, rfl, hc, hs⟩ := hp.nth (Fr.refl _ _) 0 (by simp)
      have hcap : q.length + 1 ≤ xc := hcx _ _ _ rfl
      simp only [List.getElem_cons_zero, Nat.add_zero] at hc hs
      have e : prfQ wi n m old root (p :: q) = bodyQ wi n (endF 0 n m).1 (endF 0 n m).2 p q old root := by unfold prfQ; rw [if_neg he]
      by_cases h1 : xc = 1
      · have hq : q = [] := List.length_eq_zero_iff.1 (by omega)
        subst h1 hq
        refine ⟨vo, p.length, vc, some ⟨g, o, none⟩, 0, p, [], [], hs, hpw p (by simp), ⟨rfl, .inr (.inl ⟨_, _, rfl, rfl⟩), (fun j v p h => by simp at h), (fun p h => by cases h)⟩, (fun _ _ _ e => by cases e; exact Nat.le_refl _), (fun p h => by cases h), e, fun w' hf => ?_⟩
        exact ofProof_r1 wi m n h0 hm hn he oo _ oc g o vo _ vc w' ((hf.cell (lt_of_cell hc) (fun h => h)).trans hc)
      · have hP : Pcs w (.slice (some ⟨g, o + 1, none⟩) q.length (xc - 1)) (vs.drop 1) q := by
          by_cases hq : q.length = 0
          · have hq0 : q = [] := List.length_eq_zero_iff.1 hq
            subst hq0
            have hv : vs.drop 1 = [] := List.length_eq_zero_iff.1 (by rw [List.length_drop, hp.len]; rfl)
            rw [hv]
            exact ⟨rfl, .inr (.inl ⟨_, _, rfl, rfl⟩), (fun j v p h => by simp at h), (fun p h => by cases h)⟩
          · exact hp.drop 1 (by simp; omega)
        refine ⟨vo, p.length, vc, some ⟨g, o + 1, none⟩, xc - 1, p, vs.drop 1, q, hs, hpw p (by simp), hP, fun _ _ _ e => by cases e; omega, fun p' h => hpw p' (by simp [h]), e, fun w' hf => ?_⟩
        exact ofProof_r wi m n h0 hm hn he oo _ oc g o q.length xc vo _ vc w' ((hf.cell (lt_of_cell hc) (fun h => h)).trans hc) hcap h1
end Go.Proofs.YtocdnomfpgdglaaDoor

namespace Go.Proofs.YtocdnomfpgdglaaDoor
open Go.RowKit

set_option maxRecDepth 100000 in
set_option maxHeartbeats 2000000 in
/-- CheckProof, from nothing on. -/
theorem cpr_zero (wi : Nat) (hw1 : 1 ≤ wi) (hw32 : wi ≤ 32) (N : Nat) (oo : Option Addr) (oc : Nat) (rr : Option Addr) (rc : Nat) (xo : Option Addr) (xc : Nat) (old root : List Nat) (ps : List (List Nat)) (w : World) (hg : GS w) (ho : Sl w (.slice oo old.length oc) old) (hr : Sl w (.slice rr root.length rc) root)
    (W1 : World) (hW1 : w.alloc (.cells #[.slice oo old.length oc, .slice rr root.length rc] 26) = W1) (hF1 : Fr (fun _ => False) w W1)
    (hwd1 : Calls Tryd.prog 49 #[.int .i64 wi, .slice (some ⟨w.heap.size, 0, none⟩) 2 2] W1 fun e w' => e = .returned (.bool true) ∧ w' = W1)
    (hwd2 : Calls Tryd.prog 49 #[.int .i64 wi, .slice xo ps.length xc] W1 fun e w' => e = .returned (.bool true) ∧ w' = W1) :
    Calls Tryd.prog 36 #[.int .i64 wi, .int .i64 0, .int .i64 N, .slice oo old.length oc, .slice rr root.length rc, .slice xo ps.length xc] w fun e w' => e = .returned (.bool (decide (ps = []) && (decide (old = sm wi []) && (decide (0 < (N : Int)) || decide (root = sm wi []))))) ∧ Fr (fun _ => False) w w' := by
  have hsum : ∀ w', GS w' → Calls Tryd.prog 46 #[.int .i64 wi, .slice none 0 0] w' fun e w'' => ∃ yo, e = .returned (.slice yo wi wi) ∧ Sl w'' (.slice yo wi wi) (sm wi []) ∧ Fr (fun _ => False) w' w'' := fun w' hg => by
    have := sum_O (wi : Int) [] (.slice none 0 0) w' hg (.inl ⟨rfl, rfl⟩) (fun _ h => by cases h) (by simp) (fun _ _ _ e => by cases e; exact Nat.le_refl _) (fun _ _ _ _ e => by cases e)
    have hl := sm_wid wi hw1 hw32 []
    refine this.mono ?_
    rintro e w'' ⟨yo, rfl, hO⟩
    have hs := hO.sl (sm_lt _ _)
    rw [hl] at hs ⊢
    exact ⟨yo, rfl, hs, hO.fr⟩
  have HM := hide (show 1 ≤ (wi : Int) ∧ (wi : Int) ≤ 32 by omega)
  have HC := hide (And.intro hwd1 (And.intro hwd2 (And.intro hF1 (And.intro (hg.fr0 hF1) (And.intro (ho.fr0 hF1) (And.intro (hr.fr0 hF1) hsum))))))
  have q0 : ¬ (N : Int) < 0 := by omega
  clear hwd1 hwd2 hF1 hg ho hr hsum hw1 hw32
  generalize sm (wi : Int) [] = SM at *
  by_cases hps : ps = []
  · subst hps
    simp only [List.length_nil, decide_true, Bool.true_and] at HC ⊢
    obtain ⟨B1, hB1⟩ : ∃ B1, decide (old = SM) = B1 := ⟨_, rfl⟩
    obtain ⟨B2, hB2⟩ : ∃ B2, decide (root = SM) = B2 := ⟨_, rfl⟩
    rw [hB1, hB2]
    have HB := hide (And.intro hB1 hB2)
    clear hB1 hB2
    generalize old.length = OL at *
    generalize root.length = RL at *
    cases B1 with
    | false =>
      rw [Bool.false_and]
      go_enter Tryd.func36, Tryd.ntmps36
      go_wp2_with (go_at_call 48; refine (maybe_any wi _).mono ?_; rintro e' w' ⟨rfl, hw'⟩; rw [hw', decide_eq_true (unhide HM)])
      refine (unhide HC).1.mono ?_
      rintro e' w2 ⟨rfl, rfl⟩
      go_wp2_with fail
      refine (unhide HC).2.1.mono ?_
      rintro e' w3 ⟨rfl, rfl⟩
      go_wp2_with fail
      refine ((unhide HC).2.2.2.2.2.2 _ (unhide HC).2.2.2.1).mono ?_
      rintro e' w4 ⟨zo, rfl, hS, hF⟩
      have HS := hide (And.intro hS (And.intro ((unhide HC).2.2.1.trans hF (fun _ _ h => h)) (And.intro ((unhide HC).2.2.2.2.1.fr0 hF) ((unhide HC).2.2.2.2.2.1.fr0 hF))))
      clear hS hF
      go_wp2_with fail
      refine (beq_sl _ _ _ _ _ (unhide HS).2.2.1 (unhide HS).1).mono ?_
      rintro e' w5 ⟨rfl, rfl⟩
      rw [(unhide HB).1]
      go_wp2_with fail
      go_ret
      exact ⟨rfl, (unhide HS).2.1⟩
    | true =>
      rw [Bool.true_and]
      by_cases hN : 0 < N
      · have q1 : (0 : Int) < (N : Int) := by omega
        rw [decide_eq_true q1, Bool.true_or]
        go_enter Tryd.func36, Tryd.ntmps36
        go_wp2_with (go_at_call 48; refine (maybe_any wi _).mono ?_; rintro e' w' ⟨rfl, hw'⟩; rw [hw', decide_eq_true (unhide HM)])
        refine (unhide HC).1.mono ?_
        rintro e' w2 ⟨rfl, rfl⟩
        go_wp2_with fail
        refine (unhide HC).2.1.mono ?_
        rintro e' w3 ⟨rfl, rfl⟩
        go_wp2_with fail
        refine ((unhide HC).2.2.2.2.2.2 _ (unhide HC).2.2.2.1).mono ?_
        rintro e' w4 ⟨zo, rfl, hS, hF⟩
        have HS := hide (And.intro hS (And.intro ((unhide HC).2.2.1.trans hF (fun _ _ h => h)) (And.intro ((unhide HC).2.2.2.2.1.fr0 hF) ((unhide HC).2.2.2.2.2.1.fr0 hF))))
        clear hS hF
        go_wp2_with fail
        refine (beq_sl _ _ _ _ _ (unhide HS).2.2.1 (unhide HS).1).mono ?_
        rintro e' w5 ⟨rfl, rfl⟩
        rw [(unhide HB).1]
        go_wp2_with fail
        go_ret
        exact ⟨rfl, (unhide HS).2.1⟩
      · have hN0 : N = 0 := by omega
        subst hN0
        have e0 : decide (0 < ((0 : Nat) : Int)) = false := rfl
        rw [e0, Bool.false_or]
        clear e0 q0 hN
        go_enter Tryd.func36, Tryd.ntmps36
        go_wp2_with (go_at_call 48; refine (maybe_any wi _).mono ?_; rintro e' w' ⟨rfl, hw'⟩; rw [hw', decide_eq_true (unhide HM)])
        refine (unhide HC).1.mono ?_
        rintro e' w2 ⟨rfl, rfl⟩
        go_wp2_with fail
        refine (unhide HC).2.1.mono ?_
        rintro e' w3 ⟨rfl, rfl⟩
        go_wp2_with fail
        refine ((unhide HC).2.2.2.2.2.2 _ (unhide HC).2.2.2.1).mono ?_
        rintro e' w4 ⟨zo, rfl, hS, hF⟩
        have HS := hide (And.intro hS (And.intro ((unhide HC).2.2.1.trans hF (fun _ _ h => h)) (And.intro ((unhide HC).2.2.2.2.1.fr0 hF) ((unhide HC).2.2.2.2.2.1.fr0 hF))))
        clear hS hF
        go_wp2_with fail
        refine (beq_sl _ _ _ _ _ (unhide HS).2.2.1 (unhide HS).1).mono ?_
        rintro e' w5 ⟨rfl, rfl⟩
        rw [(unhide HB).1]
        go_wp2_with fail
        refine (beq_sl _ _ _ _ _ (unhide HS).2.2.2 (unhide HS).1).mono ?_
        rintro e' w6 ⟨rfl, rfl⟩
        rw [(unhide HB).2]
        go_wp2_with fail
        go_ret
        exact ⟨rfl, (unhide HS).2.1⟩
  · rw [decide_eq_false hps, Bool.false_and]
    have hl : ¬ ps.length = 0 := fun h => hps (List.length_eq_zero_iff.1 h)
    have q1 : ((ps.length : Int) == 0) = false := beq_false_of_ne (by omega)
    generalize ps.length = PL at *
    generalize old.length = OL at *
    generalize root.length = RL at *
    go_enter Tryd.func36, Tryd.ntmps36
    go_wp2_with (go_at_call 48; refine (maybe_any wi _).mono ?_; rintro e' w' ⟨rfl, hw'⟩; rw [hw', decide_eq_true (unhide HM)])
    refine (unhide HC).1.mono ?_
    rintro e' w2 ⟨rfl, rfl⟩
    go_wp2_with fail
    refine (unhide HC).2.1.mono ?_
    rintro e' w3 ⟨rfl, rfl⟩
    go_wp2_with fail
    refine ((unhide HC).2.2.2.2.2.2 _ (unhide HC).2.2.2.1).mono ?_
    rintro e' w4 ⟨zo, rfl, hS, hF⟩
    have HS := hide ((unhide HC).2.2.1.trans hF (fun _ _ h => h))
    clear hS hF
    go_wp2_with fail
    go_ret
    exact ⟨rfl, unhide HS⟩
end Go.Proofs.YtocdnomfpgdglaaDoor

namespace Go.Proofs.YtocdnomfpgdglaaDoor
open Go.RowKit

set_option maxRecDepth 100000 in
set_option maxHeartbeats 4000000 in
/-- CheckProof, of a claim. -/
theorem cpr_yes (wi m N tf tn : Nat) (hw : 1 ≤ wi ∧ wi ≤ 32) (hm0 : 0 < m) (hmN : m ≤ N) (oo : Option Addr) (on oc : Nat) (rr : Option Addr) (rl rrc : Nat) (xo : Option Addr) (xn xc : Nat) (ro : Option Addr) (rn rc : Nat) (yo : Option Addr) (yn yc D : Nat) (old root OV TV : List Nat) (w W1 : World) (hW1 : w.alloc (.cells #[.slice oo on oc, .slice rr rl rrc] 26) = W1) (hF1 : Fr (fun _ => False) w W1)
    (ho : Sl w (.slice oo on oc) old) (hr : Sl w (.slice rr rl rrc) root)
    (hwd1 : Calls Tryd.prog 49 #[.int .i64 wi, .slice (some ⟨w.heap.size, 0, none⟩) 2 2] W1 fun e w' => e = .returned (.bool true) ∧ w' = W1)
    (hwd2 : Calls Tryd.prog 49 #[.int .i64 wi, .slice xo xn xc] W1 fun e w' => e = .returned (.bool true) ∧ w' = W1)
    (hop : Calls Tryd.prog 70 #[.int .i64 wi, .int .i64 m, .int .i64 N, .slice oo on oc, .slice xo xn xc] W1 fun e w'' => e = .returned (.tuple #[cv wi tf tn (.slice ro rn rc) (.slice yo yn yc), .bool true]) ∧ Fr (fun _ => False) W1 w'')
    (hft : ∀ w', Calls Tryd.prog 51 #[cv wi tf tn (.slice ro rn rc) (.slice yo yn yc), sv 0 N] w' fun e w'' => e = .returned (.bool (decide (yn = D))) ∧ Fr (fun _ => False) w' w'')
    (hod : yn = D → ∀ w', Fr (fun _ => False) w w' → Calls Tryd.prog 71 #[cv wi tf tn (.slice ro rn rc) (.slice yo yn yc), sv 0 N] w' fun e w'' => ∃ uo un uc, e = .returned (.slice uo un uc) ∧ Sl w'' (.slice uo un uc) OV ∧ Fr (fun _ => False) w' w'')
    (htp : yn = D → ∀ w', Fr (fun _ => False) w w' → Calls Tryd.prog 53 #[cv wi tf tn (.slice ro rn rc) (.slice yo yn yc), sv 0 N] w' fun e w'' => ∃ uo un uc, e = .returned (.slice uo un uc) ∧ Sl w'' (.slice uo un uc) TV ∧ Fr (fun _ => False) w' w'') :
    Calls Tryd.prog 36 #[.int .i64 wi, .int .i64 m, .int .i64 N, .slice oo on oc, .slice rr rl rrc, .slice xo xn xc] w fun e w' => e = .returned (.bool (decide (yn = D) && (decide (OV = old) && decide (TV = root)))) ∧ Fr (fun _ => False) w w' := by
  have HM := hide (show 1 ≤ (wi : Int) ∧ (wi : Int) ≤ 32 by omega)
  have q1 : ¬ (m : Int) < 0 := by omega
  have q2 : ¬ (N : Int) < (m : Int) := by omega
  have q3 : ((m : Int) == 0) = false := beq_false_of_ne (by omega)
  have q4 : ¬ N < m := by omega
  have q5 : ¬ m = 0 := by omega
  clear hw hm0 hmN
  unfold cv sv at *
  have e0 : ((0 : Nat) : Int) = 0 := rfl
  simp only [e0] at hft hod htp
  clear e0
  by_cases hD : yn = D
  · rw [decide_eq_true hD] at hft ⊢
    rw [Bool.true_and]
    have ho2 := hod hD
    have ht2 := htp hD
    obtain ⟨B1, hB1⟩ : ∃ B1, decide (OV = old) = B1 := ⟨_, rfl⟩
    obtain ⟨B2, hB2⟩ : ∃ B2, decide (TV = root) = B2 := ⟨_, rfl⟩
    rw [hB1, hB2]
    have HB0 := hide (And.intro hB1 hB2)
    have HC := hide (And.intro hwd1 (And.intro hwd2 (And.intro hop (And.intro hF1 (And.intro hft (And.intro ho2 (And.intro ht2 (And.intro ho hr))))))))
    clear hwd1 hwd2 hop hft ho2 ht2 ho hr hod htp hF1 hB1 hB2 hD
    cases B1 with
    | false =>
      rw [Bool.false_and]
      go_enter Tryd.func36, Tryd.ntmps36
      go_wp2_with (go_at_call 48; refine (maybe_any wi _).mono ?_; rintro e' w' ⟨rfl, hw'⟩; rw [hw', decide_eq_true (unhide HM)])
      refine (unhide HC).1.mono ?_
      rintro e' w2 ⟨rfl, rfl⟩
      go_wp2_with fail
      refine (unhide HC).2.1.mono ?_
      rintro e' w3 ⟨rfl, rfl⟩
      go_wp2_with fail
      refine (unhide HC).2.2.1.mono ?_
      rintro e' wA ⟨rfl, hFA⟩
      have HA := hide ((unhide HC).2.2.2.1.trans hFA (fun _ _ h => h))
      clear hFA
      go_wp2_with fail
      obtain ⟨W2, hW2⟩ : ∃ W2, (wA.alloc (.cells #[.int .i64 wi, .int .i64 tf, .int .i64 tn, .slice ro rn rc, .slice yo yn yc] 71)).alloc (.cells #[.int .i64 0, .int .i64 N] 69) = W2 := ⟨_, rfl⟩
      rw [hW2]
      obtain ⟨⟨a0, a1, a2, a3, a4⟩, b0, b1, hF2⟩ := box52 wA _ _ _ _ _ _ _ _ _ W2 hW2
      refine ((unhide HC).2.2.2.2.1 _).mono ?_
      rintro e' wB ⟨rfl, hFB⟩
      have c0 := (hFB.cell (lt_of_cell a0) (fun h => h)).trans a0
      have c1 := (hFB.cell (lt_of_cell a1) (fun h => h)).trans a1
      have c2 := (hFB.cell (lt_of_cell a2) (fun h => h)).trans a2
      have c3 := (hFB.cell (lt_of_cell a3) (fun h => h)).trans a3
      have c4 := (hFB.cell (lt_of_cell a4) (fun h => h)).trans a4
      have d0 := (hFB.cell (lt_of_cell b0) (fun h => h)).trans b0
      have d1 := (hFB.cell (lt_of_cell b1) (fun h => h)).trans b1
      have HB := hide (((unhide HA).trans hF2 (fun _ _ h => h)).trans hFB (fun _ _ h => h))
      clear hF2 hFB hW2 a0 a1 a2 a3 a4 b0 b1 HA
      generalize wA.heap.size = P at *
      go_wp2_with fail
      refine ((unhide HC).2.2.2.2.2.1 _ (unhide HB)).mono ?_
      rintro e' wC ⟨uo, un, uc, rfl, hS, hFC⟩
      have HS := hide (And.intro hS ((unhide HB).trans hFC (fun _ _ h => h)))
      clear hS hFC
      go_wp2_with fail
      refine (beq_sl _ _ _ _ _ (unhide HS).1 ((unhide HC).2.2.2.2.2.2.2.1.fr0 (unhide HS).2)).mono ?_
      rintro e' wD ⟨rfl, rfl⟩
      rw [(unhide HB0).1]
      go_wp2_with fail
      go_ret
      exact ⟨rfl, (unhide HS).2⟩
    | true =>
      rw [Bool.true_and]
      go_enter Tryd.func36, Tryd.ntmps36
      go_wp2_with (go_at_call 48; refine (maybe_any wi _).mono ?_; rintro e' w' ⟨rfl, hw'⟩; rw [hw', decide_eq_true (unhide HM)])
      refine (unhide HC).1.mono ?_
      rintro e' w2 ⟨rfl, rfl⟩
      go_wp2_with fail
      refine (unhide HC).2.1.mono ?_
      rintro e' w3 ⟨rfl, rfl⟩
      go_wp2_with fail
      refine (unhide HC).2.2.1.mono ?_
      rintro e' wA ⟨rfl, hFA⟩
      have HA := hide ((unhide HC).2.2.2.1.trans hFA (fun _ _ h => h))
      clear hFA
      go_wp2_with fail
      obtain ⟨W2, hW2⟩ : ∃ W2, (wA.alloc (.cells #[.int .i64 wi, .int .i64 tf, .int .i64 tn, .slice ro rn rc, .slice yo yn yc] 71)).alloc (.cells #[.int .i64 0, .int .i64 N] 69) = W2 := ⟨_, rfl⟩
      rw [hW2]
      obtain ⟨⟨a0, a1, a2, a3, a4⟩, b0, b1, hF2⟩ := box52 wA _ _ _ _ _ _ _ _ _ W2 hW2
      refine ((unhide HC).2.2.2.2.1 _).mono ?_
      rintro e' wB ⟨rfl, hFB⟩
      have c0 := (hFB.cell (lt_of_cell a0) (fun h => h)).trans a0
      have c1 := (hFB.cell (lt_of_cell a1) (fun h => h)).trans a1
      have c2 := (hFB.cell (lt_of_cell a2) (fun h => h)).trans a2
      have c3 := (hFB.cell (lt_of_cell a3) (fun h => h)).trans a3
      have c4 := (hFB.cell (lt_of_cell a4) (fun h => h)).trans a4
      have d0 := (hFB.cell (lt_of_cell b0) (fun h => h)).trans b0
      have d1 := (hFB.cell (lt_of_cell b1) (fun h => h)).trans b1
      have HB := hide (((unhide HA).trans hF2 (fun _ _ h => h)).trans hFB (fun _ _ h => h))
      clear hF2 hFB hW2 a0 a1 a2 a3 a4 b0 b1 HA
      generalize wA.heap.size = P at *
      go_wp2_with fail
      refine ((unhide HC).2.2.2.2.2.1 _ (unhide HB)).mono ?_
      rintro e' wC ⟨uo, un, uc, rfl, hS, hFC⟩
      have f0 := (hFC.cell (lt_of_cell c0) (fun h => h)).trans c0
      have f1 := (hFC.cell (lt_of_cell c1) (fun h => h)).trans c1
      have f2 := (hFC.cell (lt_of_cell c2) (fun h => h)).trans c2
      have f3 := (hFC.cell (lt_of_cell c3) (fun h => h)).trans c3
      have f4 := (hFC.cell (lt_of_cell c4) (fun h => h)).trans c4
      have g0 := (hFC.cell (lt_of_cell d0) (fun h => h)).trans d0
      have g1 := (hFC.cell (lt_of_cell d1) (fun h => h)).trans d1
      have HS := hide (And.intro hS ((unhide HB).trans hFC (fun _ _ h => h)))
      clear hS hFC c0 c1 c2 c3 c4 d0 d1
      go_wp2_with fail
      refine (beq_sl _ _ _ _ _ (unhide HS).1 ((unhide HC).2.2.2.2.2.2.2.1.fr0 (unhide HS).2)).mono ?_
      rintro e' wD ⟨rfl, rfl⟩
      rw [(unhide HB0).1]
      go_wp2_with fail
      refine ((unhide HC).2.2.2.2.2.2.1 _ (unhide HS).2).mono ?_
      rintro e' wE ⟨to, tl, tc, rfl, hS, hFE⟩
      have HT := hide (And.intro hS ((unhide HS).2.trans hFE (fun _ _ h => h)))
      clear hS hFE
      go_wp2_with fail
      refine (beq_sl _ _ _ _ _ (unhide HT).1 ((unhide HC).2.2.2.2.2.2.2.2.fr0 (unhide HT).2)).mono ?_
      rintro e' wF ⟨rfl, rfl⟩
      rw [(unhide HB0).2]
      go_wp2_with fail
      go_ret
      exact ⟨rfl, (unhide HT).2⟩
  · rw [decide_eq_false hD] at hft ⊢
    rw [Bool.false_and]
    have HC := hide (And.intro hwd1 (And.intro hwd2 (And.intro hop (And.intro hF1 hft))))
    clear hwd1 hwd2 hop hft ho hr hod htp hF1 hD
    go_enter Tryd.func36, Tryd.ntmps36
    go_wp2_with (go_at_call 48; refine (maybe_any wi _).mono ?_; rintro e' w' ⟨rfl, hw'⟩; rw [hw', decide_eq_true (unhide HM)])
    refine (unhide HC).1.mono ?_
    rintro e' w2 ⟨rfl, rfl⟩
    go_wp2_with fail
    refine (unhide HC).2.1.mono ?_
    rintro e' w3 ⟨rfl, rfl⟩
    go_wp2_with fail
    refine (unhide HC).2.2.1.mono ?_
    rintro e' wA ⟨rfl, hFA⟩
    have HA := hide ((unhide HC).2.2.2.1.trans hFA (fun _ _ h => h))
    clear hFA
    go_wp2_with fail
    refine ((unhide HC).2.2.2.2 _).mono ?_
    rintro e' wB ⟨rfl, hFB⟩
    have HB := hide ((unhide HA).trans ((((Fr.refl _ _).alloc _).alloc _).trans hFB (fun _ _ h => h)) (fun _ _ h => h))
    clear hFB
    go_wp2_with fail
    go_ret
    exact ⟨rfl, unhide HB⟩
end Go.Proofs.YtocdnomfpgdglaaDoor

namespace Go.Proofs.YtocdnomfpgdglaaDoor
open Go.RowKit

set_option maxRecDepth 100000 in
set_option maxHeartbeats 2000000 in
/-- merkle.CheckProof. -/
theorem checkProof_any (j m n : Int) (ov rv x : Value) (old root : List Nat) (vs : List Value) (ps : List (List Nat)) (w : World) (hg : GS w) (ho : Sl w ov old) (hr : Sl w rv root) (hp : Pcs w x vs ps) (hcx : Cp x) (hn : n < 9223372036854775808) (hps : ps.length < 4611686018427387904) :
    Calls Tryd.prog 36 #[.int .i64 j, .int .i64 m, .int .i64 n, ov, rv, x] w fun e w' => e = .returned (.bool (chkQ j m n old root ps)) ∧ Fr (fun _ => False) w w' := by
  obtain ⟨oo, oc, rfl⟩ := ho.form
  obtain ⟨rr, rc, rfl⟩ := hr.form
  obtain ⟨xo, xc, rfl⟩ := hp.form
  by_cases h1o : j < 1 ∨ 32 < j
  · have h1 : ¬ (1 ≤ j ∧ j ≤ 32) := by omega
    have hB : chkQ j m n old root ps = false := by rw [chkQ, decide_eq_false h1]; rfl
    rw [hB]
    have HM := hide h1
    clear hg ho hr hp hcx hn hps hB h1 h1o
    generalize old.length = LL at *
    generalize root.length = RL at *
    generalize ps.length = PL at *
    go_enter Tryd.func36, Tryd.ntmps36
    go_wp2_with (go_at_call 48; refine (maybe_any j _).mono ?_; rintro e' w' ⟨rfl, hw'⟩; rw [hw', decide_eq_false (unhide HM)])
    go_ret
    exact ⟨rfl, Fr.refl _ _⟩
  · have h1 : 1 ≤ j ∧ j ≤ 32 := by omega
    clear h1o
    have HM := hide h1
    by_cases h2' : m < 0
    · have h2 : ¬ 0 ≤ m := by omega
      have hB : chkQ j m n old root ps = false := by rw [chkQ, decide_eq_true h1, decide_eq_false h2]; rfl
      rw [hB]
      clear hg ho hr hp hcx hn hps hB h1
      generalize old.length = LL at *
      generalize root.length = RL at *
      generalize ps.length = PL at *
      go_enter Tryd.func36, Tryd.ntmps36
      go_wp2_with (go_at_call 48; refine (maybe_any j _).mono ?_; rintro e' w' ⟨rfl, hw'⟩; rw [hw', decide_eq_true (unhide HM)])
      go_ret
      exact ⟨rfl, Fr.refl _ _⟩
    · have h2 : 0 ≤ m := by omega
      by_cases h3' : n < m
      · have h3 : ¬ m ≤ n := by omega
        have hB : chkQ j m n old root ps = false := by rw [chkQ, decide_eq_true h1, decide_eq_true h2, decide_eq_false h3]; rfl
        rw [hB]
        clear hg ho hr hp hcx hn hps hB h1
        generalize old.length = LL at *
        generalize root.length = RL at *
        generalize ps.length = PL at *
        go_enter Tryd.func36, Tryd.ntmps36
        go_wp2_with (go_at_call 48; refine (maybe_any j _).mono ?_; rintro e' w' ⟨rfl, hw'⟩; rw [hw', decide_eq_true (unhide HM)])
        go_ret
        exact ⟨rfl, Fr.refl _ _⟩
      · have h3 : m ≤ n := by omega
        clear h2' h3'
        obtain ⟨wi, rfl⟩ : ∃ k : Nat, j = (k : Int) := ⟨j.toNat, by omega⟩
        obtain ⟨I, rfl⟩ : ∃ k : Nat, m = (k : Int) := ⟨m.toNat, by omega⟩
        obtain ⟨N, rfl⟩ : ∃ k : Nat, n = (k : Int) := ⟨n.toNat, by omega⟩
        have h2' : ¬ (I : Int) < 0 := by omega
        have h3' : ¬ (N : Int) < (I : Int) := by omega
        have h4' : ¬ N < I := by omega
        obtain ⟨W1, hW1⟩ : ∃ W1, w.alloc (.cells #[.slice oo old.length oc, .slice rr root.length rc] 26) = W1 := ⟨_, rfl⟩
        have hF1 : Fr (fun _ => False) w W1 := by rw [← hW1]; exact (Fr.refl _ _).alloc _
        have hwd1 := wide_any wi _ _ [old, root] W1 (pcs2 ho hr W1 hW1) (by simp)
        have hwd2 := wide_any wi _ vs ps W1 (hp.fr0 hF1) hps
        have hce : chkQ wi I N old root ps = (wdq wi [old, root] && (wdq wi ps && (if (I : Int) = 0 then decide (ps = []) && (decide (old = sm wi []) && (decide (0 < (N : Int)) || decide (root = sm wi []))) else prfQ wi N I old root ps))) := by
          rw [chkQ, decide_eq_true h1, decide_eq_true h2, decide_eq_true h3]; rfl
        rw [hce]
        clear hce
        cases hq1 : wdq wi [old, root] with
        | false =>
          rw [hq1] at hwd1
          rw [Bool.false_and]
          have HC := hide (And.intro hwd1 hF1)
          clear hg ho hr hp hcx hn hps h1 h2 h3 hwd1 hwd2 hF1 hq1
          generalize old.length = LL at *
          generalize root.length = RL at *
          generalize ps.length = PL at *
          go_enter Tryd.func36, Tryd.ntmps36
          go_wp2_with (go_at_call 48; refine (maybe_any wi _).mono ?_; rintro e' w' ⟨rfl, hw'⟩; rw [hw', decide_eq_true (unhide HM)])
          refine (unhide HC).1.mono ?_
          rintro e' w2 ⟨rfl, rfl⟩
          go_wp2_with fail
          go_ret
          exact ⟨rfl, (unhide HC).2⟩
        | true =>
          rw [hq1] at hwd1
          rw [Bool.true_and]
          cases hq2 : wdq wi ps with
          | false =>
            rw [hq2] at hwd2
            rw [Bool.false_and]
            have HC := hide (And.intro hwd1 (And.intro hwd2 hF1))
            clear hg ho hr hp hcx hn hps h1 h2 h3 hwd1 hwd2 hF1 hq1 hq2
            generalize old.length = LL at *
            generalize root.length = RL at *
            generalize ps.length = PL at *
            go_enter Tryd.func36, Tryd.ntmps36
            go_wp2_with (go_at_call 48; refine (maybe_any wi _).mono ?_; rintro e' w' ⟨rfl, hw'⟩; rw [hw', decide_eq_true (unhide HM)])
            refine (unhide HC).1.mono ?_
            rintro e' w2 ⟨rfl, rfl⟩
            go_wp2_with fail
            refine (unhide HC).2.1.mono ?_
            rintro e' w3 ⟨rfl, rfl⟩
            go_wp2_with fail
            go_ret
            exact ⟨rfl, (unhide HC).2.2⟩
          | true =>
            rw [hq2] at hwd2
            rw [Bool.true_and]
            have how : old.length = wi := by have := wdq_true hq1 old (by simp); omega
            have hpw : ∀ p ∈ ps, p.length = wi := fun p hp => by have := wdq_true hq2 p hp; omega
            by_cases hI : I = 0
            · subst hI
              rw [if_pos (show ((0 : Nat) : Int) = 0 from rfl)]
              exact cpr_zero wi (by omega) (by omega) N oo oc rr rc xo xc old root ps w hg ho hr W1 hW1 hF1 hwd1 hwd2
            · rw [if_neg (by omega)]
              obtain ⟨i1, i2, i3, i4, i5⟩ := endF_ok N 0 N I (Nat.le_refl _) (by omega) (by omega)
              by_cases hend : (endF 0 N I).1 = 0 ∨ ps ≠ []
              · obtain ⟨ro, rn, rc', yo, yc, r, us, qs, s1, s2, s3, s4, s5, s6, s7⟩ := ofProof_any wi I N (by omega) (by omega) (by omega) _ _ old root vs ps w ho hp hcx how hpw hend
                rw [s6, bodyQ]
                exact cpr_yes wi I N _ _ (by omega) (by omega) (by omega) oo _ oc rr _ rc xo _ xc ro rn rc' yo qs.length yc _ old root _ _ w W1 hW1 hF1 ho hr hwd1 hwd2 (s7 W1 hF1) (fun w' => fits_any wi 0 N _ _ ro rn rc' yo _ yc w' (by omega) i4)
                  (fun hD w' hf => older_any wi (by omega) (by omega) N 0 N _ _ w' ro rn rc' r _ us qs (Nat.le_refl _) (by omega) i4 (hg.fr0 hf) (s1.fr0 hf) s2 (s3.fr0 hf) s4 hD s5)
                  (fun hD w' hf => top_any wi (by omega) (by omega) N 0 N _ _ w' ro rn rc' r _ us qs (Nat.le_refl _) (by omega) i4 (hg.fr0 hf) (s1.fr0 hf) s2 (s3.fr0 hf) s4 hD s5)
              · have hE : ¬ (endF 0 N I).1 = 0 := fun h => hend (.inl h)
                have hps0 : ps = [] := Classical.byContradiction fun h => hend (.inr h)
                subst hps0
                have hB : prfQ wi N I old root [] = false := by unfold prfQ; rw [if_neg hE]
                rw [hB]
                have hno := ofProof_no wi I N (by omega) (by omega) (by omega) hE oo old.length oc xo xc W1
                unfold cv at hno
                have e0 : ((0 : Nat) : Int) = 0 := rfl
                simp only [e0] at hno
                simp only [List.length_nil] at hwd2 ⊢
                have q3 : ((I : Int) == 0) = false := beq_false_of_ne (by omega)
                have HC := hide (And.intro hwd1 (And.intro hwd2 (And.intro hno hF1)))
                clear hg ho hr hp hcx hn hps h1 h2 h3 hwd1 hwd2 hF1 hq1 hq2 hno e0 hB hE hend how hpw i1 i2 i3 i4 i5
                generalize old.length = LL at *
                generalize root.length = RL at *
                go_enter Tryd.func36, Tryd.ntmps36
                go_wp2_with (go_at_call 48; refine (maybe_any wi _).mono ?_; rintro e' w' ⟨rfl, hw'⟩; rw [hw', decide_eq_true (unhide HM)])
                refine (unhide HC).1.mono ?_
                rintro e' w2 ⟨rfl, rfl⟩
                go_wp2_with fail
                refine (unhide HC).2.1.mono ?_
                rintro e' w3 ⟨rfl, rfl⟩
                go_wp2_with fail
                refine (unhide HC).2.2.1.mono ?_
                rintro e' wA ⟨rfl, hFA⟩
                have HA := hide ((unhide HC).2.2.2.trans hFA (fun _ _ h => h))
                clear hFA
                go_wp2_with fail
                go_ret
                exact ⟨rfl, ((unhide HA).alloc _).alloc _⟩
end Go.Proofs.YtocdnomfpgdglaaDoor

namespace Go.Proofs.YtocdnomfpgdglaaDoor
open Go.RowKit

/-- The cells of steps. -/
def scells (L : List (Value × Value × Bool)) : List Value := (L.map fun p => [p.1, p.2.1, .bool p.2.2]).flatten
theorem scells_len (L : List (Value × Value × Bool)) : (scells L).length = L.length * 3 := by
  induction L with
  | nil => rfl
  | cons a r ih => simp only [scells, List.map_cons, List.flatten_cons, List.length_append, List.length_cons, List.length_nil] at ih ⊢; omega
theorem scells_cons (a : Value × Value × Bool) (r : List (Value × Value × Bool)) : scells (a :: r) = [a.1, a.2.1, .bool a.2.2] ++ scells r := rfl
theorem scells_app (a b : List (Value × Value × Bool)) : scells (a ++ b) = scells a ++ scells b := by simp [scells]
theorem scells_at (L : List (Value × Value × Bool)) : ∀ (k : Nat) (hk : k < L.length), (scells L)[k * 3]? = some L[k].1 ∧ (scells L)[k * 3 + 1]? = some L[k].2.1 ∧ (scells L)[k * 3 + 2]? = some (.bool L[k].2.2) := by
  induction L with
  | nil => intro k hk; simp at hk
  | cons a r ih =>
    intro k hk
    match k, hk with
    | 0, _ => exact ⟨rfl, rfl, rfl⟩
    | k + 1, hk =>
      obtain ⟨h1, h2, h3⟩ := ih k (by simpa using hk)
      have e : ∀ j, (scells (a :: r))[(k + 1) * 3 + j]? = (scells r)[k * 3 + j]? := fun j => by
        rw [scells_cons, List.getElem?_append_right (by simp; omega)]
        congr 1
        simp
        omega
      have e0 := e 0
      simp only [Nat.add_zero] at e0
      refine ⟨e0.trans h1, (e 1).trans h2, (e 2).trans h3⟩
theorem Tryd.infoStep : (Tryd.prog.info? 131).map (fun i => (i.zero, i.size, i.bytes)) = some (some (.agg #[.slice none 0 0, .slice none 0 0, .bool false]), 3, 56) := by kernel_rfl
/-- One more step. -/
theorem app_step (w : World) (base : Nat) (v : Value) (L : List (Value × Value × Bool)) (la : Option Addr) (ln lc : Nat) (ra : Option Addr) (rn rc : Nat) (b : Bool) (hown : w.ownsRow base 131 3 v L.length (scells L)) (hb : L.length + 1 ≤ 16777216) (hbase : base ≤ w.heap.size) :
    ∃ ao cap w', (Builtin.append_ #[89, 89] 89 #[v, .slice (some ⟨w.heap.size, 0, none⟩) 1 1]).run Tryd.prog (w.alloc (.cells #[.slice la ln lc, .slice ra rn rc, .bool b] 131)) = .ok (.slice ao (L.length + 1) cap) w' ∧
      w'.ownsRow base 131 3 (.slice ao (L.length + 1) cap) (L.length + 1) (scells (L ++ [(.slice la ln lc, .slice ra rn rc, b)])) ∧ (w.alloc (.cells #[.slice la ln lc, .slice ra rn rc, .bool b] 131)).grownBy w' v.ownBlock := by
  obtain ⟨i0, hi, hz0, hz1, hz2⟩ := info_parts Tryd.infoStep
  have h1 : (w.alloc (.cells #[.slice la ln lc, .slice ra rn rc, .bool b] 131)).ownsRow base 131 3 v L.length (scells L) := ownsRow_of_block hown (fun g hg => Below.heap_alloc _ _ _ (hown.lt g hg).2)
  obtain ⟨v', w', hr, h2, h3, _, _⟩ := run_append_own_at (P := Tryd.prog) (w.alloc (.cells #[.slice la ln lc, .slice ra rn rc, .bool b] 131)) base 89 89 131 i0 (.agg #[.slice none 0 0, .slice none 0 0, .bool false]) 3 56 Tryd.underlying89 hi hz0 hz1 hz2 rfl (by decide) v L.length _ h1 ⟨w.heap.size, 0, none⟩ 1 1 [.slice la ln lc, .slice ra rn rc, .bool b] rfl (fun j u hu => by
      match j, hu with
      | 0, hu => simp at hu; subst hu; simp [Addr.add]
      | 1, hu => simp at hu; subst hu; simp [Addr.add]
      | 2, hu => simp at hu; subst hu; simp [Addr.add]) (fun u hu => by simp at hu; rcases hu with rfl | rfl | rfl <;> rfl) (by simp only [maxLen]; omega) (by omega) (by simp; omega)
  have hf : ∃ ao cap, v' = .slice ao (L.length + 1) cap := by
    rcases h2.2 with ⟨_, e⟩ | ⟨g, cap, cur, rfl, _⟩
    · omega
    · exact ⟨_, _, rfl⟩
  obtain ⟨ao, cap, rfl⟩ := hf
  refine ⟨ao, cap, w', hr, ?_, h3⟩
  rw [scells_app]
  exact h2
/-- Steps in memory of one's own. -/
structure OT (w wr : World) (v : Value) (ss : List (Value × Value × Bool)) : Prop where
  own : wr.ownsRow w.heap.size 131 3 v ss.length (scells ss)
  fr : Fr (fun _ => False) w wr
theorem OT.nil (w : World) : OT w w (.slice none 0 0) [] := ⟨⟨rfl, .inl ⟨rfl, rfl⟩⟩, Fr.refl _ _⟩
theorem OT.fr0 {w wr wq : World} {v : Value} {ss : List (Value × Value × Bool)} (h : OT w wr v ss) (hf : Fr (fun _ => False) wr wq) : OT w wq v ss :=
  ⟨ownsRow_of_block h.own (fun g hg => hf.block g (h.own.lt g hg).2 (fun h => h)), h.fr.trans hf (fun _ _ h => h)⟩
theorem OT.base {w wA wr : World} {v : Value} {ss : List (Value × Value × Bool)} (h : OT wA wr v ss) (hf : Fr (fun _ => False) w wA) : OT w wr v ss := by
  refine ⟨⟨h.own.1, ?_⟩, hf.trans h.fr (fun _ _ h => h)⟩
  rcases h.own.2 with h0 | ⟨g, cap, cur, e1, e2, e3⟩
  · exact .inl h0
  · exact .inr ⟨g, cap, cur, e1, Nat.le_trans hf.size e2, e3⟩
theorem OT.form {w wr : World} {v : Value} {ss : List (Value × Value × Bool)} (h : OT w wr v ss) : ∃ ao cap, v = .slice ao ss.length cap := by
  rcases h.own.2 with ⟨e, e0⟩ | ⟨g, cap, cur, e, _⟩
  · exact ⟨none, 0, by rw [e, e0]⟩
  · exact ⟨_, _, e⟩
/-- The cells of one step, in a later world. -/
theorem OT.cell {w wr wq : World} {so : Option Addr} {n sc : Nat} {ss : List (Value × Value × Bool)} (h : OT w wr (.slice so n sc) ss) (hf : Fr (fun _ => False) wr wq) (k : Nat) (hk : k < ss.length) : ∃ g, so = some ⟨g, 0, none⟩ ∧ wq.cell? ⟨g, k * 3, none⟩ = some ss[k].1 ∧ wq.cell? ⟨g, k * 3 + 1, none⟩ = some ss[k].2.1 ∧ wq.cell? ⟨g, k * 3 + 2, none⟩ = some (.bool ss[k].2.2) := by
  rcases h.own.2 with ⟨_, e0⟩ | ⟨g, cap, cur, e, _⟩
  · omega
  · simp only [Value.slice.injEq] at e
    obtain ⟨rfl, rfl, rfl⟩ := e
    have hl := (h.own.lt g rfl).2
    obtain ⟨s1, s2, s3⟩ := scells_at ss k hk
    exact ⟨g, rfl, (hf.cell (p := ⟨g, k * 3, none⟩) hl (fun h => h)).trans ((h.own.cellAt (k * 3) (by omega)).trans s1), (hf.cell (p := ⟨g, k * 3 + 1, none⟩) hl (fun h => h)).trans ((h.own.cellAt (k * 3 + 1) (by omega)).trans s2), (hf.cell (p := ⟨g, k * 3 + 2, none⟩) hl (fun h => h)).trans ((h.own.cellAt (k * 3 + 2) (by omega)).trans s3)⟩
theorem OT.lit {w w1 : World} (hF0 : Fr (fun _ => False) w w1) (la : Option Addr) (ln lc : Nat) (ra : Option Addr) (rn rc : Nat) (b : Bool) (W : World) (hW : w1.alloc (.cells #[.slice la ln lc, .slice ra rn rc, .bool b] 131) = W) : OT w W (.slice (some ⟨w1.heap.size, 0, none⟩) 1 1) [(.slice la ln lc, .slice ra rn rc, b)] := by
  have hF : Fr (fun _ => False) w1 W := by rw [← hW]; exact (Fr.refl _ _).alloc _
  refine ⟨?_, hF0.trans hF (fun _ _ h => h)⟩
  have := World.ownsRow_lit (e := 131) (size := 3) w1 #[.slice la ln lc, .slice ra rn rc, .bool b] 1 (Nat.le_refl _) (by simp only [maxLen]; omega) rfl
  rw [hW] at this
  refine ⟨this.1, ?_⟩
  rcases this.2 with h0 | ⟨g, cap, cur, e1, e2, e3⟩
  · exact .inl h0
  · exact .inr ⟨g, cap, cur, e1, Nat.le_trans hF0.size e2, e3⟩
end Go.Proofs.YtocdnomfpgdglaaDoor

namespace Go.Proofs.YtocdnomfpgdglaaDoor
open Go.RowKit

set_option maxRecDepth 100000 in
set_option maxHeartbeats 1000000 in
/-- The document's wide. -/
theorem gwide_any (j : Int) (x : Value) (vs : List Value) (ps : List (List Nat)) (w : World) (hp : Pcs w x vs ps) (hn : ps.length < 4611686018427387904) :
    Calls Tryd.prog 68 #[.int .i64 j, x] w fun e w' => e = .returned (.bool (wdq j ps)) ∧ w' = w := by
  obtain ⟨xo, xc, rfl⟩ := hp.form
  have HG := hide (And.intro hp hn)
  clear hp hn
  generalize hN : ps.length = N at *
  go_enter Tryd.func68, Tryd.ntmps68
  go_wp2_with fail
  go_loopw [5] (fun iv wr => ∃ (k : Nat), k ≤ N ∧ iv = .int .i64 (k : Nat) ∧ wr = w ∧ wdq j (ps.take k) = true) (fun iv _ => N - (intOf iv).toNat)
  case atStart => exact ⟨0, Nat.zero_le _, rfl, rfl, by simp [wdq]⟩
  case round =>
    obtain ⟨k, hk, rfl, rfl, hw⟩ := hrel
    have hN8 := (unhide HG).2
    by_cases hlt : k < N
    · have hlt' : (k : Int) < (N : Int) := by omega
      have hke : k < ps.length := by omega
      obtain ⟨g, o, vo, vc, rfl, hcell, -⟩ := (unhide HG).1.nth (Fr.refl _ _) k hke
      by_cases he : (ps[k].length : Int) = j
      · have hw2 : wdq j (ps.take (k + 1)) = true := by rw [wdq_take j ps k hke, hw, decide_eq_true he]; rfl
        have HW := hide hw2
        clear hw2 hw
        have w1 : IntKind.i64.wrap ((k : Int) + 1) = (k : Int) + 1 := by rw [IntKind.wrap_i64]; omega
        have hee : ((ps[k].length : Int) == j) = true := by rw [he]; simp
        subst he
        generalize ps[k].length = EL at *
        go_wp2_with fail
        exact ⟨⟨k + 1, by omega, by go_num, by first | rfl | trivial, unhide HW⟩, by simp [intOf]; omega⟩
      · have hf := wdq_false j ps k hke he
        have HW := hide hf
        clear hf hw
        have hee : ((ps[k].length : Int) == j) = false := beq_false_of_ne he
        generalize ps[k].length = EL at *
        go_wp2_with fail
        go_ret
        exact ⟨by rw [unhide HW]; rfl, rfl⟩
    · have hkN : k = N := by omega
      have hlt' : ¬ (k : Int) < (N : Int) := by omega
      have htk : ps.take k = ps := List.take_of_length_le (by omega)
      rw [htk] at hw
      have HW := hide hw
      clear hw htk hkN
      go_wp2_with fail
      go_ret
      exact ⟨by rw [unhide HW]; rfl, rfl⟩
/-- The steps from the top down to an entry. -/
def stpv (wi : Nat) (leaf : List Nat) (f n i : Nat) (ps : List (List Nat)) : List (List Nat × List Nat × Bool) :=
  if _h : n < 2 then []
  else if i < f + hf n then (topv wi leaf f (hf n) i 1 ps.dropLast, ps.getLastD [], true) :: stpv wi leaf f (hf n) i ps.dropLast
  else (ps.getLastD [], topv wi leaf (f + hf n) (n - hf n) i 1 ps.dropLast, false) :: stpv wi leaf (f + hf n) (n - hf n) i ps.dropLast
termination_by n
decreasing_by
  · exact hf_lt n (by omega)
  · have := hf_pos n; omega
def StOk (w : World) (ss : List (Value × Value × Bool)) (ts : List (List Nat × List Nat × Bool)) : Prop :=
  ss.length = ts.length ∧ ∀ (j : Nat) s t, ss[j]? = some s → ts[j]? = some t → Sl w s.1 t.1 ∧ Sl w s.2.1 t.2.1 ∧ s.2.2 = t.2.2
theorem StOk.nil (w : World) : StOk w [] [] := ⟨rfl, fun j s t h => by simp at h⟩
theorem StOk.fr0 {w w' : World} {ss : List (Value × Value × Bool)} {ts : List (List Nat × List Nat × Bool)} (h : StOk w ss ts) (hf : Fr (fun _ => False) w w') : StOk w' ss ts :=
  ⟨h.1, fun j s t hs ht => ⟨(h.2 j s t hs ht).1.fr0 hf, (h.2 j s t hs ht).2.1.fr0 hf, (h.2 j s t hs ht).2.2⟩⟩
theorem StOk.cons {w : World} {s : Value × Value × Bool} {t : List Nat × List Nat × Bool} {ss : List (Value × Value × Bool)} {ts : List (List Nat × List Nat × Bool)} (h1 : Sl w s.1 t.1) (h2 : Sl w s.2.1 t.2.1) (h3 : s.2.2 = t.2.2) (h : StOk w ss ts) : StOk w (s :: ss) (t :: ts) :=
  ⟨by simp [h.1], fun j s' t' hs ht => by
    match j with
    | 0 => simp at hs ht; subst hs ht; exact ⟨h1, h2, h3⟩
    | j + 1 => simp at hs ht; exact h.2 j s' t' hs ht⟩
theorem StOk.form {w : World} {ss : List (Value × Value × Bool)} {ts : List (List Nat × List Nat × Bool)} (h : StOk w ss ts) (k : Nat) (hk : k < ss.length) : ∃ la ln lc ra rn rc, ss[k] = (.slice la ln lc, .slice ra rn rc, ss[k].2.2) := by
  obtain ⟨h1, h2, _⟩ := h.2 k ss[k] (ts[k]'(by rw [← h.1]; exact hk)) (List.getElem?_eq_getElem hk) (List.getElem?_eq_getElem _)
  obtain ⟨a, c, e1⟩ := h1.form
  obtain ⟨b, d, e2⟩ := h2.form
  exact ⟨a, _, c, b, _, d, by rw [← e1, ← e2]⟩
def ClSays (wi : Nat) (leaf : List Nat) (lv : Value) (f n i : Nat) (ps : List (List Nat)) (x : Value) (w : World) : Prop :=
  Calls Tryd.prog 69 #[.int .i64 wi, lv, .int .i64 ((i - f : Nat) : Int), .int .i64 n, x] w fun e w' =>
    (ps.length = dep f n i 1 → ∃ ho hn hc so sc ss, e = .returned (.tuple #[.slice ho hn hc, .slice so ss.length sc, .bool true]) ∧ Sl w' (.slice ho hn hc) (topv wi leaf f n i 1 ps) ∧ OT w w' (.slice so ss.length sc) ss ∧ StOk w' ss (stpv wi leaf f n i ps)) ∧
    (¬ ps.length = dep f n i 1 → ∃ ho hn hc, e = .returned (.tuple #[.slice ho hn hc, .slice none 0 0, .bool false])) ∧ Fr (fun _ => False) w w'
set_option maxRecDepth 100000 in
set_option maxHeartbeats 1000000 in
theorem climb_one (wi : Nat) (leaf : List Nat) (lv : Value) (f i : Nat) (ps : List (List Nat)) (vs : List Value) (x : Value) (w : World) (hl : Sl w lv leaf) (hp : Pcs w x vs ps) (hi : f = i) : ClSays wi leaf lv f 1 i ps x w := by
  unfold ClSays
  subst hi
  rw [dep_eq, topv_eq]
  have hst : stpv wi leaf f 1 f ps = [] := by rw [stpv, dif_pos (by decide)]
  rw [hst, Nat.sub_self]
  obtain ⟨lo, lc, rfl⟩ := hl.form
  obtain ⟨xo, xc, rfl⟩ := hp.form
  have HL := hide hl
  clear hl hp hst
  have e0 : ((0 : Nat) : Int) = 0 := rfl
  have e1 : ((1 : Nat) : Int) = 1 := rfl
  simp only [e0, e1]
  clear e0 e1
  generalize leaf.length = LN at *
  by_cases h0 : ps.length = 0
  · rw [h0]
    go_enter Tryd.func69, Tryd.ntmps69
    go_wp2_with fail
    go_returns
    exact ⟨fun _ => ⟨lo, LN, lc, none, 0, [], rfl, unhide HL, OT.nil _, StOk.nil _⟩, fun h => by first | exact absurd rfl h | exact absurd trivial h, Fr.refl _ _⟩
  · have q1 : ((ps.length : Int) == 0) = false := beq_false_of_ne (by omega)
    generalize ps.length = PN at *
    go_enter Tryd.func69, Tryd.ntmps69
    go_wp2_with fail
    go_returns
    exact ⟨fun h => absurd h h0, fun _ => ⟨lo, LN, lc, rfl⟩, Fr.refl _ _⟩
set_option maxRecDepth 100000 in
set_option maxHeartbeats 1000000 in
theorem climb_short (wi : Nat) (leaf : List Nat) (lv : Value) (f n i : Nat) (vs : List Value) (x : Value) (w : World) (hl : Sl w lv leaf) (hp : Pcs w x vs []) (h2 : 2 ≤ n) (hd : ¬ 0 = dep f n i 1) : ClSays wi leaf lv f n i [] x w := by
  unfold ClSays
  obtain ⟨lo, lc, rfl⟩ := hl.form
  obtain ⟨xo, xc, rfl⟩ := hp.form
  clear hl hp
  simp only [List.length_nil]
  have q1 : ((n : Int) == 1) = false := beq_false_of_ne (by omega)
  have q2 : ¬ n = 1 := by omega
  generalize leaf.length = LN at *
  generalize i - f = I at *
  go_enter Tryd.func69, Tryd.ntmps69
  go_wp2_with fail
  go_returns
  exact ⟨fun h => absurd h hd, fun _ => ⟨none, 0, 0, rfl⟩, Fr.refl _ _⟩
end Go.Proofs.YtocdnomfpgdglaaDoor

namespace Go.Proofs.YtocdnomfpgdglaaDoor
open Go.RowKit

theorem box3s (w : World) (a b c : Value) (ty : Nat) (W : World) (hW : w.alloc (.cells #[a, b, c] ty) = W) : W.cell? ⟨w.heap.size, 0, none⟩ = some a ∧ W.cell? ⟨w.heap.size, 1, none⟩ = some b ∧ W.cell? ⟨w.heap.size, 2, none⟩ = some c ∧ Fr (fun _ => False) w W := by
  subst hW
  have hc : ∀ j, (w.alloc (.cells #[a, b, c] ty)).cell? ⟨w.heap.size, j, none⟩ = (#[a, b, c] : Array Value)[j]? := fun j => World.cell?_alloc_at _ _ _ _ rfl
  exact ⟨hc 0, hc 1, hc 2, (Fr.refl _ _).alloc _⟩
theorem stpv_len (wi : Nat) (leaf : List Nat) (m : Nat) : ∀ f n i (ps : List (List Nat)), n ≤ m → (stpv wi leaf f n i ps).length = dep f n i 1 := by
  induction m with
  | zero => intro f n i ps h; rw [stpv, dif_pos (by omega), dep, dif_pos (by omega)]; rfl
  | succ m ih =>
    intro f n i ps h
    by_cases h2 : n < 2
    · rw [stpv, dif_pos h2, dep, dif_pos (by omega)]; rfl
    · have hlt := hf_lt n (by omega)
      have hpos := hf_pos n
      by_cases hi : i < f + hf n
      · rw [stpv, dif_neg h2, if_pos hi, dep_l (by omega) (by omega) hi, List.length_cons, ih _ _ _ _ (by omega)]
      · rw [stpv, dif_neg h2, if_neg hi, dep_r (by omega) (by omega) hi, List.length_cons, ih _ _ _ _ (by omega)]
set_option maxRecDepth 100000 in
set_option maxHeartbeats 4000000 in
/-- A step down to the left. -/
theorem climb_left (wi : Nat) (hw1 : 1 ≤ wi) (hw32 : wi ≤ 32) (leaf : List Nat) (lo : Option Addr) (ln lc : Nat) (f n i D : Nat) (ps : List (List Nat)) (vs : List Value) (g o xc : Nat) (w : World) (hr : GR w) (hp : Pcs w (.slice (some ⟨g, o, none⟩) (D + 1) xc) vs ps) (hcap : D + 1 ≤ xc) (hlen : ps.length = D + 1) (hD8 : D < 8000000) (h2 : 2 ≤ n) (hn : n < 9223372036854775808) (hfi : f ≤ i) (hi : i < f + hf n) (hll : leaf.length = wi) (hpw : ∀ p ∈ ps, p.length = wi)
    (ih : ∀ w', Fr (fun _ => False) w w' → ClSays wi leaf (.slice lo ln lc) f (hf n) i (ps.take D) (.slice (some ⟨g, o, none⟩) D xc) w') : ClSays wi leaf (.slice lo ln lc) f n i ps (.slice (some ⟨g, o, none⟩) (D + 1) xc) w := by
  have hlt := hf_lt n h2
  have hpos := hf_pos n
  obtain ⟨g', o', vo, vc, eg, hcell, hsl⟩ := hp.nth (Fr.refl _ _) D (by omega)
  cases eg
  have hdl : ps.dropLast = ps.take D := by rw [List.dropLast_eq_take, hlen]; rfl
  have hgl : ps.getLastD [] = ps[D] := getLastD_at ps D hlen
  have hne : ¬ (f = i ∧ n = 1) := by omega
  have hdp := dep_l h2 hne hi
  have htv := topv_l (wi := wi) (r := leaf) (p := ps) h2 hne hi
  have hst : stpv wi leaf f n i ps = (topv wi leaf f (hf n) i 1 ps.dropLast, ps.getLastD [], true) :: stpv wi leaf f (hf n) i ps.dropLast := by
    conv => lhs; rw [stpv, dif_neg (by omega), if_pos hi]
  rw [hdl, hgl] at htv hst
  have hTw := topv_wid wi hw1 hw32 leaf hll _ f (hf n) i 1 (ps.take D) (Nat.le_refl _)
  have hAw := hpw ps[D] (List.getElem_mem _)
  have htl : (ps.take D).length = D := by rw [List.length_take]; omega
  have hha := half_any n w hn h2
  have hI : i - f < hf n := by omega
  have hSL := stpv_len wi leaf _ f (hf n) i (ps.take D) (Nat.le_refl _)
  unfold ClSays at ih ⊢
  rw [hdp, htv, hst]
  rw [htl] at ih
  rw [hAw] at hcell hsl
  generalize topv wi leaf f (hf n) i 1 (ps.take D) = T at *
  generalize ps[D] = A at *
  generalize stpv wi leaf f (hf n) i (ps.take D) = SS at *
  generalize dep f (hf n) i 1 = DD at *
  rw [hlen]
  have hnd := nd_len wi hw1 hw32 T A
  have hnode : ∀ w' x y, GR w' → Sl w' x T → Sl w' y A → Calls Tryd.prog 29 #[.int .i64 wi, x, y] w' fun e w'' => ∃ yo yc, e = .returned (.slice yo wi yc) ∧ Sl w'' (.slice yo wi yc) (nd wi T A) ∧ Fr (fun _ => False) w' w'' := fun w' x y h1 h2 h3 => by
    refine (gnode_any (wi : Int) x y T A w' h1 h2.s h3.s h2.b h3.b (by omega) (by omega)).mono ?_
    rintro e w'' ⟨yo, yc, rfl, hO⟩
    have hs := hO.sl (nd_lt _ _ _)
    rw [hnd] at hs ⊢
    exact ⟨yo, yc, rfl, hs, hO.fr⟩
  have q1 : ((n : Int) == 1) = false := beq_false_of_ne (by omega)
  have q2 : ¬ n = 1 := by omega
  have q3 : (((D : Int) + 1) == 0) = false := beq_false_of_ne (by omega)
  have q4 : ¬ (D : Int) + 1 = 0 := by omega
  have q5 : IntKind.i64.wrap ((D : Int) + 1 - 1) = (D : Int) := by rw [IntKind.wrap_i64]; omega
  have q6 : (D : Int) < (D : Int) + 1 := by omega
  have q7 : (D : Int) ≤ (xc : Int) := by omega
  have q8 : ((i - f : Nat) : Int) < ((hf n : Nat) : Int) := by omega
  have HC := hide (And.intro hha (And.intro ih (And.intro hnode (And.intro hr (And.intro hsl hSL)))))
  clear hha ih hnode hr hsl hSL hp hTw hAw htl hnd hdp htv hst hdl hgl hpw hll hlen hne hi hfi hlt hpos h2 hn
  generalize i - f = I at *
  generalize hf n = K at *
  go_enter Tryd.func69, Tryd.ntmps69
  go_wp2_with fail
  refine (unhide HC).1.mono ?_
  rintro e w0 ⟨rfl, rfl⟩
  go_wp2_with fail
  refine ((unhide HC).2.1 _ (by first | exact Fr.refl _ _ | exact (Fr.refl _ _).drew)).mono ?_
  rintro e w1 ⟨hA, hB, hF⟩
  by_cases hd : D = DD
  · obtain ⟨ho, hn, hc, so, sc, ss, rfl, hS, hO, hK⟩ := hA hd
    have hsl' : ss.length = SS.length := hK.1
    have H1 := hide (And.intro hS (And.intro hO (And.intro hK (And.intro hF (And.intro hd hsl')))))
    clear hA hB hS hO hK hF hd hsl'
    go_wp2_with fail
    obtain ⟨W2, hW2⟩ : ∃ W2, w1.alloc (.cells #[.slice ho hn hc, .slice vo wi vc, .bool true] 131) = W2 := ⟨_, rfl⟩
    rw [hW2]
    obtain ⟨z0, z1, z2, hF2⟩ := box3s w1 _ _ _ _ W2 hW2
    obtain ⟨W3, hW3⟩ : ∃ W3, W2.alloc (.cells #[.slice ho hn hc, .slice vo wi vc, .bool true] 131) = W3 := ⟨_, rfl⟩
    rw [hW3]
    have hsz : w1.heap.size + 1 = W2.heap.size := by rw [← hW2]; simp
    rw [hsz]
    have hT0 := OT.lit (Fr.refl _ W2) ho hn hc vo wi vc true W3 hW3
    have HZ := hide (And.intro z0 (And.intro z1 (And.intro z2 (And.intro hF2 hT0))))
    clear z0 z1 z2 hF2 hT0 hW2 hW3 hsz
    generalize w1.heap.size = P at *
    generalize hSN : ss.length = SN at *
    go_loopw [22, 23] (fun dv iv wr => ∃ (k : Nat), k ≤ SN ∧ iv = .int .i64 (k : Nat) ∧ OT W2 wr dv ((.slice ho hn hc, .slice vo wi vc, true) :: ss.take k)) (fun _ iv _ => SN - (intOf iv).toNat)
    case atStart => exact ⟨0, Nat.zero_le _, rfl, (unhide HZ).2.2.2.2⟩
    case round =>
      obtain ⟨k, hk, rfl, hT⟩ := hrel
      have hSD : SN = D := by have h1 := (unhide H1).2.2.2.2.2; have h2 := (unhide HC).2.2.2.2.2; have h3 := (unhide H1).2.2.2.2.1; omega
      have htl : (((Value.slice ho hn hc, Value.slice vo wi vc, true) :: ss.take k) : List (Value × Value × Bool)).length = k + 1 := by rw [List.length_cons, List.length_take]; omega
      by_cases hlt : k < SN
      · have hlt' : (k : Int) < (SN : Int) := by omega
        have hks : k < ss.length := by omega
        have hF1r : Fr (fun _ => False) w1 wr := (unhide HZ).2.2.2.1.trans hT.fr (fun _ _ h => h)
        obtain ⟨g2, rfl, e0, e1, e2⟩ := (unhide H1).2.1.cell hF1r k hks
        obtain ⟨la, ln', lc', ra, rn, rc, es⟩ := (unhide H1).2.2.1.form k hks
        have htk : ss.take (k + 1) = ss.take k ++ [ss[k]] := by rw [List.take_add_one, List.getElem?_eq_getElem hks]; rfl
        generalize ss[k].2.2 = b at *
        rw [es] at e0 e1 htk
        simp only at e0 e1
        obtain ⟨ao, cap, w', hr, hown, hgrow⟩ := app_step wr W2.heap.size _ _ la ln' lc' ra rn rc b hT.own (by rw [htl]; omega) hT.fr.size
        obtain ⟨da, dc, rfl⟩ := hT.form
        rw [htl] at hr hown
        have hT2 : OT W2 w' (.slice ao (k + 1 + 1) cap) ((.slice ho hn hc, .slice vo wi vc, true) :: ss.take (k + 1)) := by
          refine ⟨?_, (hT.fr.alloc _).grown hgrow (fun g hg => .inr (hT.own.lt g hg).1)⟩
          have e : (((Value.slice ho hn hc, Value.slice vo wi vc, true) :: ss.take (k + 1)) : List (Value × Value × Bool)).length = k + 1 + 1 := by rw [List.length_cons, List.length_take]; omega
          rw [e, htk, ← List.cons_append]
          exact hown
        have w1' : IntKind.i64.wrap ((k : Int) + 1) = (k : Int) + 1 := by rw [IntKind.wrap_i64]; omega
        have HR := hide hr
        have HT := hide hT2
        have hk8 : k < 8000000 := by omega
        clear hr hown hgrow hT hT2 htk es hF1r hSD
        rw [htl]
        clear htl
        go_wp2_with (at_builtin; refine wpList_app rfl (.tmp 86) (.tmp 91) 89 89 rfl _ _ _ rfl rfl (unhide HR) ?_)
        exact ⟨⟨k + 1, by omega, by go_num, unhide HT⟩, by simp [intOf]; omega⟩
      · have hlt' : ¬ (k : Int) < (SN : Int) := by omega
        rw [List.take_of_length_le (by omega)] at hT htl
        have c0 := (hT.fr.cell (lt_of_cell (unhide HZ).1) (fun h => h)).trans (unhide HZ).1
        have c1 := (hT.fr.cell (lt_of_cell (unhide HZ).2.1) (fun h => h)).trans (unhide HZ).2.1
        obtain ⟨da, dc, rfl⟩ := hT.form
        have hFw : Fr (fun _ => False) w1 wr := (unhide HZ).2.2.2.1.trans hT.fr (fun _ _ h => h)
        have HT := hide (And.intro hT (And.intro hFw htl))
        rw [htl]
        clear hT htl hFw hSD
        go_wp2_with fail
        refine ((unhide HC).2.2.1 wr _ _ ((unhide HC).2.2.2.1.fr0 ((unhide H1).2.2.2.1.trans (unhide HT).2.1 (fun _ _ h => h))) ((unhide H1).1.fr0 (unhide HT).2.1) ((unhide HC).2.2.2.2.1.fr0 ((unhide H1).2.2.2.1.trans (unhide HT).2.1 (fun _ _ h => h)))).mono ?_
        rintro e w5 ⟨yo, yc, rfl, hS5, hF5⟩
        have H5 := hide (And.intro hS5 hF5)
        clear hS5 hF5
        go_wp2_with fail
        go_returns
        have hF15 := (unhide HT).2.1.trans (unhide H5).2 (fun _ _ h => h)
        have hF05 := (unhide H1).2.2.2.1.trans hF15 (fun _ _ h => h)
        refine ⟨fun _ => ⟨yo, wi, yc, da, dc, (.slice ho hn hc, .slice vo wi vc, true) :: ss, by rw [(unhide HT).2.2]; rfl, (unhide H5).1, ?_, ?_⟩, fun h => absurd (by have := (unhide H1).2.2.2.2.1; omega) h, hF05⟩
        · exact ((unhide HT).1.fr0 (unhide H5).2).base ((unhide H1).2.2.2.1.trans (unhide HZ).2.2.2.1 (fun _ _ h => h))
        · exact StOk.cons ((unhide H1).1.fr0 hF15) ((unhide HC).2.2.2.2.1.fr0 hF05) rfl ((unhide H1).2.2.1.fr0 hF15)
  · obtain ⟨ho, hn, hc, rfl⟩ := hB hd
    have H1 := hide (And.intro hF hd)
    clear hA hB hF hd
    go_wp2_with fail
    go_returns
    exact ⟨fun h => absurd (by omega) (unhide H1).2, fun _ => ⟨none, 0, 0, rfl⟩, (unhide H1).1⟩
end Go.Proofs.YtocdnomfpgdglaaDoor

namespace Go.Proofs.YtocdnomfpgdglaaDoor
open Go.RowKit

set_option maxRecDepth 100000 in
set_option maxHeartbeats 4000000 in
/-- A step down to the right. -/
theorem climb_right (wi : Nat) (hw1 : 1 ≤ wi) (hw32 : wi ≤ 32) (leaf : List Nat) (lo : Option Addr) (ln lc : Nat) (f n i D : Nat) (ps : List (List Nat)) (vs : List Value) (g o xc : Nat) (w : World) (hr : GR w) (hp : Pcs w (.slice (some ⟨g, o, none⟩) (D + 1) xc) vs ps) (hcap : D + 1 ≤ xc) (hlen : ps.length = D + 1) (hD8 : D < 8000000) (h2 : 2 ≤ n) (hn : n < 9223372036854775808) (hin : i < f + n) (hi : ¬ i < f + hf n) (hll : leaf.length = wi) (hpw : ∀ p ∈ ps, p.length = wi)
    (ih : ∀ w', Fr (fun _ => False) w w' → ClSays wi leaf (.slice lo ln lc) (f + hf n) (n - hf n) i (ps.take D) (.slice (some ⟨g, o, none⟩) D xc) w') : ClSays wi leaf (.slice lo ln lc) f n i ps (.slice (some ⟨g, o, none⟩) (D + 1) xc) w := by
  have hlt := hf_lt n h2
  have hpos := hf_pos n
  obtain ⟨g', o', vo, vc, eg, hcell, hsl⟩ := hp.nth (Fr.refl _ _) D (by omega)
  cases eg
  have hdl : ps.dropLast = ps.take D := by rw [List.dropLast_eq_take, hlen]; rfl
  have hgl : ps.getLastD [] = ps[D] := getLastD_at ps D hlen
  have hne : ¬ (f = i ∧ n = 1) := by omega
  have hdp := dep_r h2 hne hi
  have htv := topv_r (wi := wi) (r := leaf) (p := ps) h2 hne hi
  have hst : stpv wi leaf f n i ps = (ps.getLastD [], topv wi leaf (f + hf n) (n - hf n) i 1 ps.dropLast, false) :: stpv wi leaf (f + hf n) (n - hf n) i ps.dropLast := by
    conv => lhs; rw [stpv, dif_neg (by omega), if_neg hi]
  rw [hdl, hgl] at htv hst
  have hTw := topv_wid wi hw1 hw32 leaf hll _ (f + hf n) (n - hf n) i 1 (ps.take D) (Nat.le_refl _)
  have hAw := hpw ps[D] (List.getElem_mem _)
  have htl : (ps.take D).length = D := by rw [List.length_take]; omega
  have hha := half_any n w hn h2
  have hI : i - (f + hf n) = (i - f) - hf n := by omega
  have hI2 : hf n ≤ i - f := by omega
  have hI3 : i - f < n := by omega
  have hSL := stpv_len wi leaf _ (f + hf n) (n - hf n) i (ps.take D) (Nat.le_refl _)
  unfold ClSays at ih ⊢
  rw [hdp, htv, hst]
  rw [htl, hI] at ih
  rw [hAw] at hcell hsl
  generalize topv wi leaf (f + hf n) (n - hf n) i 1 (ps.take D) = T at *
  generalize ps[D] = A at *
  generalize stpv wi leaf (f + hf n) (n - hf n) i (ps.take D) = SS at *
  generalize dep (f + hf n) (n - hf n) i 1 = DD at *
  rw [hlen]
  have hnd := nd_len wi hw1 hw32 A T
  have hnode : ∀ w' x y, GR w' → Sl w' x A → Sl w' y T → Calls Tryd.prog 29 #[.int .i64 wi, x, y] w' fun e w'' => ∃ yo yc, e = .returned (.slice yo wi yc) ∧ Sl w'' (.slice yo wi yc) (nd wi A T) ∧ Fr (fun _ => False) w' w'' := fun w' x y h1 h2 h3 => by
    refine (gnode_any (wi : Int) x y A T w' h1 h2.s h3.s h2.b h3.b (by omega) (by omega)).mono ?_
    rintro e w'' ⟨yo, yc, rfl, hO⟩
    have hs := hO.sl (nd_lt _ _ _)
    rw [hnd] at hs ⊢
    exact ⟨yo, yc, rfl, hs, hO.fr⟩
  have q1 : ((n : Int) == 1) = false := beq_false_of_ne (by omega)
  have q2 : ¬ n = 1 := by omega
  have q3 : (((D : Int) + 1) == 0) = false := beq_false_of_ne (by omega)
  have q4 : ¬ (D : Int) + 1 = 0 := by omega
  have q5 : IntKind.i64.wrap ((D : Int) + 1 - 1) = (D : Int) := by rw [IntKind.wrap_i64]; omega
  have q6 : (D : Int) < (D : Int) + 1 := by omega
  have q7 : (D : Int) ≤ (xc : Int) := by omega
  have q8 : ¬ ((i - f : Nat) : Int) < ((hf n : Nat) : Int) := by omega
  have q9 : ¬ i - f < hf n := by omega
  have q10 : IntKind.i64.wrap (((i - f : Nat) : Int) - ((hf n : Nat) : Int)) = (((i - f) - hf n : Nat) : Int) := by rw [IntKind.wrap_i64]; omega
  have q11 : IntKind.i64.wrap ((n : Int) - ((hf n : Nat) : Int)) = ((n - hf n : Nat) : Int) := by rw [IntKind.wrap_i64]; omega
  have HC := hide (And.intro hha (And.intro ih (And.intro hnode (And.intro hr (And.intro hsl hSL)))))
  clear hha ih hnode hr hsl hSL hp hTw hAw htl hnd hdp htv hst hdl hgl hpw hll hlen hne hi hin hlt hpos h2 hn hI hI2 hI3
  generalize (i - f) - hf n = IK at *
  generalize n - hf n = NK at *
  generalize i - f = I at *
  generalize hf n = K at *
  go_enter Tryd.func69, Tryd.ntmps69
  go_wp2_with fail
  refine (unhide HC).1.mono ?_
  rintro e w0 ⟨rfl, rfl⟩
  go_wp2_with fail
  refine ((unhide HC).2.1 _ (by first | exact Fr.refl _ _ | exact (Fr.refl _ _).drew)).mono ?_
  rintro e w1 ⟨hA, hB, hF⟩
  by_cases hd : D = DD
  · obtain ⟨ho, hn, hc, so, sc, ss, rfl, hS, hO, hK⟩ := hA hd
    have hsl' : ss.length = SS.length := hK.1
    have H1 := hide (And.intro hS (And.intro hO (And.intro hK (And.intro hF (And.intro hd hsl')))))
    clear hA hB hS hO hK hF hd hsl'
    go_wp2_with fail
    obtain ⟨W2, hW2⟩ : ∃ W2, w1.alloc (.cells #[.slice vo wi vc, .slice ho hn hc, .bool false] 131) = W2 := ⟨_, rfl⟩
    rw [hW2]
    obtain ⟨z0, z1, z2, hF2⟩ := box3s w1 _ _ _ _ W2 hW2
    obtain ⟨W3, hW3⟩ : ∃ W3, W2.alloc (.cells #[.slice vo wi vc, .slice ho hn hc, .bool false] 131) = W3 := ⟨_, rfl⟩
    rw [hW3]
    have hsz : w1.heap.size + 1 = W2.heap.size := by rw [← hW2]; simp
    rw [hsz]
    have hT0 := OT.lit (Fr.refl _ W2) vo wi vc ho hn hc false W3 hW3
    have HZ := hide (And.intro z0 (And.intro z1 (And.intro z2 (And.intro hF2 hT0))))
    clear z0 z1 z2 hF2 hT0 hW2 hW3 hsz
    generalize w1.heap.size = P at *
    generalize hSN : ss.length = SN at *
    go_loopw [22, 23] (fun dv iv wr => ∃ (k : Nat), k ≤ SN ∧ iv = .int .i64 (k : Nat) ∧ OT W2 wr dv ((.slice vo wi vc, .slice ho hn hc, false) :: ss.take k)) (fun _ iv _ => SN - (intOf iv).toNat)
    case atStart => exact ⟨0, Nat.zero_le _, rfl, (unhide HZ).2.2.2.2⟩
    case round =>
      obtain ⟨k, hk, rfl, hT⟩ := hrel
      have hSD : SN = D := by have h1 := (unhide H1).2.2.2.2.2; have h2 := (unhide HC).2.2.2.2.2; have h3 := (unhide H1).2.2.2.2.1; omega
      have htl : (((Value.slice vo wi vc, Value.slice ho hn hc, false) :: ss.take k) : List (Value × Value × Bool)).length = k + 1 := by rw [List.length_cons, List.length_take]; omega
      by_cases hlt : k < SN
      · have hlt' : (k : Int) < (SN : Int) := by omega
        have hks : k < ss.length := by omega
        have hF1r : Fr (fun _ => False) w1 wr := (unhide HZ).2.2.2.1.trans hT.fr (fun _ _ h => h)
        obtain ⟨g2, rfl, e0, e1, e2⟩ := (unhide H1).2.1.cell hF1r k hks
        obtain ⟨la, ln', lc', ra, rn, rc, es⟩ := (unhide H1).2.2.1.form k hks
        have htk : ss.take (k + 1) = ss.take k ++ [ss[k]] := by rw [List.take_add_one, List.getElem?_eq_getElem hks]; rfl
        generalize ss[k].2.2 = b at *
        rw [es] at e0 e1 htk
        simp only at e0 e1
        obtain ⟨ao, cap, w', hr, hown, hgrow⟩ := app_step wr W2.heap.size _ _ la ln' lc' ra rn rc b hT.own (by rw [htl]; omega) hT.fr.size
        obtain ⟨da, dc, rfl⟩ := hT.form
        rw [htl] at hr hown
        have hT2 : OT W2 w' (.slice ao (k + 1 + 1) cap) ((.slice vo wi vc, .slice ho hn hc, false) :: ss.take (k + 1)) := by
          refine ⟨?_, (hT.fr.alloc _).grown hgrow (fun g hg => .inr (hT.own.lt g hg).1)⟩
          have e : (((Value.slice vo wi vc, Value.slice ho hn hc, false) :: ss.take (k + 1)) : List (Value × Value × Bool)).length = k + 1 + 1 := by rw [List.length_cons, List.length_take]; omega
          rw [e, htk, ← List.cons_append]
          exact hown
        have w1' : IntKind.i64.wrap ((k : Int) + 1) = (k : Int) + 1 := by rw [IntKind.wrap_i64]; omega
        have HR := hide hr
        have HT := hide hT2
        have hk8 : k < 8000000 := by omega
        clear hr hown hgrow hT hT2 htk es hF1r hSD
        rw [htl]
        clear htl
        go_wp2_with (at_builtin; refine wpList_app rfl (.tmp 86) (.tmp 91) 89 89 rfl _ _ _ rfl rfl (unhide HR) ?_)
        exact ⟨⟨k + 1, by omega, by go_num, unhide HT⟩, by simp [intOf]; omega⟩
      · have hlt' : ¬ (k : Int) < (SN : Int) := by omega
        rw [List.take_of_length_le (by omega)] at hT htl
        have c0 := (hT.fr.cell (lt_of_cell (unhide HZ).1) (fun h => h)).trans (unhide HZ).1
        have c1 := (hT.fr.cell (lt_of_cell (unhide HZ).2.1) (fun h => h)).trans (unhide HZ).2.1
        obtain ⟨da, dc, rfl⟩ := hT.form
        have hFw : Fr (fun _ => False) w1 wr := (unhide HZ).2.2.2.1.trans hT.fr (fun _ _ h => h)
        have HT := hide (And.intro hT (And.intro hFw htl))
        rw [htl]
        clear hT htl hFw hSD
        go_wp2_with fail
        refine ((unhide HC).2.2.1 wr _ _ ((unhide HC).2.2.2.1.fr0 ((unhide H1).2.2.2.1.trans (unhide HT).2.1 (fun _ _ h => h))) ((unhide HC).2.2.2.2.1.fr0 ((unhide H1).2.2.2.1.trans (unhide HT).2.1 (fun _ _ h => h))) ((unhide H1).1.fr0 (unhide HT).2.1)).mono ?_
        rintro e w5 ⟨yo, yc, rfl, hS5, hF5⟩
        have H5 := hide (And.intro hS5 hF5)
        clear hS5 hF5
        go_wp2_with fail
        go_returns
        have hF15 := (unhide HT).2.1.trans (unhide H5).2 (fun _ _ h => h)
        have hF05 := (unhide H1).2.2.2.1.trans hF15 (fun _ _ h => h)
        refine ⟨fun _ => ⟨yo, wi, yc, da, dc, (.slice vo wi vc, .slice ho hn hc, false) :: ss, by rw [(unhide HT).2.2]; rfl, (unhide H5).1, ?_, ?_⟩, fun h => absurd (by have := (unhide H1).2.2.2.2.1; omega) h, hF05⟩
        · exact ((unhide HT).1.fr0 (unhide H5).2).base ((unhide H1).2.2.2.1.trans (unhide HZ).2.2.2.1 (fun _ _ h => h))
        · exact StOk.cons ((unhide HC).2.2.2.2.1.fr0 hF05) ((unhide H1).1.fr0 hF15) rfl ((unhide H1).2.2.1.fr0 hF15)
  · obtain ⟨ho, hn, hc, rfl⟩ := hB hd
    have H1 := hide (And.intro hF hd)
    clear hA hB hF hd
    go_wp2_with fail
    go_returns
    exact ⟨fun h => absurd (by omega) (unhide H1).2, fun _ => ⟨none, 0, 0, rfl⟩, (unhide H1).1⟩
/-- The document's climb. -/
theorem climb_any (wi : Nat) (hw1 : 1 ≤ wi) (hw32 : wi ≤ 32) (leaf : List Nat) (hll : leaf.length = wi) (lo : Option Addr) (ln lc : Nat) (m : Nat) : ∀ (f n i : Nat) (ps : List (List Nat)) (vs : List Value) (x : Value) (w : World), n ≤ m → 1 ≤ n → n < 9223372036854775808 → f ≤ i → i < f + n → GR w → Sl w (.slice lo ln lc) leaf → Pcs w x vs ps → Cp x → ps.length ≤ 8000000 → (∀ p ∈ ps, p.length = wi) → ClSays wi leaf (.slice lo ln lc) f n i ps x w := by
  induction m with
  | zero => intro f n i ps vs x w h h1; omega
  | succ m ih =>
    intro f n i ps vs x w h h1 hn hfi hin hr hl hp hcx hps hpw
    by_cases h2 : n = 1
    · subst h2
      exact climb_one wi leaf _ f i ps vs x w hl hp (by omega)
    · have hlt := hf_lt n (by omega)
      have hpos := hf_pos n
      by_cases h0 : ps = []
      · subst h0
        refine climb_short wi leaf _ f n i vs x w hl hp (by omega) ?_
        by_cases hi : i < f + hf n
        · rw [dep_l (by omega) (by omega) hi]; omega
        · rw [dep_r (by omega) (by omega) hi]; omega
      · obtain ⟨D, hD⟩ : ∃ D, ps.length = D + 1 := ⟨ps.length - 1, by have := List.length_pos_iff.2 h0; omega⟩
        obtain ⟨xo, xc, rfl⟩ := hp.form
        obtain ⟨g, o, v, rfl, -⟩ := hp.cell (Fr.refl _ _) 0 (by omega)
        have hcap : ps.length ≤ xc := hcx _ _ _ rfl
        rw [hD] at hp hcx hcap ⊢
        have hp' := hp.take D (by omega)
        have hcx' : Cp (.slice (some ⟨g, o, none⟩) D xc) := fun _ _ _ e => by cases e; omega
        have htl : (ps.take D).length ≤ 8000000 := by rw [List.length_take]; omega
        have hpw' : ∀ p ∈ ps.take D, p.length = wi := fun p h => hpw p (List.mem_of_mem_take h)
        by_cases hi : i < f + hf n
        · exact climb_left wi hw1 hw32 leaf lo ln lc f n i D ps vs g o xc w hr hp hcap hD (by omega) (by omega) hn hfi hi hll hpw (fun w' hf' => ih f (hf n) i _ _ _ w' (by omega) (by omega) (by omega) hfi hi (hr.fr0 hf') (hl.fr0 hf') (hp'.fr0 hf') hcx' htl hpw')
        · exact climb_right wi hw1 hw32 leaf lo ln lc f n i D ps vs g o xc w hr hp hcap hD (by omega) (by omega) hn hin hi hll hpw (fun w' hf' => ih (f + hf n) (n - hf n) i _ _ _ w' (by omega) (by omega) (by omega) (by omega) (by omega) (hr.fr0 hf') (hl.fr0 hf') (hp'.fr0 hf') hcx' htl hpw')
end Go.Proofs.YtocdnomfpgdglaaDoor

namespace Go.Proofs.YtocdnomfpgdglaaDoor
open Go.RowKit

theorem norm_id {a : List Nat} (h : ∀ v ∈ a, v < 256) : norm a = a := by
  rw [norm]
  conv => rhs; rw [← List.map_id a]
  exact List.map_congr_left (fun v hv => Nat.mod_eq_of_lt (h v hv))
theorem gsame_D {w : World} {x y : Value} {a b : List Nat} (hx : Sl w x a) (hy : Sl w y b) (ha : a.length ≤ 140737488355328) : Calls Tryd.prog 11 #[x, y] w fun e w' => e = .returned (.bool (decide (a = b))) ∧ Fr (fun _ => False) w w' := by
  refine (same_any x y a b w hx.s hy.s ha).mono ?_
  rintro e w' ⟨rfl, hn⟩
  refine ⟨?_, Fr.of_drewN hn⟩
  rw [sameB, norm_id hx.b, norm_id hy.b]
set_option maxRecDepth 100000 in
set_option maxHeartbeats 2000000 in
/-- The document's CheckPath. -/
theorem gcheckPath_any (j i n : Int) (lv rv x : Value) (leaf root : List Nat) (vs : List Value) (ps : List (List Nat)) (w : World) (hg_ : GR w) (hl : Sl w lv leaf) (hr : Sl w rv root) (hp : Pcs w x vs ps) (hcx : Cp x) (hn : n < 9223372036854775808) (hps : ps.length ≤ 8000000) :
    Calls Tryd.prog 35 #[.int .i64 j, lv, .int .i64 i, .int .i64 n, x, rv] w fun e w' => e = .returned (.bool (chkP j leaf i n ps root)) ∧ Fr (fun _ => False) w w' := by
  obtain ⟨lo, lc, rfl⟩ := hl.form
  obtain ⟨rr, rc, rfl⟩ := hr.form
  obtain ⟨xo, xc, rfl⟩ := hp.form
  by_cases h1o : j < 1 ∨ 32 < j
  · have h1 : ¬ (1 ≤ j ∧ j ≤ 32) := by omega
    have hB : chkP j leaf i n ps root = false := by rw [chkP, decide_eq_false h1]; rfl
    rw [hB]
    have HM := hide h1o
    clear hg_ hl hr hp hcx hn hps hB h1 h1o
    generalize leaf.length = LL at *
    generalize root.length = RL at *
    generalize ps.length = PL at *
    go_enter Tryd.func35, Tryd.ntmps35
    go_wp2_with fail
    refine (may_no j _ (unhide HM)).mono ?_
    rintro e' w0 ⟨rfl, rfl⟩
    go_wp2_with fail
    go_ret
    exact ⟨rfl, Fr.refl _ _⟩
  · have h1 : 1 ≤ j ∧ j ≤ 32 := by omega
    clear h1o
    have HM := hide h1
    by_cases h2' : i < 0
    · have h2 : ¬ 0 ≤ i := by omega
      have hB : chkP j leaf i n ps root = false := by rw [chkP, decide_eq_true h1, decide_eq_false h2]; rfl
      rw [hB]
      clear hg_ hl hr hp hcx hn hps hB h1
      generalize leaf.length = LL at *
      generalize root.length = RL at *
      generalize ps.length = PL at *
      go_enter Tryd.func35, Tryd.ntmps35
      go_wp2_with fail
      refine (may_yes j _ (unhide HM).1 (unhide HM).2).mono ?_
      rintro e' w0 ⟨rfl, rfl⟩
      go_wp2_with fail
      go_ret
      exact ⟨rfl, Fr.refl _ _⟩
    · have h2 : 0 ≤ i := by omega
      by_cases h3' : n ≤ i
      · have h3 : ¬ i < n := by omega
        have hB : chkP j leaf i n ps root = false := by rw [chkP, decide_eq_true h1, decide_eq_true h2, decide_eq_false h3]; rfl
        rw [hB]
        clear hg_ hl hr hp hcx hn hps hB h1
        generalize leaf.length = LL at *
        generalize root.length = RL at *
        generalize ps.length = PL at *
        go_enter Tryd.func35, Tryd.ntmps35
        go_wp2_with fail
        refine (may_yes j _ (unhide HM).1 (unhide HM).2).mono ?_
        rintro e' w0 ⟨rfl, rfl⟩
        go_wp2_with fail
        go_ret
        exact ⟨rfl, Fr.refl _ _⟩
      · have h3 : i < n := by omega
        have hce : chkP j leaf i n ps root = (wdq j [leaf, root] && (wdq j ps && (decide (ps.length = dep 0 n.toNat i.toNat 1) && decide (topv j.toNat leaf 0 n.toNat i.toNat 1 ps = root)))) := by
          rw [chkP, decide_eq_true h1, decide_eq_true h2, decide_eq_true h3]; rfl
        by_cases h4 : (leaf.length : Int) = j
        · by_cases h5 : (root.length : Int) = j
          · have hq1 : wdq j [leaf, root] = true := by simp [wdq, h4, h5]
            clear hce
            have hwd := gwide_any j _ vs ps w hp (by omega)
            obtain ⟨wi, rfl⟩ : ∃ k : Nat, j = (k : Int) := ⟨j.toNat, by omega⟩
            obtain ⟨I, rfl⟩ : ∃ k : Nat, i = (k : Int) := ⟨i.toNat, by omega⟩
            obtain ⟨N, rfl⟩ : ∃ k : Nat, n = (k : Int) := ⟨n.toNat, by omega⟩
            have hce : chkP wi leaf I N ps root = (wdq wi [leaf, root] && (wdq wi ps && (decide (ps.length = dep 0 N I 1) && decide (topv wi leaf 0 N I 1 ps = root)))) := by
              rw [chkP, decide_eq_true h1, decide_eq_true h2, decide_eq_true h3]; rfl
            rw [hce, hq1, Bool.true_and]
            clear hce hq1
            have h2'' : ¬ (I : Int) < 0 := by omega
            have h3'' : ¬ (N : Int) ≤ (I : Int) := by omega
            have h6 : ¬ N ≤ I := by omega
            have hlw : leaf.length = wi := by omega
            have hrw : root.length = wi := by omega
            rw [hlw] at hl ⊢
            rw [hrw] at hr ⊢
            cases hq2 : wdq wi ps with
            | false =>
              rw [hq2] at hwd
              rw [Bool.false_and]
              have HC := hide hwd
              clear hg_ hl hr hp hcx hn hps h1 h2 h3 hwd hq2 h4 h5 h2' h3' hlw hrw
              generalize ps.length = PL at *
              go_enter Tryd.func35, Tryd.ntmps35
              go_wp2_with fail
              refine (may_yes wi _ (unhide HM).1 (unhide HM).2).mono ?_
              rintro e' w0 ⟨rfl, rfl⟩
              go_wp2_with fail
              refine (unhide HC).mono ?_
              rintro e' w1 ⟨rfl, rfl⟩
              go_wp2_with fail
              go_ret
              exact ⟨rfl, Fr.refl _ _⟩
            | true =>
              rw [hq2] at hwd
              rw [Bool.true_and]
              have hpw : ∀ p ∈ ps, p.length = wi := fun p hp => by have := wdq_true hq2 p hp; omega
              have hcl := climb_any wi (by omega) (by omega) leaf hlw lo wi lc N 0 N I ps vs _ w (Nat.le_refl _) (by omega) (by omega) (by omega) (by omega) hg_ hl hp hcx hps hpw
              unfold ClSays at hcl
              rw [Nat.sub_zero] at hcl
              have hTw := topv_wid wi (by omega) (by omega) leaf hlw _ 0 N I 1 ps (Nat.le_refl _)
              generalize topv wi leaf 0 N I 1 ps = T at *
              generalize stpv wi leaf 0 N I ps = SS at *
              by_cases hd : ps.length = dep 0 N I 1
              · rw [decide_eq_true hd, Bool.true_and]
                obtain ⟨BB, hBB⟩ : ∃ BB, decide (T = root) = BB := ⟨_, rfl⟩
                rw [hBB]
                have HC := hide (And.intro hwd (And.intro hcl (And.intro hd (And.intro hr (And.intro hBB hTw)))))
                clear hg_ hl hr hp hcx hn hps h1 h2 h3 hwd hq2 h4 h5 h2' h3' hlw hrw hpw hcl hTw hBB hd
                generalize ps.length = PL at *
                go_enter Tryd.func35, Tryd.ntmps35
                go_wp2_with fail
                refine (may_yes wi _ (unhide HM).1 (unhide HM).2).mono ?_
                rintro e' w0 ⟨rfl, rfl⟩
                go_wp2_with fail
                refine (unhide HC).1.mono ?_
                rintro e' w1 ⟨rfl, rfl⟩
                go_wp2_with fail
                refine (unhide HC).2.1.mono ?_
                rintro e' w2 ⟨hA, -, hF⟩
                obtain ⟨ho, hn, hc, so, sc, ss, rfl, hS, -, -⟩ := hA (unhide HC).2.2.1
                have H1 := hide (And.intro hS hF)
                clear hA hS hF
                generalize ss.length = SN at *
                go_wp2_with fail
                refine (gsame_D (unhide H1).1 ((unhide HC).2.2.2.1.fr0 (unhide H1).2) (by have h1 := (unhide HC).2.2.2.2.2; have h2 := (unhide HM).2; omega)).mono ?_
                rintro e' w3 ⟨rfl, hF⟩
                rw [(unhide HC).2.2.2.2.1]
                have H2 := hide ((unhide H1).2.trans hF (fun _ _ h => h))
                clear hF
                go_wp2_with fail
                go_ret
                exact ⟨rfl, unhide H2⟩
              · rw [decide_eq_false hd, Bool.false_and]
                have HC := hide (And.intro hwd (And.intro hcl hd))
                clear hg_ hl hr hp hcx hn hps h1 h2 h3 hwd hq2 h4 h5 h2' h3' hlw hrw hpw hcl hTw hd
                generalize ps.length = PL at *
                go_enter Tryd.func35, Tryd.ntmps35
                go_wp2_with fail
                refine (may_yes wi _ (unhide HM).1 (unhide HM).2).mono ?_
                rintro e' w0 ⟨rfl, rfl⟩
                go_wp2_with fail
                refine (unhide HC).1.mono ?_
                rintro e' w1 ⟨rfl, rfl⟩
                go_wp2_with fail
                refine (unhide HC).2.1.mono ?_
                rintro e' w2 ⟨-, hB, hF⟩
                obtain ⟨ho, hn, hc, rfl⟩ := hB (unhide HC).2.2
                have H1 := hide hF
                clear hB hF
                go_wp2_with fail
                go_ret
                exact ⟨rfl, unhide H1⟩
          · have hB : chkP j leaf i n ps root = false := by
              rw [hce, wdq_false j [leaf, root] 1 (by simp) (by simpa using h5)]; rfl
            rw [hB]
            have q5 : ((root.length : Int) == j) = false := beq_false_of_ne h5
            have q4 : ((leaf.length : Int) == j) = true := by rw [h4]; simp
            clear hce
            clear hg_ hl hr hp hcx hn hps hB h1
            generalize leaf.length = LL at *
            generalize root.length = RL at *
            generalize ps.length = PL at *
            go_enter Tryd.func35, Tryd.ntmps35
            go_wp2_with fail
            refine (may_yes j _ (unhide HM).1 (unhide HM).2).mono ?_
            rintro e' w0 ⟨rfl, rfl⟩
            go_wp2_with fail
            go_ret
            exact ⟨rfl, Fr.refl _ _⟩
        · have hB : chkP j leaf i n ps root = false := by
            rw [hce, wdq_false j [leaf, root] 0 (by simp) (by simpa using h4)]; rfl
          rw [hB]
          have q4 : ((leaf.length : Int) == j) = false := beq_false_of_ne h4
          clear hce
          clear hg_ hl hr hp hcx hn hps hB h1
          generalize leaf.length = LL at *
          generalize root.length = RL at *
          generalize ps.length = PL at *
          go_enter Tryd.func35, Tryd.ntmps35
          go_wp2_with fail
          refine (may_yes j _ (unhide HM).1 (unhide HM).2).mono ?_
          rintro e' w0 ⟨rfl, rfl⟩
          go_wp2_with fail
          go_ret
          exact ⟨rfl, Fr.refl _ _⟩
end Go.Proofs.YtocdnomfpgdglaaDoor

namespace Go.Proofs.YtocdnomfpgdglaaDoor
open Go.RowKit

set_option maxRecDepth 100000 in
set_option maxHeartbeats 2000000 in
/-- The document's CheckMany: the guards. -/
theorem gcm_no (j n : Int) (lv pv xv rv : Value) (ls hs : List (List Nat)) (zs : List Int) (root : List Nat) (us vs : List Value) (w : World) (hl : Pcs w lv us ls) (hx : Ints w pv zs) (hh : Pcs w xv vs hs) (hr : Sl w rv root) (hzl : zs.length ≤ 8000000) (hzb : ∀ z ∈ zs, -9223372036854775808 ≤ z) (hln : ls.length ≤ 8000000) (hhn : hs.length ≤ 8000000)
    (h : ¬ (1 ≤ j ∧ j ≤ 32 ∧ 0 ≤ n ∧ rsF n 0 zs = true ∧ ls.length = zs.length ∧ (root.length : Int) = j ∧ wdq j ls = true ∧ wdq j hs = true)) :
    Calls Tryd.prog 39 #[.int .i64 j, lv, pv, .int .i64 n, xv, rv] w fun e w' => e = .returned (.bool false) ∧ Fr (fun _ => False) w w' := by
  have hri := grising_any pv zs n w hx (by omega) hzb
  have hw1 := fun w' (hf : Fr (fun _ => False) w w') => gwide_any j lv us ls w' (hl.fr0 hf) (by omega)
  have hw2 := fun w' (hf : Fr (fun _ => False) w w') => gwide_any j xv vs hs w' (hh.fr0 hf) (by omega)
  obtain ⟨lo, lc, rfl⟩ := hl.form
  obtain ⟨po, pc, rfl⟩ := hx.form
  obtain ⟨ho, hc, rfl⟩ := hh.form
  obtain ⟨rr, rc, rfl⟩ := hr.form
  have HW := hide (And.intro hri (And.intro hw1 hw2))
  clear hl hx hh hr hzl hzb hln hhn hri hw1 hw2
  by_cases h1 : j < 1 ∨ 32 < j
  · have HM := hide h1
    clear h h1 HW
    generalize hLN : ls.length = LN at *
    generalize hZN : zs.length = ZN at *
    generalize hHN : hs.length = HN at *
    generalize hRN : root.length = RN at *
    go_enter Tryd.func39, Tryd.ntmps39
    go_wp2_with fail
    refine (may_no j _ (unhide HM)).mono ?_
    rintro e' w0 ⟨rfl, rfl⟩
    go_wp2_with fail
    go_ret
    exact ⟨rfl, Fr.refl _ _⟩
  · have h1' : 1 ≤ j ∧ j ≤ 32 := by omega
    have HM := hide h1'
    by_cases h2 : n < 0
    · clear h h1 HW h1'
      generalize hLN : ls.length = LN at *
      generalize hZN : zs.length = ZN at *
      generalize hHN : hs.length = HN at *
      generalize hRN : root.length = RN at *
      go_enter Tryd.func39, Tryd.ntmps39
      go_wp2_with fail
      refine (may_yes j _ (unhide HM).1 (unhide HM).2).mono ?_
      rintro e' w0 ⟨rfl, rfl⟩
      go_wp2_with fail
      go_ret
      exact ⟨rfl, Fr.refl _ _⟩
    · cases h4 : rsF n 0 zs with
      | false =>
        clear h h1 h1'
        generalize hLN : ls.length = LN at *
        generalize hZN : zs.length = ZN at *
        generalize hHN : hs.length = HN at *
        generalize hRN : root.length = RN at *
        go_enter Tryd.func39, Tryd.ntmps39
        go_wp2_with fail
        refine (may_yes j _ (unhide HM).1 (unhide HM).2).mono ?_
        rintro e' w0 ⟨rfl, rfl⟩
        go_wp2_with fail
        refine (unhide HW).1.mono ?_
        rintro e' w1 ⟨rfl, hF⟩
        rw [h4]
        have H1 := hide hF
        clear hF
        go_wp2_with fail
        go_ret
        exact ⟨rfl, unhide H1⟩
      | true =>
        by_cases h5 : ls.length = zs.length
        · have q5 : ((ls.length : Int) == (zs.length : Int)) = true := by rw [h5]; simp
          by_cases h6 : (root.length : Int) = j
          · have q6 : ((root.length : Int) == j) = true := by rw [h6]; simp
            cases h7 : wdq j ls with
            | false =>
              clear h h1 h1'
              generalize hLN : ls.length = LN at *
              generalize hZN : zs.length = ZN at *
              generalize hHN : hs.length = HN at *
              generalize hRN : root.length = RN at *
              subst h5
              go_enter Tryd.func39, Tryd.ntmps39
              go_wp2_with fail
              refine (may_yes j _ (unhide HM).1 (unhide HM).2).mono ?_
              rintro e' w0 ⟨rfl, rfl⟩
              go_wp2_with fail
              refine (unhide HW).1.mono ?_
              rintro e' w1 ⟨rfl, hF⟩
              rw [h4]
              have H1 := hide hF
              clear hF
              go_wp2_with fail
              refine ((unhide HW).2.1 _ (unhide H1)).mono ?_
              rintro e' w2 ⟨rfl, rfl⟩
              rw [h7]
              go_wp2_with fail
              go_ret
              exact ⟨rfl, unhide H1⟩
            | true =>
              have h8 : wdq j hs = false := by
                cases hq : wdq j hs with
                | false => rfl
                | true => exact absurd ⟨h1'.1, h1'.2, by omega, h4, h5, h6, h7, hq⟩ h
              clear h h1 h1'
              generalize hLN : ls.length = LN at *
              generalize hZN : zs.length = ZN at *
              generalize hHN : hs.length = HN at *
              generalize hRN : root.length = RN at *
              subst h5
              go_enter Tryd.func39, Tryd.ntmps39
              go_wp2_with fail
              refine (may_yes j _ (unhide HM).1 (unhide HM).2).mono ?_
              rintro e' w0 ⟨rfl, rfl⟩
              go_wp2_with fail
              refine (unhide HW).1.mono ?_
              rintro e' w1 ⟨rfl, hF⟩
              rw [h4]
              have H1 := hide hF
              clear hF
              go_wp2_with fail
              refine ((unhide HW).2.1 _ (unhide H1)).mono ?_
              rintro e' w2 ⟨rfl, rfl⟩
              rw [h7]
              go_wp2_with fail
              refine ((unhide HW).2.2 _ (unhide H1)).mono ?_
              rintro e' w3 ⟨rfl, rfl⟩
              rw [h8]
              go_wp2_with fail
              go_ret
              exact ⟨rfl, unhide H1⟩
          · have q6 : ((root.length : Int) == j) = false := beq_false_of_ne h6
            clear h h1 h1'
            generalize hLN : ls.length = LN at *
            generalize hZN : zs.length = ZN at *
            generalize hHN : hs.length = HN at *
            generalize hRN : root.length = RN at *
            subst h5
            go_enter Tryd.func39, Tryd.ntmps39
            go_wp2_with fail
            refine (may_yes j _ (unhide HM).1 (unhide HM).2).mono ?_
            rintro e' w0 ⟨rfl, rfl⟩
            go_wp2_with fail
            refine (unhide HW).1.mono ?_
            rintro e' w1 ⟨rfl, hF⟩
            rw [h4]
            have H1 := hide hF
            clear hF
            go_wp2_with fail
            go_ret
            exact ⟨rfl, unhide H1⟩
        · have q5 : ((ls.length : Int) == (zs.length : Int)) = false := beq_false_of_ne (by omega)
          clear h h1 h1'
          generalize hLN : ls.length = LN at *
          generalize hZN : zs.length = ZN at *
          generalize hHN : hs.length = HN at *
          generalize hRN : root.length = RN at *
          go_enter Tryd.func39, Tryd.ntmps39
          go_wp2_with fail
          refine (may_yes j _ (unhide HM).1 (unhide HM).2).mono ?_
          rintro e' w0 ⟨rfl, rfl⟩
          go_wp2_with fail
          refine (unhide HW).1.mono ?_
          rintro e' w1 ⟨rfl, hF⟩
          rw [h4]
          have H1 := hide hF
          clear hF
          go_wp2_with fail
          go_ret
          exact ⟨rfl, unhide H1⟩
set_option maxRecDepth 100000 in
set_option maxHeartbeats 2000000 in
/-- The document's CheckMany behind its guards. -/
theorem gcm_yes (wi N : Nat) (hw1 : 1 ≤ wi) (hw32 : wi ≤ 32) (lo : Option Addr) (ZN lc : Nat) (po : Option Addr) (pc : Nat) (ho : Option Addr) (HN hc : Nat) (rr : Option Addr) (rc : Nat) (root : List Nat) (G : Option (List Nat × List (List Nat))) (w : World) (hr : Sl w (.slice rr wi rc) root)
    (hri : Calls Tryd.prog 66 #[.slice po ZN pc, .int .i64 N] w fun e w' => e = .returned (.bool true) ∧ Fr (fun _ => False) w w')
    (hwl : ∀ w', Fr (fun _ => False) w w' → Calls Tryd.prog 68 #[.int .i64 wi, .slice lo ZN lc] w' fun e w'' => e = .returned (.bool true) ∧ w'' = w')
    (hwh : ∀ w', Fr (fun _ => False) w w' → Calls Tryd.prog 68 #[.int .i64 wi, .slice ho HN hc] w' fun e w'' => e = .returned (.bool true) ∧ w'' = w')
    (hga : ∀ w', Fr (fun _ => False) w w' → Calls Tryd.prog 75 #[.int .i64 wi, .int .i64 N, .slice po ZN pc, .slice lo ZN lc, .slice ho HN hc] w' fun e w'' => (∀ t r, G = some (t, r) → ∃ l, GaYes w'' e t l r) ∧ (G = none → GaNo e) ∧ Fr (fun _ => False) w' w'')
    (hGw : ∀ t r, G = some (t, r) → t.length = wi) :
    Calls Tryd.prog 39 #[.int .i64 wi, .slice lo ZN lc, .slice po ZN pc, .int .i64 N, .slice ho HN hc, .slice rr wi rc] w fun e w' => e = .returned (.bool (gEnd G root)) ∧ Fr (fun _ => False) w w' := by
  have h1' : 1 ≤ (wi : Int) ∧ (wi : Int) ≤ 32 := by omega
  have HM := hide h1'
  have q2 : ¬ (N : Int) < 0 := by omega
  have q5 : ((ZN : Int) == (ZN : Int)) = true := by simp
  have q6 : ((wi : Int) == (wi : Int)) = true := by simp
  have HC := hide (And.intro hri (And.intro hwl (And.intro hwh (And.intro hga (And.intro hr hGw)))))
  clear hri hwl hwh hga hr hGw h1' hw1 hw32
  go_enter Tryd.func39, Tryd.ntmps39
  go_wp2_with fail
  refine (may_yes wi _ (unhide HM).1 (unhide HM).2).mono ?_
  rintro e' w0 ⟨rfl, rfl⟩
  go_wp2_with fail
  refine (unhide HC).1.mono ?_
  rintro e' w1 ⟨rfl, hF⟩
  have H1 := hide hF
  clear hF
  go_wp2_with fail
  refine ((unhide HC).2.1 _ (unhide H1)).mono ?_
  rintro e' w2 ⟨rfl, rfl⟩
  go_wp2_with fail
  refine ((unhide HC).2.2.1 _ (unhide H1)).mono ?_
  rintro e' w3 ⟨rfl, rfl⟩
  go_wp2_with fail
  refine ((unhide HC).2.2.2.1 _ (unhide H1)).mono ?_
  rintro e' w4 ⟨hY, hN, hF⟩
  have H4 := hide ((unhide H1).trans hF (fun _ _ h => h))
  clear hF
  rcases G with _ | ⟨t, r⟩
  · obtain rfl := hN rfl
    clear hY hN
    go_wp2_with fail
    go_ret
    exact ⟨rfl, unhide H4⟩
  · obtain ⟨l, yo, yn, yc, la, lc1, us, xa, xc1, vs, rfl, s1, -, -, -, -⟩ := hY t r rfl
    have HS := hide s1
    clear hY hN s1
    generalize l.length = L1 at *
    rcases r with _ | ⟨p, q⟩
    · simp only [List.length_nil]
      go_wp2_with fail
      refine (gsame_D (unhide HS) ((unhide HC).2.2.2.2.1.fr0 (unhide H4)) (by have h1 := (unhide HC).2.2.2.2.2 _ _ rfl; have h2 := (unhide HM).2; omega)).mono ?_
      rintro e' w5 ⟨rfl, hF⟩
      have H5 := hide ((unhide H4).trans hF (fun _ _ h => h))
      clear hF
      go_wp2_with fail
      go_ret
      exact ⟨rfl, unhide H5⟩
    · simp only [List.length_cons]
      have q7 : ((((q.length + 1 : Nat)) : Int) == 0) = false := beq_false_of_ne (by omega)
      have q8 : ¬ (q.length : Int) + 1 = 0 := by omega
      generalize q.length = QN at *
      go_wp2_with fail
      go_ret
      exact ⟨rfl, unhide H4⟩
/-- The document's CheckMany. -/
theorem gcheckMany_any (j n : Int) (lv pv xv rv : Value) (ls hs : List (List Nat)) (zs : List Int) (root : List Nat) (us vs : List Value) (w : World) (hg : GR w) (hl : Pcs w lv us ls) (hlc : Cp lv) (hx : Ints w pv zs) (hh : Pcs w xv vs hs) (hhc : Cp xv) (hr : Sl w rv root) (hzl : zs.length ≤ 8000000) (hzb : ∀ z ∈ zs, -9223372036854775808 ≤ z) (hln : ls.length ≤ 8000000) (hhn : hs.length ≤ 8000000) (hn : n < 9223372036854775808) :
    Calls Tryd.prog 39 #[.int .i64 j, lv, pv, .int .i64 n, xv, rv] w fun e w' => e = .returned (.bool (chkM j n ls zs hs root)) ∧ Fr (fun _ => False) w w' := by
  by_cases h : 1 ≤ j ∧ j ≤ 32 ∧ 0 ≤ n ∧ rsF n 0 zs = true ∧ ls.length = zs.length ∧ (root.length : Int) = j ∧ wdq j ls = true ∧ wdq j hs = true
  · obtain ⟨h1, h2, h3, h4, h5, h6, h7, h8⟩ := h
    have hri := grising_any pv zs n w hx (by omega) hzb
    have hw1 := fun w' (hf : Fr (fun _ => False) w w') => gwide_any j lv us ls w' (hl.fr0 hf) (by omega)
    have hw2 := fun w' (hf : Fr (fun _ => False) w w') => gwide_any j xv vs hs w' (hh.fr0 hf) (by omega)
    rw [chkM_true h1 h2 h3 h4 h5 h6 h7 h8]
    rw [h4] at hri
    rw [h7] at hw1
    rw [h8] at hw2
    obtain ⟨s1, s2⟩ := rsF_ok n zs 0 h4
    obtain ⟨wi, rfl⟩ : ∃ k : Nat, j = (k : Int) := ⟨j.toNat, by omega⟩
    obtain ⟨N, rfl⟩ : ∃ k : Nat, n = (k : Int) := ⟨n.toNat, by omega⟩
    simp only [Int.toNat_natCast]
    have hlw : ∀ p ∈ ls, p.length = wi := fun p hp => by have := wdq_true h7 p hp; omega
    have hhw : ∀ p ∈ hs, p.length = wi := fun p hp => by have := wdq_true h8 p hp; omega
    have hm0 : zs.map (· - ((0 : Nat) : Int)) = zs := by simp
    have hga := fun w' (hf : Fr (fun _ => False) w w') => gather_any wi (by omega) (by omega) N 0 N zs ls hs pv lv xv us vs w' (Nat.le_refl _) (by omega) (hg.fr0 hf) s1 (fun z hz => ⟨by have := s2 z hz; omega, by have := s2 z hz; omega⟩) hzl (by omega) hlw hhw (by rw [hm0]; exact hx.fr0 hf) (hl.fr0 hf) hlc (hh.fr0 hf) hhc
    unfold GaSays at hga
    rw [← h5, List.take_length] at hga
    obtain ⟨lo, lc, rfl⟩ := hl.form
    obtain ⟨po, pc, rfl⟩ := hx.form
    obtain ⟨ho, hc, rfl⟩ := hh.form
    obtain ⟨rr, rc, rfl⟩ := hr.form
    have hrw : root.length = wi := by omega
    rw [hrw] at hr ⊢
    rw [← h5] at hri hga ⊢
    exact gcm_yes wi N (by omega) (by omega) lo _ lc po pc ho _ hc rr rc root _ w hr hri hw1 hw2 (fun w' hf => (hga w' hf).mono (fun e w'' ⟨a, b, c⟩ => ⟨fun t r h => ⟨_, a t r h⟩, b, c⟩)) (fun t r h => (gth_wid wi (by omega) (by omega) N 0 N zs ls hs t r (Nat.le_refl _) h5 hlw hhw h).1)
  · rw [chkM_false h]
    exact gcm_no j n lv pv xv rv ls hs zs root us vs w hl hx hh hr hzl hzb hln hhn h
end Go.Proofs.YtocdnomfpgdglaaDoor

namespace Go.Proofs.YtocdnomfpgdglaaDoor
open Go.RowKit

set_option maxRecDepth 100000 in
set_option maxHeartbeats 2000000 in
/-- The document's ahead: a step ahead of others. -/
theorem ahead_any (ho : Option Addr) (hn hc : Nat) (vo : Option Addr) (vn vc : Nat) (b0 : Bool) (so : Option Addr) (sc : Nat) (ss : List (Value × Value × Bool)) (ts : List (List Nat × List Nat × Bool)) (wb w : World) (hO : OT wb w (.slice so ss.length sc) ss) (hK : StOk w ss ts) (hl : ss.length ≤ 8000000) :
    Calls Tryd.prog 98 #[.agg #[.slice ho hn hc, .slice vo vn vc, .bool b0], .slice so ss.length sc] w fun e w' => ∃ da dc, e = .returned (.slice da (ss.length + 1) dc) ∧ OT w w' (.slice da (ss.length + 1) dc) ((.slice ho hn hc, .slice vo vn vc, b0) :: ss) := by
  have H1 := hide (And.intro hO (And.intro hK hl))
  clear hO hK hl
  generalize hSN : ss.length = SN at *
  go_enter Tryd.func98, Tryd.ntmps98
  go_wp2_with fail
  obtain ⟨W2, hW2⟩ : ∃ W2, w.alloc (.cells #[.slice ho hn hc, .slice vo vn vc, .bool b0] 131) = W2 := ⟨_, rfl⟩
  rw [hW2]
  obtain ⟨-, -, -, hF2⟩ := box3s w _ _ _ _ W2 hW2
  obtain ⟨W3, hW3⟩ : ∃ W3, W2.alloc (.cells #[.slice ho hn hc, .slice vo vn vc, .bool b0] 131) = W3 := ⟨_, rfl⟩
  rw [hW3]
  have hsz : w.heap.size + 1 = W2.heap.size := by rw [← hW2]; simp
  rw [hsz]
  have hT0 := OT.lit (Fr.refl _ W2) ho hn hc vo vn vc b0 W3 hW3
  have HZ := hide (And.intro hF2 hT0)
  clear hF2 hT0 hW2 hW3 hsz
  generalize w.heap.size = P at *
  go_loopw [5, 6] (fun dv iv wr => ∃ (k : Nat), k ≤ SN ∧ iv = .int .i64 (k : Nat) ∧ OT W2 wr dv ((.slice ho hn hc, .slice vo vn vc, b0) :: ss.take k)) (fun _ iv _ => SN - (intOf iv).toNat)
  case atStart => exact ⟨0, Nat.zero_le _, rfl, (unhide HZ).2⟩
  case round =>
    obtain ⟨k, hk, rfl, hT⟩ := hrel
    have hSD := (unhide H1).2.2
    have htl : (((Value.slice ho hn hc, Value.slice vo vn vc, b0) :: ss.take k) : List (Value × Value × Bool)).length = k + 1 := by rw [List.length_cons, List.length_take]; omega
    by_cases hlt : k < SN
    · have hlt' : (k : Int) < (SN : Int) := by omega
      have hks : k < ss.length := by omega
      have hF1r : Fr (fun _ => False) w wr := (unhide HZ).1.trans hT.fr (fun _ _ h => h)
      obtain ⟨g2, rfl, e0, e1, e2⟩ := (unhide H1).1.cell hF1r k hks
      obtain ⟨la, ln', lc', ra, rn, rc, es⟩ := (unhide H1).2.1.form k hks
      have htk : ss.take (k + 1) = ss.take k ++ [ss[k]] := by rw [List.take_add_one, List.getElem?_eq_getElem hks]; rfl
      generalize ss[k].2.2 = b at *
      rw [es] at e0 e1 htk
      simp only at e0 e1
      obtain ⟨ao, cap, w', hr, hown, hgrow⟩ := app_step wr W2.heap.size _ _ la ln' lc' ra rn rc b hT.own (by rw [htl]; omega) hT.fr.size
      obtain ⟨da, dc, rfl⟩ := hT.form
      rw [htl] at hr hown
      have hT2 : OT W2 w' (.slice ao (k + 1 + 1) cap) ((.slice ho hn hc, .slice vo vn vc, b0) :: ss.take (k + 1)) := by
        refine ⟨?_, (hT.fr.alloc _).grown hgrow (fun g hg => .inr (hT.own.lt g hg).1)⟩
        have e : (((Value.slice ho hn hc, Value.slice vo vn vc, b0) :: ss.take (k + 1)) : List (Value × Value × Bool)).length = k + 1 + 1 := by rw [List.length_cons, List.length_take]; omega
        rw [e, htk, ← List.cons_append]
        exact hown
      have w1' : IntKind.i64.wrap ((k : Int) + 1) = (k : Int) + 1 := by rw [IntKind.wrap_i64]; omega
      have HR := hide hr
      have HT := hide hT2
      clear hr hown hgrow hT hT2 htk es hF1r
      rw [htl]
      clear htl
      go_wp2_with (at_builtin; refine wpList_app rfl (.tmp 15) (.tmp 20) 89 89 rfl _ _ _ rfl rfl (unhide HR) ?_)
      exact ⟨⟨k + 1, by omega, by go_num, unhide HT⟩, by simp [intOf]; omega⟩
    · have hlt' : ¬ (k : Int) < (SN : Int) := by omega
      have hkN : k = SN := by omega
      rw [List.take_of_length_le (by omega)] at hT htl
      obtain ⟨da, dc, rfl⟩ := hT.form
      have HT := hide (And.intro hT (And.intro htl hkN))
      rw [htl]
      clear hT htl hkN hSD
      go_wp2_with fail
      go_ret
      have h1 := (unhide HT).2.1
      have h2 := (unhide HT).2.2
      have h3 := (unhide HT).1
      rw [h1] at h3
      subst h2
      exact ⟨da, dc, rfl, h3.base (unhide HZ).1⟩
end Go.Proofs.YtocdnomfpgdglaaDoor

namespace Go.Proofs.YtocdnomfpgdglaaDoor
open Go.RowKit

/-- The steps from a part down to another. -/
def stq (wi : Nat) (r : List Nat) (f n tf tn : Nat) (ps : List (List Nat)) : List (List Nat × List Nat × Bool) :=
  if _h : (f = tf ∧ n = tn) ∨ n < 2 then []
  else if tf < f + hf n then (topv wi r f (hf n) tf tn ps.dropLast, ps.getLastD [], true) :: stq wi r f (hf n) tf tn ps.dropLast
  else (ps.getLastD [], topv wi r (f + hf n) (n - hf n) tf tn ps.dropLast, false) :: stq wi r (f + hf n) (n - hf n) tf tn ps.dropLast
termination_by n
decreasing_by
  · exact hf_lt n (by omega)
  · have := hf_pos n; omega
theorem stq_eq (wi : Nat) (r : List Nat) (f n : Nat) (p : List (List Nat)) : stq wi r f n f n p = [] := by rw [stq, dif_pos (.inl ⟨rfl, rfl⟩)]
theorem stq_l {wi : Nat} {r : List Nat} {f n tf tn : Nat} {p : List (List Nat)} (h2 : 2 ≤ n) (hne : ¬ (f = tf ∧ n = tn)) (hlt : tf < f + hf n) : stq wi r f n tf tn p = (topv wi r f (hf n) tf tn p.dropLast, p.getLastD [], true) :: stq wi r f (hf n) tf tn p.dropLast := by
  conv => lhs; rw [stq, dif_neg (by omega), if_pos hlt]
theorem stq_r {wi : Nat} {r : List Nat} {f n tf tn : Nat} {p : List (List Nat)} (h2 : 2 ≤ n) (hne : ¬ (f = tf ∧ n = tn)) (hlt : ¬ tf < f + hf n) : stq wi r f n tf tn p = (p.getLastD [], topv wi r (f + hf n) (n - hf n) tf tn p.dropLast, false) :: stq wi r (f + hf n) (n - hf n) tf tn p.dropLast := by
  conv => lhs; rw [stq, dif_neg (by omega), if_neg hlt]
/-- Where SUB never went to the right, the old root is taken; else the first hash. -/
def useO (wh : Bool) (f n M : Nat) : Bool := wh && decide ((endF f n M).1 = f)
def rR (wh : Bool) (old : List Nat) (f n M : Nat) (ps : List (List Nat)) : List Nat := if useO wh f n M = true then old else ps.headD []
def rQ (wh : Bool) (f n M : Nat) (ps : List (List Nat)) : List (List Nat) := if useO wh f n M = true then ps else ps.tail
def rOk (wh : Bool) (f n M : Nat) (ps : List (List Nat)) : Prop := (useO wh f n M = true ∨ ps ≠ []) ∧ (rQ wh f n M ps).length = dep f n (endF f n M).1 (endF f n M).2
def RiSays (wi : Nat) (old : List Nat) (ov : Value) (wh : Bool) (f n M : Nat) (ps : List (List Nat)) (x : Value) (w : World) : Prop :=
  Calls Tryd.prog 72 #[.int .i64 wi, .int .i64 ((M - f : Nat) : Int), .int .i64 n, .bool wh, ov, x] w fun e w' =>
    (rOk wh f n M ps → ∃ ao an ac bo bn bc so sc ss, e = .returned (.tuple #[.slice ao an ac, .slice bo bn bc, .slice so ss.length sc, .bool true]) ∧ Sl w' (.slice ao an ac) (olderv wi (rR wh old f n M ps) f n (endF f n M).1 (endF f n M).2 (rQ wh f n M ps)) ∧ Sl w' (.slice bo bn bc) (topv wi (rR wh old f n M ps) f n (endF f n M).1 (endF f n M).2 (rQ wh f n M ps)) ∧ OT w w' (.slice so ss.length sc) ss ∧ StOk w' ss (stq wi (rR wh old f n M ps) f n (endF f n M).1 (endF f n M).2 (rQ wh f n M ps)) ∧ ss.length = dep f n (endF f n M).1 (endF f n M).2) ∧
    (¬ rOk wh f n M ps → ∃ ao an ac bo bn bc, e = .returned (.tuple #[.slice ao an ac, .slice bo bn bc, .slice none 0 0, .bool false])) ∧ Fr (fun _ => False) w w'
set_option maxRecDepth 100000 in
set_option maxHeartbeats 1000000 in
/-- rise: the whole part is the old one. -/
theorem rise_whole (wi : Nat) (old : List Nat) (ov : Value) (f n : Nat) (ps : List (List Nat)) (vs : List Value) (x : Value) (w : World) (ho : Sl w ov old) (hp : Pcs w x vs ps) : RiSays wi old ov true f n (f + n) ps x w := by
  have he : endF f n (f + n) = (f, n) := endF_eq rfl
  have hu : useO true f n (f + n) = true := by rw [useO, he]; simp
  have hR : rR true old f n (f + n) ps = old := by rw [rR, if_pos hu]
  have hQ : rQ true f n (f + n) ps = ps := by rw [rQ, if_pos hu]
  have hk : rOk true f n (f + n) ps ↔ ps.length = 0 := by
    rw [rOk, hQ, he]
    show (_ ∧ ps.length = dep f n f n) ↔ _
    rw [dep_eq]
    exact ⟨fun h => h.2, fun h => ⟨.inl hu, h⟩⟩
  unfold RiSays
  rw [hk, hR, hQ, he]
  simp only [olderv_eq, topv_eq, dep_eq, stq_eq]
  rw [show f + n - f = n by omega]
  obtain ⟨oo, oc, rfl⟩ := ho.form
  obtain ⟨xo, xc, rfl⟩ := hp.form
  have HO := hide ho
  clear ho hp hk hR hQ hu he
  generalize old.length = LN at *
  have q0 : ((n : Int) == (n : Int)) = true := by simp
  by_cases h0 : ps.length = 0
  · rw [h0]
    go_enter Tryd.func72, Tryd.ntmps72
    go_wp2_with fail
    go_returns
    exact ⟨fun _ => ⟨oo, LN, oc, oo, LN, oc, none, 0, [], rfl, unhide HO, unhide HO, OT.nil _, StOk.nil _, rfl⟩, fun h => by first | exact absurd rfl h | exact absurd trivial h, Fr.refl _ _⟩
  · have q1 : ((ps.length : Int) == 0) = false := beq_false_of_ne (by omega)
    generalize ps.length = PN at *
    go_enter Tryd.func72, Tryd.ntmps72
    go_wp2_with fail
    go_returns
    exact ⟨fun h => absurd h h0, fun _ => ⟨oo, LN, oc, oo, LN, oc, rfl⟩, Fr.refl _ _⟩
end Go.Proofs.YtocdnomfpgdglaaDoor

namespace Go.Proofs.YtocdnomfpgdglaaDoor
open Go.RowKit

/-- One hash less. -/
theorem q_step (u : Bool) (ps : List (List Nat)) (D d : Nat) (hlen : ps.length = D + 1) :
    ((u = true ∨ ps ≠ []) ∧ (if u = true then ps else ps.tail).length = d + 1 ↔ (u = true ∨ ps.take D ≠ []) ∧ (if u = true then ps.take D else (ps.take D).tail).length = d) ∧
    ((u = true ∨ ps.take D ≠ []) → ∀ old : List Nat, (if u = true then old else ps.headD []) = (if u = true then old else (ps.take D).headD []) ∧ (if u = true then ps else ps.tail).dropLast = (if u = true then ps.take D else (ps.take D).tail) ∧ (if u = true then ps else ps.tail).getLastD [] = ps[D]'(by omega)) := by
  have hdl : ps.dropLast = ps.take D := by rw [List.dropLast_eq_take, hlen]; rfl
  have hgl : ps.getLastD [] = ps[D] := getLastD_at ps D hlen
  have htl : (ps.take D).length = D := by rw [List.length_take]; omega
  cases u with
  | true =>
    simp only [if_true, true_or, true_and]
    refine ⟨by omega, fun _ _ => ⟨hdl, hgl⟩⟩
  | false =>
    clear hdl hgl htl
    rcases ps with _ | ⟨p, q⟩
    · simp at hlen
    · have hq : q.length = D := by simpa using hlen
      rcases D with _ | D
      · have hq0 : q = [] := List.length_eq_zero_iff.1 hq
        subst hq0
        simp
      · refine ⟨?_, fun _ old => ⟨?_, ?_, ?_⟩⟩
        · simp
          omega
        · simp
        · simp only [Bool.false_eq_true, if_false, List.tail_cons, List.take_succ_cons]
          rw [List.dropLast_eq_take, hq]; rfl
        · simp only [Bool.false_eq_true, if_false, List.tail_cons]
          rw [getLastD_at q D hq]; rfl
set_option maxRecDepth 100000 in
set_option maxHeartbeats 1000000 in
/-- rise: no hash is left. -/
theorem rise_short (wi : Nat) (old : List Nat) (ov : Value) (wh : Bool) (f n M : Nat) (vs : List Value) (x : Value) (w : World) (ho : Sl w ov old) (hp : Pcs w x vs []) (hM : f < M) (h : wh = false ∨ ¬ M = f + n) (hno : ¬ rOk wh f n M []) : RiSays wi old ov wh f n M [] x w := by
  unfold RiSays
  obtain ⟨oo, oc, rfl⟩ := ho.form
  obtain ⟨xo, xc, rfl⟩ := hp.form
  clear ho hp
  simp only [List.length_nil]
  generalize old.length = LN at *
  by_cases hm : M = f + n
  · have hw : wh = false := h.resolve_right (fun h => h hm)
    subst hw
    have e : M - f = n := by omega
    rw [e]
    have q0 : ((n : Int) == (n : Int)) = true := by simp
    have HN := hide hno
    clear hm h e hM hno
    go_enter Tryd.func72, Tryd.ntmps72
    go_wp2_with fail
    go_returns
    exact ⟨fun h => absurd h (unhide HN), fun _ => ⟨none, 0, 0, none, 0, 0, rfl⟩, Fr.refl _ _⟩
  · have q0 : (((M - f : Nat) : Int) == (n : Int)) = false := beq_false_of_ne (by omega)
    have q1 : ¬ M - f = n := by omega
    have HN := hide hno
    clear hm h hM hno
    generalize M - f = I at *
    go_enter Tryd.func72, Tryd.ntmps72
    go_wp2_with fail
    go_returns
    exact ⟨fun h => absurd h (unhide HN), fun _ => ⟨none, 0, 0, none, 0, 0, rfl⟩, Fr.refl _ _⟩
end Go.Proofs.YtocdnomfpgdglaaDoor

namespace Go.Proofs.YtocdnomfpgdglaaDoor
open Go.RowKit

set_option maxRecDepth 100000 in
set_option maxHeartbeats 1000000 in
/-- rise: the part's root is the one hash. -/
theorem rise_end (wi : Nat) (old : List Nat) (ov : Value) (f n D : Nat) (ps : List (List Nat)) (vs : List Value) (g o xc : Nat) (w : World) (ho : Sl w ov old) (hp : Pcs w (.slice (some ⟨g, o, none⟩) (D + 1) xc) vs ps) (hcap : D + 1 ≤ xc) (hlen : ps.length = D + 1) (hD8 : D < 8000000) : RiSays wi old ov false f n (f + n) ps (.slice (some ⟨g, o, none⟩) (D + 1) xc) w := by
  have he : endF f n (f + n) = (f, n) := endF_eq rfl
  have hu : ¬ useO false f n (f + n) = true := by rw [useO]; simp
  have hR : rR false old f n (f + n) ps = ps.headD [] := by rw [rR, if_neg hu]
  have hQ : rQ false f n (f + n) ps = ps.tail := by rw [rQ, if_neg hu]
  have hk : rOk false f n (f + n) ps ↔ D = 0 := by
    rw [rOk, hQ, he]
    show (_ ∧ ps.tail.length = dep f n f n) ↔ _
    rw [dep_eq, List.length_tail, hlen]
    exact ⟨fun h => by omega, fun h => ⟨.inr (fun e => by rw [e] at hlen; simp at hlen), by omega⟩⟩
  unfold RiSays
  rw [hk, hR, hQ, he]
  simp only [olderv_eq, topv_eq, dep_eq, stq_eq]
  rw [show f + n - f = n by omega]
  obtain ⟨oo, oc, rfl⟩ := ho.form
  obtain ⟨g', o', vo, vc, eg, hcell, hsl⟩ := hp.nth (Fr.refl _ _) D (by omega)
  cases eg
  have hhd : D = 0 → ps.headD [] = ps[D] := fun h => by
    subst h
    match ps, hlen with
    | p :: q, _ => rfl
  generalize ps[D] = A at *
  have HS := hide (And.intro hsl hhd)
  clear ho hp hk hR hQ hu he hsl hhd hlen
  generalize old.length = LN at *
  generalize A.length = AN at *
  have q0 : ((n : Int) == (n : Int)) = true := by simp
  have q3 : (((D : Int) + 1) == 0) = false := beq_false_of_ne (by omega)
  have q4 : ¬ (D : Int) + 1 = 0 := by omega
  have q5 : IntKind.i64.wrap ((D : Int) + 1 - 1) = (D : Int) := by rw [IntKind.wrap_i64]; omega
  have q6 : (D : Int) < (D : Int) + 1 := by omega
  have q7 : (D : Int) ≤ (xc : Int) := by omega
  by_cases h0 : D = 0
  · subst h0
    have hcell2 : w.cell? ⟨g, o, none⟩ = some (.slice vo AN vc) := hcell
    have HS2 := (unhide HS).2 rfl
    have HS3 := hide (show Sl w (.slice vo AN vc) (ps.headD []) by rw [HS2]; exact (unhide HS).1)
    clear HS2
    go_enter Tryd.func72, Tryd.ntmps72
    go_wp2_with fail
    go_returns
    exact ⟨⟨vo, AN, vc, vo, AN, vc, none, 0, [], rfl, by simpa using unhide HS3, by simpa using unhide HS3, OT.nil _, StOk.nil _, rfl⟩, Fr.refl _ _⟩
  · have q8 : ((D : Int) == 0) = false := beq_false_of_ne (by omega)
    go_enter Tryd.func72, Tryd.ntmps72
    go_wp2_with fail
    go_returns
    exact ⟨fun h => absurd h h0, fun _ => ⟨vo, AN, vc, vo, AN, vc, rfl⟩, Fr.refl _ _⟩
end Go.Proofs.YtocdnomfpgdglaaDoor

namespace Go.Proofs.YtocdnomfpgdglaaDoor
open Go.RowKit

set_option maxRecDepth 100000 in
set_option maxHeartbeats 2000000 in
/-- rise, down to the left: its walk. -/
theorem rise_go_l (wi I n K D g o xc d : Nat) (wh : Bool) (oo : Option Addr) (on oc : Nat) (vo : Option Addr) (vn vc : Nat) (A O T : List Nat) (TS : List (List Nat × List Nat × Bool)) (C : Prop) (w : World) (hcell : w.cell? ⟨g, o + D, none⟩ = some (.slice vo vn vc)) (hsl : Sl w (.slice vo vn vc) A) (hcap : D + 1 ≤ xc) (hD8 : D < 8000000) (hKn : K < n) (hIne : ¬ I = n) (hI : I ≤ K) (hd : C → d ≤ 8000000)
    (hha : Calls Tryd.prog 88 #[.int .i64 n] w fun e w' => e = .returned (.int .i64 (K : Nat)) ∧ w' = w)
    (hnode : ∀ w' x y, C → Fr (fun _ => False) w w' → Sl w' x T → Sl w' y A → Calls Tryd.prog 29 #[.int .i64 wi, x, y] w' fun e w'' => ∃ yo yc, e = .returned (.slice yo wi yc) ∧ Sl w'' (.slice yo wi yc) (nd wi T A) ∧ Fr (fun _ => False) w' w'')
    (ih : ∀ w', Fr (fun _ => False) w w' → Calls Tryd.prog 72 #[.int .i64 wi, .int .i64 (I : Int), .int .i64 (K : Int), .bool wh, .slice oo on oc, .slice (some ⟨g, o, none⟩) D xc] w' fun e w'' => (C → ∃ ao an ac bo bn bc so sc ss, e = .returned (.tuple #[.slice ao an ac, .slice bo bn bc, .slice so ss.length sc, .bool true]) ∧ Sl w'' (.slice ao an ac) O ∧ Sl w'' (.slice bo bn bc) T ∧ OT w' w'' (.slice so ss.length sc) ss ∧ StOk w'' ss TS ∧ ss.length = d) ∧ (¬ C → ∃ ao an ac bo bn bc, e = .returned (.tuple #[.slice ao an ac, .slice bo bn bc, .slice none 0 0, .bool false])) ∧ Fr (fun _ => False) w' w'') :
    Calls Tryd.prog 72 #[.int .i64 wi, .int .i64 (I : Int), .int .i64 (n : Int), .bool wh, .slice oo on oc, .slice (some ⟨g, o, none⟩) (D + 1) xc] w fun e w' => (C → ∃ ao an ac bo bn bc so sc ss, e = .returned (.tuple #[.slice ao an ac, .slice bo bn bc, .slice so ss.length sc, .bool true]) ∧ Sl w' (.slice ao an ac) O ∧ Sl w' (.slice bo bn bc) (nd wi T A) ∧ OT w w' (.slice so ss.length sc) ss ∧ StOk w' ss ((T, A, true) :: TS) ∧ ss.length = d + 1) ∧ (¬ C → ∃ ao an ac bo bn bc, e = .returned (.tuple #[.slice ao an ac, .slice bo bn bc, .slice none 0 0, .bool false])) ∧ Fr (fun _ => False) w w' := by
  have q0 : ((I : Int) == (n : Int)) = false := beq_false_of_ne (by omega)
  have q1 : ¬ I = n := hIne
  have q3 : (((D : Int) + 1) == 0) = false := beq_false_of_ne (by omega)
  have q4 : ¬ (D : Int) + 1 = 0 := by omega
  have q5 : IntKind.i64.wrap ((D : Int) + 1 - 1) = (D : Int) := by rw [IntKind.wrap_i64]; omega
  have q6 : (D : Int) < (D : Int) + 1 := by omega
  have q7 : (D : Int) ≤ (xc : Int) := by omega
  have q8 : (I : Int) ≤ (K : Int) := by omega
  have HC := hide (And.intro hha (And.intro ih (And.intro hnode (And.intro hsl hd))))
  clear hha ih hnode hsl hd hKn hIne hI hcap
  go_enter Tryd.func72, Tryd.ntmps72
  go_wp2_with fail
  refine (unhide HC).1.mono ?_
  rintro e w0 ⟨rfl, rfl⟩
  go_wp2_with fail
  refine ((unhide HC).2.1 _ (by first | exact Fr.refl _ _ | exact (Fr.refl _ _).drew)).mono ?_
  rintro e w1 ⟨hA, hB, hF⟩
  by_cases hC : C
  · obtain ⟨ao, an, ac, bo, bn, bc, so, sc, ss, rfl, s1, s2, s3, s4, s5⟩ := hA hC
    have H1 := hide (And.intro s1 (And.intro s2 (And.intro s3 (And.intro s4 (And.intro s5 (And.intro hF hC))))))
    clear hA hB s1 s2 s3 s4 s5 hF hC
    go_wp2_with fail
    refine ((unhide HC).2.2.1 w1 _ _ (unhide H1).2.2.2.2.2.2 (unhide H1).2.2.2.2.2.1 (unhide H1).2.1 ((unhide HC).2.2.2.1.fr0 (unhide H1).2.2.2.2.2.1)).mono ?_
    rintro e w2 ⟨yo, yc, rfl, hS2, hF2⟩
    have H2 := hide (And.intro hS2 hF2)
    clear hS2 hF2
    go_wp2_with fail
    refine (ahead_any bo bn bc vo vn vc true so sc ss TS _ w2 ((unhide H1).2.2.1.fr0 (unhide H2).2) ((unhide H1).2.2.2.1.fr0 (unhide H2).2) (by rw [(unhide H1).2.2.2.2.1]; exact (unhide HC).2.2.2.2 (unhide H1).2.2.2.2.2.2)).mono ?_
    rintro e w3 ⟨da, dc, rfl, hT⟩
    have hl : ((Value.slice bo bn bc, Value.slice vo vn vc, true) :: ss).length = ss.length + 1 := rfl
    have H3 := hide (And.intro hT hl)
    clear hT hl
    go_wp2_with fail
    go_returns
    have hF13 := (unhide H2).2.trans (unhide H3).1.fr (fun _ _ h => h)
    have hF03 := (unhide H1).2.2.2.2.2.1.trans hF13 (fun _ _ h => h)
    refine ⟨fun _ => ⟨ao, an, ac, yo, wi, yc, da, dc, (.slice bo bn bc, .slice vo vn vc, true) :: ss, rfl, (unhide H1).1.fr0 hF13, (unhide H2).1.fr0 (unhide H3).1.fr, (unhide H3).1.base ((unhide H1).2.2.2.2.2.1.trans (unhide H2).2 (fun _ _ h => h)), StOk.cons ((unhide H1).2.1.fr0 hF13) ((unhide HC).2.2.2.1.fr0 hF03) rfl ((unhide H1).2.2.2.1.fr0 hF13), by rw [List.length_cons, (unhide H1).2.2.2.2.1]⟩, fun h => absurd (unhide H1).2.2.2.2.2.2 h, hF03⟩
  · obtain ⟨ao, an, ac, bo, bn, bc, rfl⟩ := hB hC
    have H1 := hide (And.intro hF hC)
    clear hA hB hF hC
    go_wp2_with fail
    go_returns
    exact ⟨fun h => absurd h (unhide H1).2, fun _ => ⟨none, 0, 0, none, 0, 0, rfl⟩, (unhide H1).1⟩
set_option maxRecDepth 100000 in
set_option maxHeartbeats 2000000 in
/-- rise, down to the right: its walk. -/
theorem rise_go_r (wi I n K D g o xc d : Nat) (wh : Bool) (oo : Option Addr) (on oc : Nat) (vo : Option Addr) (vn vc : Nat) (A O T : List Nat) (TS : List (List Nat × List Nat × Bool)) (C : Prop) (w : World) (hcell : w.cell? ⟨g, o + D, none⟩ = some (.slice vo vn vc)) (hsl : Sl w (.slice vo vn vc) A) (hcap : D + 1 ≤ xc) (hD8 : D < 8000000) (h2 : 2 ≤ n) (hn : n < 9223372036854775808) (hKn : K < n) (hIne : ¬ I = n) (hI : ¬ I ≤ K) (hIn : I ≤ n) (hd : C → d ≤ 8000000)
    (hha : Calls Tryd.prog 88 #[.int .i64 n] w fun e w' => e = .returned (.int .i64 (K : Nat)) ∧ w' = w)
    (hnode : ∀ (B : List Nat) w' x y, C → (B = O ∨ B = T) → Fr (fun _ => False) w w' → Sl w' x A → Sl w' y B → Calls Tryd.prog 29 #[.int .i64 wi, x, y] w' fun e w'' => ∃ yo yc, e = .returned (.slice yo wi yc) ∧ Sl w'' (.slice yo wi yc) (nd wi A B) ∧ Fr (fun _ => False) w' w'')
    (ih : ∀ w', Fr (fun _ => False) w w' → Calls Tryd.prog 72 #[.int .i64 wi, .int .i64 ((I - K : Nat) : Int), .int .i64 ((n - K : Nat) : Int), .bool false, .slice oo on oc, .slice (some ⟨g, o, none⟩) D xc] w' fun e w'' => (C → ∃ ao an ac bo bn bc so sc ss, e = .returned (.tuple #[.slice ao an ac, .slice bo bn bc, .slice so ss.length sc, .bool true]) ∧ Sl w'' (.slice ao an ac) O ∧ Sl w'' (.slice bo bn bc) T ∧ OT w' w'' (.slice so ss.length sc) ss ∧ StOk w'' ss TS ∧ ss.length = d) ∧ (¬ C → ∃ ao an ac bo bn bc, e = .returned (.tuple #[.slice ao an ac, .slice bo bn bc, .slice none 0 0, .bool false])) ∧ Fr (fun _ => False) w' w'') :
    Calls Tryd.prog 72 #[.int .i64 wi, .int .i64 (I : Int), .int .i64 (n : Int), .bool wh, .slice oo on oc, .slice (some ⟨g, o, none⟩) (D + 1) xc] w fun e w' => (C → ∃ ao an ac bo bn bc so sc ss, e = .returned (.tuple #[.slice ao an ac, .slice bo bn bc, .slice so ss.length sc, .bool true]) ∧ Sl w' (.slice ao an ac) (nd wi A O) ∧ Sl w' (.slice bo bn bc) (nd wi A T) ∧ OT w w' (.slice so ss.length sc) ss ∧ StOk w' ss ((A, T, false) :: TS) ∧ ss.length = d + 1) ∧ (¬ C → ∃ ao an ac bo bn bc, e = .returned (.tuple #[.slice ao an ac, .slice bo bn bc, .slice none 0 0, .bool false])) ∧ Fr (fun _ => False) w w' := by
  have q0 : ((I : Int) == (n : Int)) = false := beq_false_of_ne (by omega)
  have q1 : ¬ I = n := hIne
  have q3 : (((D : Int) + 1) == 0) = false := beq_false_of_ne (by omega)
  have q4 : ¬ (D : Int) + 1 = 0 := by omega
  have q5 : IntKind.i64.wrap ((D : Int) + 1 - 1) = (D : Int) := by rw [IntKind.wrap_i64]; omega
  have q6 : (D : Int) < (D : Int) + 1 := by omega
  have q7 : (D : Int) ≤ (xc : Int) := by omega
  have q8 : ¬ (I : Int) ≤ (K : Int) := by omega
  have q9 : IntKind.i64.wrap ((I : Int) - (K : Int)) = ((I - K : Nat) : Int) := by rw [IntKind.wrap_i64]; omega
  have q10 : IntKind.i64.wrap ((n : Int) - (K : Int)) = ((n - K : Nat) : Int) := by rw [IntKind.wrap_i64]; omega
  have HC := hide (And.intro hha (And.intro ih (And.intro hnode (And.intro hsl hd))))
  clear hha ih hnode hsl hd h2 hn hKn hIne hI hIn hcap
  generalize I - K = IK at *
  generalize n - K = NK at *
  go_enter Tryd.func72, Tryd.ntmps72
  go_wp2_with fail
  refine (unhide HC).1.mono ?_
  rintro e w0 ⟨rfl, rfl⟩
  go_wp2_with fail
  refine ((unhide HC).2.1 _ (by first | exact Fr.refl _ _ | exact (Fr.refl _ _).drew)).mono ?_
  rintro e w1 ⟨hA, hB, hF⟩
  by_cases hC : C
  · obtain ⟨ao, an, ac, bo, bn, bc, so, sc, ss, rfl, s1, s2, s3, s4, s5⟩ := hA hC
    have H1 := hide (And.intro s1 (And.intro s2 (And.intro s3 (And.intro s4 (And.intro s5 (And.intro hF hC))))))
    clear hA hB s1 s2 s3 s4 s5 hF hC
    go_wp2_with fail
    refine ((unhide HC).2.2.1 O w1 _ _ (unhide H1).2.2.2.2.2.2 (.inl rfl) (unhide H1).2.2.2.2.2.1 ((unhide HC).2.2.2.1.fr0 (unhide H1).2.2.2.2.2.1) (unhide H1).1).mono ?_
    rintro e w2 ⟨yo, yc, rfl, hS2, hF2⟩
    have H2 := hide (And.intro hS2 (And.intro hF2 ((unhide H1).2.2.2.2.2.1.trans hF2 (fun _ _ h => h))))
    clear hS2 hF2
    go_wp2_with fail
    refine ((unhide HC).2.2.1 T w2 _ _ (unhide H1).2.2.2.2.2.2 (.inr rfl) (unhide H2).2.2 ((unhide HC).2.2.2.1.fr0 (unhide H2).2.2) ((unhide H1).2.1.fr0 (unhide H2).2.1)).mono ?_
    rintro e w4 ⟨to, tc, rfl, hS4, hF4⟩
    have H4 := hide (And.intro hS4 (And.intro hF4 ((unhide H2).2.1.trans hF4 (fun _ _ h => h))))
    clear hS4 hF4
    go_wp2_with fail
    refine (ahead_any vo vn vc bo bn bc false so sc ss TS _ w4 ((unhide H1).2.2.1.fr0 (unhide H4).2.2) ((unhide H1).2.2.2.1.fr0 (unhide H4).2.2) (by rw [(unhide H1).2.2.2.2.1]; exact (unhide HC).2.2.2.2 (unhide H1).2.2.2.2.2.2)).mono ?_
    rintro e w3 ⟨da, dc, rfl, hT⟩
    have hl : ((Value.slice vo vn vc, Value.slice bo bn bc, false) :: ss).length = ss.length + 1 := rfl
    have H3 := hide (And.intro hT hl)
    clear hT hl
    go_wp2_with fail
    go_returns
    have hF13 := (unhide H4).2.2.trans (unhide H3).1.fr (fun _ _ h => h)
    have hF03 := (unhide H1).2.2.2.2.2.1.trans hF13 (fun _ _ h => h)
    refine ⟨fun _ => ⟨yo, wi, yc, to, wi, tc, da, dc, (.slice vo vn vc, .slice bo bn bc, false) :: ss, rfl, ((unhide H2).1.fr0 (unhide H4).2.1).fr0 (unhide H3).1.fr, (unhide H4).1.fr0 (unhide H3).1.fr, (unhide H3).1.base ((unhide H1).2.2.2.2.2.1.trans (unhide H4).2.2 (fun _ _ h => h)), StOk.cons ((unhide HC).2.2.2.1.fr0 hF03) ((unhide H1).2.1.fr0 hF13) rfl ((unhide H1).2.2.2.1.fr0 hF13), by rw [List.length_cons, (unhide H1).2.2.2.2.1]⟩, fun h => absurd (unhide H1).2.2.2.2.2.2 h, hF03⟩
  · obtain ⟨ao, an, ac, bo, bn, bc, rfl⟩ := hB hC
    have H1 := hide (And.intro hF hC)
    clear hA hB hF hC
    go_wp2_with fail
    go_returns
    exact ⟨fun h => absurd h (unhide H1).2, fun _ => ⟨none, 0, 0, none, 0, 0, rfl⟩, (unhide H1).1⟩
end Go.Proofs.YtocdnomfpgdglaaDoor

namespace Go.Proofs.YtocdnomfpgdglaaDoor
open Go.RowKit

theorem rR_wid (wi : Nat) (wh : Bool) (old : List Nat) (f n M : Nat) (ps : List (List Nat)) (h : rOk wh f n M ps) (hol : old.length = wi) (hpw : ∀ p ∈ ps, p.length = wi) : (rR wh old f n M ps).length = wi := by
  unfold rR
  by_cases hu : useO wh f n M = true
  · rw [if_pos hu]; exact hol
  · rw [if_neg hu]
    have hne := h.1.resolve_left hu
    match ps, hne with
    | p :: q, _ => exact hpw p (by simp)
theorem rQ_le (wh : Bool) (f n M : Nat) (ps : List (List Nat)) : (rQ wh f n M ps).length ≤ ps.length := by
  unfold rQ
  by_cases hu : useO wh f n M = true
  · rw [if_pos hu]; exact Nat.le_refl _
  · rw [if_neg hu, List.length_tail]; omega
/-- rise, down to the left. -/
theorem rise_left (wi : Nat) (hw1 : 1 ≤ wi) (hw32 : wi ≤ 32) (old : List Nat) (hol : old.length = wi) (oo : Option Addr) (on oc : Nat) (wh : Bool) (f n M D : Nat) (ps : List (List Nat)) (vs : List Value) (g o xc : Nat) (w : World) (hr : GR w) (hp : Pcs w (.slice (some ⟨g, o, none⟩) (D + 1) xc) vs ps) (hcap : D + 1 ≤ xc) (hlen : ps.length = D + 1) (hD8 : D < 8000000) (h2 : 2 ≤ n) (hn : n < 9223372036854775808) (hfM : f < M) (hMn : ¬ M = f + n) (hM : M ≤ f + hf n) (hpw : ∀ p ∈ ps, p.length = wi)
    (ih : ∀ w', Fr (fun _ => False) w w' → RiSays wi old (.slice oo on oc) wh f (hf n) M (ps.take D) (.slice (some ⟨g, o, none⟩) D xc) w') : RiSays wi old (.slice oo on oc) wh f n M ps (.slice (some ⟨g, o, none⟩) (D + 1) xc) w := by
  have hlt := hf_lt n h2
  have hpos := hf_pos n
  obtain ⟨g', o', vo, vc, eg, hcell, hsl⟩ := hp.nth (Fr.refl _ _) D (by omega)
  cases eg
  have he := endF_l h2 hMn hM
  obtain ⟨e1, e2, e3, -, -⟩ := endF_ok _ f (hf n) M (Nat.le_refl _) hfM hM
  have hu : useO wh f n M = useO wh f (hf n) M := by unfold useO; rw [he]
  have hne : ¬ (f = (endF f (hf n) M).1 ∧ n = (endF f (hf n) M).2) := by omega
  have hlt2 : (endF f (hf n) M).1 < f + hf n := by omega
  have hdp := dep_l (tf := (endF f (hf n) M).1) (tn := (endF f (hf n) M).2) h2 hne hlt2
  have hq := q_step (useO wh f (hf n) M) ps D (dep f (hf n) (endF f (hf n) M).1 (endF f (hf n) M).2) hlen
  have hk : rOk wh f n M ps ↔ rOk wh f (hf n) M (ps.take D) := by
    unfold rOk rQ
    rw [he, hu, hdp]
    exact hq.1
  have hAw := hpw ps[D] (List.getElem_mem _)
  have hpw' : ∀ p ∈ ps.take D, p.length = wi := fun p h => hpw p (List.mem_of_mem_take h)
  have htl : (ps.take D).length = D := by rw [List.length_take]; omega
  have hTw : rOk wh f (hf n) M (ps.take D) → (topv wi (rR wh old f (hf n) M (ps.take D)) f (hf n) (endF f (hf n) M).1 (endF f (hf n) M).2 (rQ wh f (hf n) M (ps.take D))).length = wi := fun h => topv_wid wi hw1 hw32 _ (rR_wid wi wh old _ _ _ _ h hol hpw') _ _ _ _ _ _ (Nat.le_refl _)
  have hgo := rise_go_l wi (M - f) n (hf n) D g o xc (dep f (hf n) (endF f (hf n) M).1 (endF f (hf n) M).2) wh oo on oc vo _ vc ps[D] (olderv wi (rR wh old f (hf n) M (ps.take D)) f (hf n) (endF f (hf n) M).1 (endF f (hf n) M).2 (rQ wh f (hf n) M (ps.take D))) (topv wi (rR wh old f (hf n) M (ps.take D)) f (hf n) (endF f (hf n) M).1 (endF f (hf n) M).2 (rQ wh f (hf n) M (ps.take D))) (stq wi (rR wh old f (hf n) M (ps.take D)) f (hf n) (endF f (hf n) M).1 (endF f (hf n) M).2 (rQ wh f (hf n) M (ps.take D))) (rOk wh f (hf n) M (ps.take D)) w hcell hsl hcap hD8 hlt (by omega) (by omega)
    (fun h => by have := rQ_le wh f (hf n) M (ps.take D); have := h.2; omega)
    (half_any n w hn h2)
    (fun w' x y hC hF hx hy => by
      have hnd := nd_len wi hw1 hw32 (topv wi (rR wh old f (hf n) M (ps.take D)) f (hf n) (endF f (hf n) M).1 (endF f (hf n) M).2 (rQ wh f (hf n) M (ps.take D))) ps[D]
      refine (gnode_any (wi : Int) x y _ _ w' (hr.fr0 hF) hx.s hy.s hx.b hy.b (by rw [hTw hC]; omega) (by rw [hAw]; omega)).mono ?_
      rintro e w'' ⟨yo, yc, rfl, hO⟩
      have hs := hO.sl (nd_lt _ _ _)
      rw [hnd] at hs ⊢
      exact ⟨yo, yc, rfl, hs, hO.fr⟩)
    (fun w' hF => by
      have h := ih w' hF
      unfold RiSays at h
      exact h)
  unfold RiSays
  refine hgo.mono ?_
  rintro e w' ⟨hA, hB, hF⟩
  refine ⟨fun h => ?_, fun h => hB (fun h' => h (hk.2 h')), hF⟩
  have hC := hk.1 h
  obtain ⟨ao, an, ac, bo, bn, bc, so, sc, ss, rfl, s1, s2, s3, s4, s5⟩ := hA hC
  obtain ⟨r1, r2, r3⟩ := hq.2 hC.1 old
  have hR : rR wh old f n M ps = rR wh old f (hf n) M (ps.take D) := by unfold rR; rw [hu]; exact r1
  have hQ : (rQ wh f n M ps).dropLast = rQ wh f (hf n) M (ps.take D) := by unfold rQ; rw [hu]; exact r2
  have hG : (rQ wh f n M ps).getLastD [] = ps[D] := by unfold rQ; rw [hu]; exact r3
  refine ⟨ao, an, ac, bo, bn, bc, so, sc, ss, rfl, ?_, ?_, s3, ?_, ?_⟩
  · rw [he, olderv_l h2 hne hlt2, hR, hQ]; exact s1
  · rw [he, topv_l h2 hne hlt2, hR, hQ, hG]; exact s2
  · rw [he, stq_l h2 hne hlt2, hR, hQ, hG]; exact s4
  · rw [he, hdp]; exact s5
/-- rise, down to the right. -/
theorem rise_right (wi : Nat) (hw1 : 1 ≤ wi) (hw32 : wi ≤ 32) (old : List Nat) (hol : old.length = wi) (oo : Option Addr) (on oc : Nat) (wh : Bool) (f n M D : Nat) (ps : List (List Nat)) (vs : List Value) (g o xc : Nat) (w : World) (hr : GR w) (hp : Pcs w (.slice (some ⟨g, o, none⟩) (D + 1) xc) vs ps) (hcap : D + 1 ≤ xc) (hlen : ps.length = D + 1) (hD8 : D < 8000000) (h2 : 2 ≤ n) (hn : n < 9223372036854775808) (hfM : f < M) (hMn : ¬ M = f + n) (hMle : M ≤ f + n) (hM : ¬ M ≤ f + hf n) (hpw : ∀ p ∈ ps, p.length = wi)
    (ih : ∀ w', Fr (fun _ => False) w w' → RiSays wi old (.slice oo on oc) false (f + hf n) (n - hf n) M (ps.take D) (.slice (some ⟨g, o, none⟩) D xc) w') : RiSays wi old (.slice oo on oc) wh f n M ps (.slice (some ⟨g, o, none⟩) (D + 1) xc) w := by
  have hlt := hf_lt n h2
  have hpos := hf_pos n
  obtain ⟨g', o', vo, vc, eg, hcell, hsl⟩ := hp.nth (Fr.refl _ _) D (by omega)
  cases eg
  have he := endF_r h2 hMn hM
  obtain ⟨e1, e2, e3, -, -⟩ := endF_ok _ (f + hf n) (n - hf n) M (Nat.le_refl _) (by omega) (by omega)
  have hu1 : useO wh f n M = false := by
    unfold useO; rw [he]
    rw [decide_eq_false (by omega), Bool.and_false]
  have hu2 : useO false (f + hf n) (n - hf n) M = false := rfl
  have hu : useO wh f n M = useO false (f + hf n) (n - hf n) M := hu1.trans hu2.symm
  have hne : ¬ (f = (endF (f + hf n) (n - hf n) M).1 ∧ n = (endF (f + hf n) (n - hf n) M).2) := by omega
  have hlt2 : ¬ (endF (f + hf n) (n - hf n) M).1 < f + hf n := by omega
  have hdp := dep_r (tf := (endF (f + hf n) (n - hf n) M).1) (tn := (endF (f + hf n) (n - hf n) M).2) h2 hne hlt2
  have hq := q_step (useO false (f + hf n) (n - hf n) M) ps D (dep (f + hf n) (n - hf n) (endF (f + hf n) (n - hf n) M).1 (endF (f + hf n) (n - hf n) M).2) hlen
  have hk : rOk wh f n M ps ↔ rOk false (f + hf n) (n - hf n) M (ps.take D) := by
    unfold rOk rQ
    rw [he, hu, hdp]
    exact hq.1
  have hAw := hpw ps[D] (List.getElem_mem _)
  have hpw' : ∀ p ∈ ps.take D, p.length = wi := fun p h => hpw p (List.mem_of_mem_take h)
  have htl : (ps.take D).length = D := by rw [List.length_take]; omega
  have hTw : rOk false (f + hf n) (n - hf n) M (ps.take D) → (topv wi (rR false old (f + hf n) (n - hf n) M (ps.take D)) (f + hf n) (n - hf n) (endF (f + hf n) (n - hf n) M).1 (endF (f + hf n) (n - hf n) M).2 (rQ false (f + hf n) (n - hf n) M (ps.take D))).length = wi := fun h => topv_wid wi hw1 hw32 _ (rR_wid wi false old _ _ _ _ h hol hpw') _ _ _ _ _ _ (Nat.le_refl _)
  have hOw : rOk false (f + hf n) (n - hf n) M (ps.take D) → (olderv wi (rR false old (f + hf n) (n - hf n) M (ps.take D)) (f + hf n) (n - hf n) (endF (f + hf n) (n - hf n) M).1 (endF (f + hf n) (n - hf n) M).2 (rQ false (f + hf n) (n - hf n) M (ps.take D))).length = wi := fun h => olderv_wid wi hw1 hw32 _ (rR_wid wi false old _ _ _ _ h hol hpw') _ _ _ _ _ _ (Nat.le_refl _)
  have hsub : M - (f + hf n) = M - f - hf n := by omega
  have hgo := rise_go_r wi (M - f) n (hf n) D g o xc (dep (f + hf n) (n - hf n) (endF (f + hf n) (n - hf n) M).1 (endF (f + hf n) (n - hf n) M).2) wh oo on oc vo _ vc ps[D] (olderv wi (rR false old (f + hf n) (n - hf n) M (ps.take D)) (f + hf n) (n - hf n) (endF (f + hf n) (n - hf n) M).1 (endF (f + hf n) (n - hf n) M).2 (rQ false (f + hf n) (n - hf n) M (ps.take D))) (topv wi (rR false old (f + hf n) (n - hf n) M (ps.take D)) (f + hf n) (n - hf n) (endF (f + hf n) (n - hf n) M).1 (endF (f + hf n) (n - hf n) M).2 (rQ false (f + hf n) (n - hf n) M (ps.take D))) (stq wi (rR false old (f + hf n) (n - hf n) M (ps.take D)) (f + hf n) (n - hf n) (endF (f + hf n) (n - hf n) M).1 (endF (f + hf n) (n - hf n) M).2 (rQ false (f + hf n) (n - hf n) M (ps.take D))) (rOk false (f + hf n) (n - hf n) M (ps.take D)) w hcell hsl hcap hD8 h2 hn hlt (by omega) (by omega) (by omega)
    (fun h => by have := rQ_le false (f + hf n) (n - hf n) M (ps.take D); have := h.2; omega)
    (half_any n w hn h2)
    (fun B w' x y hC hB hF hx hy => by
      have hBw : B.length = wi := hB.elim (fun h => by rw [h]; exact hOw hC) (fun h => by rw [h]; exact hTw hC)
      have hnd := nd_len wi hw1 hw32 ps[D] B
      refine (gnode_any (wi : Int) x y _ _ w' (hr.fr0 hF) hx.s hy.s hx.b hy.b (by rw [hAw]; omega) (by rw [hBw]; omega)).mono ?_
      rintro e w'' ⟨yo, yc, rfl, hO⟩
      have hs := hO.sl (nd_lt _ _ _)
      rw [hnd] at hs ⊢
      exact ⟨yo, yc, rfl, hs, hO.fr⟩)
    (fun w' hF => by
      have h := ih w' hF
      unfold RiSays at h
      rw [hsub] at h
      exact h)
  unfold RiSays
  refine hgo.mono ?_
  rintro e w' ⟨hA, hB, hF⟩
  refine ⟨fun h => ?_, fun h => hB (fun h' => h (hk.2 h')), hF⟩
  have hC := hk.1 h
  obtain ⟨ao, an, ac, bo, bn, bc, so, sc, ss, rfl, s1, s2, s3, s4, s5⟩ := hA hC
  obtain ⟨r1, r2, r3⟩ := hq.2 hC.1 old
  have hR : rR wh old f n M ps = rR false old (f + hf n) (n - hf n) M (ps.take D) := by unfold rR; rw [hu]; exact r1
  have hQ : (rQ wh f n M ps).dropLast = rQ false (f + hf n) (n - hf n) M (ps.take D) := by unfold rQ; rw [hu]; exact r2
  have hG : (rQ wh f n M ps).getLastD [] = ps[D] := by unfold rQ; rw [hu]; exact r3
  refine ⟨ao, an, ac, bo, bn, bc, so, sc, ss, rfl, ?_, ?_, s3, ?_, ?_⟩
  · rw [he, olderv_r h2 hne hlt2, hR, hQ, hG]; exact s1
  · rw [he, topv_r h2 hne hlt2, hR, hQ, hG]; exact s2
  · rw [he, stq_r h2 hne hlt2, hR, hQ, hG]; exact s4
  · rw [he, hdp]; exact s5
/-- The document's rise. -/
theorem rise_any (wi : Nat) (hw1 : 1 ≤ wi) (hw32 : wi ≤ 32) (old : List Nat) (hol : old.length = wi) (oo : Option Addr) (on oc : Nat) (m : Nat) : ∀ (wh : Bool) (f n M : Nat) (ps : List (List Nat)) (vs : List Value) (x : Value) (w : World), n ≤ m → n < 9223372036854775808 → f < M → M ≤ f + n → GR w → Sl w (.slice oo on oc) old → Pcs w x vs ps → Cp x → ps.length ≤ 8000000 → (∀ p ∈ ps, p.length = wi) → RiSays wi old (.slice oo on oc) wh f n M ps x w := by
  induction m with
  | zero => intro wh f n M ps vs x w h _ h1 h2; omega
  | succ m ih =>
    intro wh f n M ps vs x w h hn hfM hMn hr hl hp hcx hps hpw
    by_cases hw : wh = true ∧ M = f + n
    · obtain ⟨rfl, rfl⟩ := hw
      exact rise_whole wi old _ f n ps vs x w hl hp
    · have hw' : wh = false ∨ ¬ M = f + n := by
        cases wh
        · exact .inl rfl
        · exact .inr (fun h => hw ⟨rfl, h⟩)
      by_cases h0 : ps = []
      · subst h0
        refine rise_short wi old _ wh f n M vs x w hl hp hfM hw' ?_
        rintro ⟨hk1, hk2⟩
        have hu : useO wh f n M = true := hk1.resolve_right (fun h => h rfl)
        have hk3 : dep f n (endF f n M).1 (endF f n M).2 = 0 := by
          rw [← hk2, rQ, if_pos hu]; rfl
        have hwh : wh = true := by cases wh; exact absurd hu (by simp [useO]); rfl
        have hMne : ¬ M = f + n := fun h => hw ⟨hwh, h⟩
        obtain ⟨e1, e2, e3, -, -⟩ := endF_ok _ f n M (Nat.le_refl _) hfM hMn
        by_cases hlt : (endF f n M).1 < f + hf n
        · rw [dep_l (by omega) (by omega) hlt] at hk3; omega
        · rw [dep_r (by omega) (by omega) hlt] at hk3; omega
      · obtain ⟨D, hD⟩ : ∃ D, ps.length = D + 1 := ⟨ps.length - 1, by have := List.length_pos_iff.2 h0; omega⟩
        obtain ⟨xo, xc, rfl⟩ := hp.form
        obtain ⟨g, o, v, rfl, -⟩ := hp.cell (Fr.refl _ _) 0 (by omega)
        have hcap : ps.length ≤ xc := hcx _ _ _ rfl
        rw [hD] at hp hcx hcap ⊢
        by_cases hM : M = f + n
        · have hwf : wh = false := hw'.resolve_right (fun h => h hM)
          subst hwf hM
          exact rise_end wi old _ f n D ps vs g o xc w hl hp hcap hD (by omega)
        · have h2 : 2 ≤ n := by omega
          have hlt := hf_lt n h2
          have hpos := hf_pos n
          have hp' := hp.take D (by omega)
          have hcx' : Cp (.slice (some ⟨g, o, none⟩) D xc) := fun _ _ _ e => by cases e; omega
          have htl : (ps.take D).length ≤ 8000000 := by rw [List.length_take]; omega
          have hpw' : ∀ p ∈ ps.take D, p.length = wi := fun p h => hpw p (List.mem_of_mem_take h)
          by_cases hi : M ≤ f + hf n
          · exact rise_left wi hw1 hw32 old hol oo on oc wh f n M D ps vs g o xc w hr hp hcap hD (by omega) h2 hn hfM hM hi hpw (fun w' hf' => ih wh f (hf n) M _ _ _ w' (by omega) (by omega) hfM hi (hr.fr0 hf') (hl.fr0 hf') (hp'.fr0 hf') hcx' htl hpw')
          · exact rise_right wi hw1 hw32 old hol oo on oc wh f n M D ps vs g o xc w hr hp hcap hD (by omega) h2 hn hfM hM hMn hi hpw (fun w' hf' => ih false (f + hf n) (n - hf n) M _ _ _ w' (by omega) (by omega) (by omega) (by omega) (hr.fr0 hf') (hl.fr0 hf') (hp'.fr0 hf') hcx' htl hpw')
end Go.Proofs.YtocdnomfpgdglaaDoor

namespace Go.Proofs.YtocdnomfpgdglaaDoor
open Go.RowKit

/-- What CheckProof asks of the hashes, said by rise. -/
theorem prfQ_r (wi n m : Nat) (old root : List Nat) (ps : List (List Nat)) : prfQ wi n m old root ps = true ↔ rOk true 0 n m ps ∧ olderv wi (rR true old 0 n m ps) 0 n (endF 0 n m).1 (endF 0 n m).2 (rQ true 0 n m ps) = old ∧ topv wi (rR true old 0 n m ps) 0 n (endF 0 n m).1 (endF 0 n m).2 (rQ true 0 n m ps) = root := by
  unfold prfQ rOk rR rQ useO
  by_cases he : (endF 0 n m).1 = 0
  · rw [if_pos he]
    simp only [decide_eq_true he, Bool.and_true, if_true, true_or, true_and, bodyQ, Bool.and_eq_true, decide_eq_true_eq]
  · rw [if_neg he]
    simp only [decide_eq_false he, Bool.and_false, Bool.false_eq_true, if_false, false_or]
    rcases ps with _ | ⟨p, q⟩
    · simp
    · simp [bodyQ]
theorem prfQ_same (wi n : Nat) (old root : List Nat) (ps : List (List Nat)) : prfQ wi n n old root ps = (decide (ps.length = 0) && decide (old = root)) := by
  have he : endF 0 n n = (0, n) := endF_eq (by omega)
  unfold prfQ bodyQ
  rw [he]
  simp only [if_true, dep_eq, olderv_eq, topv_eq, decide_true, Bool.true_and]
set_option maxRecDepth 100000 in
set_option maxHeartbeats 2000000 in
/-- The document's CheckProof: the guards. -/
theorem gcp_no (j m n : Int) (ov rv x : Value) (old root : List Nat) (vs : List Value) (ps : List (List Nat)) (w : World) (ho : Sl w ov old) (hr : Sl w rv root) (hp : Pcs w x vs ps) (hps : ps.length ≤ 8000000)
    (h : ¬ (1 ≤ j ∧ j ≤ 32 ∧ 0 ≤ m ∧ m ≤ n ∧ (old.length : Int) = j ∧ (root.length : Int) = j ∧ wdq j ps = true)) :
    Calls Tryd.prog 37 #[.int .i64 j, .int .i64 m, .int .i64 n, ov, rv, x] w fun e w' => e = .returned (.bool false) ∧ Fr (fun _ => False) w w' := by
  obtain ⟨oo, oc, rfl⟩ := ho.form
  obtain ⟨rr, rc, rfl⟩ := hr.form
  have hwd := gwide_any j _ vs ps w hp (by omega)
  obtain ⟨xo, xc, rfl⟩ := hp.form
  have HW := hide hwd
  clear ho hr hp hps hwd
  by_cases h1 : j < 1 ∨ 32 < j
  · have HM := hide h1
    clear h h1 HW
    generalize old.length = LL at *
    generalize root.length = RL at *
    generalize ps.length = PL at *
    go_enter Tryd.func37, Tryd.ntmps37
    go_wp2_with fail
    refine (may_no j _ (unhide HM)).mono ?_
    rintro e' w0 ⟨rfl, rfl⟩
    go_wp2_with fail
    go_ret
    exact ⟨rfl, Fr.refl _ _⟩
  · have h1' : 1 ≤ j ∧ j ≤ 32 := by omega
    have HM := hide h1'
    by_cases h2 : m < 0
    · clear h h1 HW h1'
      generalize old.length = LL at *
      generalize root.length = RL at *
      generalize ps.length = PL at *
      go_enter Tryd.func37, Tryd.ntmps37
      go_wp2_with fail
      refine (may_yes j _ (unhide HM).1 (unhide HM).2).mono ?_
      rintro e' w0 ⟨rfl, rfl⟩
      go_wp2_with fail
      go_ret
      exact ⟨rfl, Fr.refl _ _⟩
    · by_cases h3 : n < m
      · clear h h1 HW h1'
        generalize old.length = LL at *
        generalize root.length = RL at *
        generalize ps.length = PL at *
        go_enter Tryd.func37, Tryd.ntmps37
        go_wp2_with fail
        refine (may_yes j _ (unhide HM).1 (unhide HM).2).mono ?_
        rintro e' w0 ⟨rfl, rfl⟩
        go_wp2_with fail
        go_ret
        exact ⟨rfl, Fr.refl _ _⟩
      · by_cases h4 : (old.length : Int) = j
        · by_cases h5 : (root.length : Int) = j
          · have h6 : wdq j ps = false := by
              cases hq : wdq j ps with
              | false => rfl
              | true => exact absurd ⟨h1'.1, h1'.2, by omega, by omega, h4, h5, hq⟩ h
            rw [h6] at HW
            have q5 : ((root.length : Int) == j) = true := by rw [h5]; simp
            have q4 : ((old.length : Int) == j) = true := by rw [h4]; simp
            clear h h1 h1' h6
            generalize old.length = LL at *
            generalize root.length = RL at *
            generalize ps.length = PL at *
            go_enter Tryd.func37, Tryd.ntmps37
            go_wp2_with fail
            refine (may_yes j _ (unhide HM).1 (unhide HM).2).mono ?_
            rintro e' w0 ⟨rfl, rfl⟩
            go_wp2_with fail
            refine (unhide HW).mono ?_
            rintro e' w1 ⟨rfl, rfl⟩
            go_wp2_with fail
            go_ret
            exact ⟨rfl, Fr.refl _ _⟩
          · have q5 : ((root.length : Int) == j) = false := beq_false_of_ne h5
            have q4 : ((old.length : Int) == j) = true := by rw [h4]; simp
            clear h h1 h1' HW
            generalize old.length = LL at *
            generalize root.length = RL at *
            generalize ps.length = PL at *
            go_enter Tryd.func37, Tryd.ntmps37
            go_wp2_with fail
            refine (may_yes j _ (unhide HM).1 (unhide HM).2).mono ?_
            rintro e' w0 ⟨rfl, rfl⟩
            go_wp2_with fail
            go_ret
            exact ⟨rfl, Fr.refl _ _⟩
        · have q4 : ((old.length : Int) == j) = false := beq_false_of_ne h4
          clear h h1 h1' HW
          generalize old.length = LL at *
          generalize root.length = RL at *
          generalize ps.length = PL at *
          go_enter Tryd.func37, Tryd.ntmps37
          go_wp2_with fail
          refine (may_yes j _ (unhide HM).1 (unhide HM).2).mono ?_
          rintro e' w0 ⟨rfl, rfl⟩
          go_wp2_with fail
          go_ret
          exact ⟨rfl, Fr.refl _ _⟩
end Go.Proofs.YtocdnomfpgdglaaDoor

namespace Go.Proofs.YtocdnomfpgdglaaDoor
open Go.RowKit

set_option maxRecDepth 100000 in
set_option maxHeartbeats 2000000 in
/-- The document's CheckProof of no entries. -/
theorem gcp_zero (wi N : Nat) (hw1 : 1 ≤ wi) (hw32 : wi ≤ 32) (oo : Option Addr) (oc : Nat) (rr : Option Addr) (rc : Nat) (xo : Option Addr) (PL xc : Nat) (old root : List Nat) (w : World) (hg : GR w) (ho : Sl w (.slice oo wi oc) old) (hr : Sl w (.slice rr wi rc) root) (hol : old.length = wi) (hrl : root.length = wi)
    (hwd : Calls Tryd.prog 68 #[.int .i64 wi, .slice xo PL xc] w fun e w' => e = .returned (.bool true) ∧ w' = w) :
    Calls Tryd.prog 37 #[.int .i64 wi, .int .i64 0, .int .i64 N, .slice oo wi oc, .slice rr wi rc, .slice xo PL xc] w fun e w' => e = .returned (.bool (decide (PL = 0) && (decide (old = sm wi []) && (decide (0 < N) || decide (root = sm wi []))))) ∧ Fr (fun _ => False) w w' := by
  have hsum : Calls Tryd.prog 60 #[.int .i64 wi, .slice none 0 0] w fun e w' => ∃ yo yc, e = .returned (.slice yo (sm wi []).length yc) ∧ Sl w' (.slice yo (sm wi []).length yc) (sm wi []) ∧ Fr (fun _ => False) w w' := by
    refine (gsum_T wi _ [] w hg (.inl ⟨rfl, rfl⟩) (fun _ h => by cases h) (by simp)).mono ?_
    rintro e w' ⟨yo, yc, rfl, hO⟩
    exact ⟨yo, yc, rfl, hO.sl (sm_lt _ _), hO.fr⟩
  rw [sm_wid wi hw1 hw32] at hsum
  have h1' : 1 ≤ (wi : Int) ∧ (wi : Int) ≤ 32 := by omega
  have HM := hide h1'
  have hN : ¬ (N : Int) < 0 := by omega
  generalize sm wi [] = Z at *
  obtain ⟨B1, hB1⟩ : ∃ B, decide (old = Z) = B := ⟨_, rfl⟩
  obtain ⟨B2, hB2⟩ : ∃ B, decide (root = Z) = B := ⟨_, rfl⟩
  rw [hB1, hB2]
  have HC := hide (And.intro hsum (And.intro hwd (And.intro ho (And.intro hr (And.intro hB1 (And.intro hB2 (And.intro hol hrl)))))))
  clear hsum hwd ho hr hB1 hB2 hol hrl hg hw1 hw32 h1'
  have q0 : ∀ b : Bool, (b && false) = false := Bool.and_false
  go_enter Tryd.func37, Tryd.ntmps37
  go_wp2_with fail
  refine (may_yes wi _ (unhide HM).1 (unhide HM).2).mono ?_
  rintro e' w0 ⟨rfl, rfl⟩
  go_wp2_with fail
  refine (unhide HC).2.1.mono ?_
  rintro e' w1 ⟨rfl, rfl⟩
  go_wp2_with fail
  refine (unhide HC).1.mono ?_
  rintro e' w2 ⟨yo, yc, rfl, hS, hF⟩
  have H2 := hide (And.intro hS hF)
  clear hS hF
  by_cases hP : PL = 0
  · subst hP
    go_wp2_with fail
    refine (gsame_D ((unhide HC).2.2.1.fr0 (unhide H2).2) (unhide H2).1 (by have h1 := (unhide HC).2.2.2.2.2.2.1; have h2 := (unhide HM).2; omega)).mono ?_
    rintro e' w3 ⟨rfl, hF⟩
    rw [(unhide HC).2.2.2.2.1]
    have H3 := hide (And.intro hF ((unhide H2).2.trans hF (fun _ _ h => h)))
    clear hF
    cases B1 with
    | false =>
      go_wp2_with fail
      go_ret
      exact ⟨rfl, (unhide H3).2⟩
    | true =>
      by_cases hNp : 0 < N
      · have hNp' : 0 < (N : Int) := by omega
        go_wp2_with fail
        go_ret
        exact ⟨by simp, (unhide H3).2⟩
      · have hN0 : N = 0 := by omega
        subst hN0
        go_wp2_with fail
        refine (gsame_D ((unhide HC).2.2.2.1.fr0 (unhide H3).2) ((unhide H2).1.fr0 (unhide H3).1) (by have h1 := (unhide HC).2.2.2.2.2.2.2; have h2 := (unhide HM).2; omega)).mono ?_
        rintro e' w4 ⟨rfl, hF⟩
        rw [(unhide HC).2.2.2.2.2.1]
        have H4 := hide ((unhide H3).2.trans hF (fun _ _ h => h))
        clear hF
        go_wp2_with fail
        go_ret
        exact ⟨by simp, unhide H4⟩
  · have hP' : ((PL : Int) == 0) = false := beq_false_of_ne (by omega)
    go_wp2_with fail
    go_ret
    exact ⟨by simp [hP], (unhide H2).2⟩
set_option maxRecDepth 100000 in
set_option maxHeartbeats 2000000 in
/-- The document's CheckProof of all. -/
theorem gcp_all (wi N : Nat) (hN0 : 0 < N) (hw1 : 1 ≤ wi) (hw32 : wi ≤ 32) (oo : Option Addr) (oc : Nat) (rr : Option Addr) (rc : Nat) (xo : Option Addr) (PL xc : Nat) (old root : List Nat) (w : World) (hg : GR w) (ho : Sl w (.slice oo wi oc) old) (hr : Sl w (.slice rr wi rc) root) (hol : old.length = wi)
    (hwd : Calls Tryd.prog 68 #[.int .i64 wi, .slice xo PL xc] w fun e w' => e = .returned (.bool true) ∧ w' = w) :
    Calls Tryd.prog 37 #[.int .i64 wi, .int .i64 N, .int .i64 N, .slice oo wi oc, .slice rr wi rc, .slice xo PL xc] w fun e w' => e = .returned (.bool (decide (PL = 0) && decide (old = root))) ∧ Fr (fun _ => False) w w' := by
  have hsum : Calls Tryd.prog 60 #[.int .i64 wi, .slice none 0 0] w fun e w' => ∃ yo yc, e = .returned (.slice yo (sm wi []).length yc) ∧ Fr (fun _ => False) w w' := by
    refine (gsum_T wi _ [] w hg (.inl ⟨rfl, rfl⟩) (fun _ h => by cases h) (by simp)).mono ?_
    rintro e w' ⟨yo, yc, rfl, hO⟩
    exact ⟨yo, yc, rfl, hO.fr⟩
  rw [sm_wid wi hw1 hw32] at hsum
  have h1' : 1 ≤ (wi : Int) ∧ (wi : Int) ≤ 32 := by omega
  have HM := hide h1'
  have hN : ¬ (N : Int) < 0 := by omega
  have hN1 : ((N : Int) == 0) = false := beq_false_of_ne (by omega)
  have hN2 : ((N : Int) == (N : Int)) = true := by simp
  obtain ⟨B1, hB1⟩ : ∃ B, decide (old = root) = B := ⟨_, rfl⟩
  rw [hB1]
  have HC := hide (And.intro hsum (And.intro hwd (And.intro ho (And.intro hr (And.intro hB1 hol)))))
  clear hsum hwd ho hr hB1 hol hg hw1 hw32 h1' hN0
  go_enter Tryd.func37, Tryd.ntmps37
  go_wp2_with fail
  refine (may_yes wi _ (unhide HM).1 (unhide HM).2).mono ?_
  rintro e' w0 ⟨rfl, rfl⟩
  go_wp2_with fail
  refine (unhide HC).2.1.mono ?_
  rintro e' w1 ⟨rfl, rfl⟩
  go_wp2_with fail
  refine (unhide HC).1.mono ?_
  rintro e' w2 ⟨yo, yc, rfl, hF⟩
  have H2 := hide hF
  clear hF
  by_cases hP : PL = 0
  · subst hP
    go_wp2_with fail
    refine (gsame_D ((unhide HC).2.2.1.fr0 (unhide H2)) ((unhide HC).2.2.2.1.fr0 (unhide H2)) (by have h1 := (unhide HC).2.2.2.2.2; have h2 := (unhide HM).2; omega)).mono ?_
    rintro e' w3 ⟨rfl, hF⟩
    rw [(unhide HC).2.2.2.2.1]
    have H3 := hide ((unhide H2).trans hF (fun _ _ h => h))
    clear hF
    go_wp2_with fail
    go_ret
    exact ⟨by simp, unhide H3⟩
  · have hP' : ((PL : Int) == 0) = false := beq_false_of_ne (by omega)
    go_wp2_with fail
    go_ret
    exact ⟨by simp [hP], unhide H2⟩
end Go.Proofs.YtocdnomfpgdglaaDoor

namespace Go.Proofs.YtocdnomfpgdglaaDoor
open Go.RowKit

set_option maxRecDepth 100000 in
set_option maxHeartbeats 2000000 in
/-- The document's CheckProof of some. -/
theorem gcp_some (wi M N : Nat) (hM0 : 0 < M) (hMN : M < N) (hw1 : 1 ≤ wi) (hw32 : wi ≤ 32) (oo : Option Addr) (oc : Nat) (rr : Option Addr) (rc : Nat) (xo : Option Addr) (PL xc : Nat) (old root O T : List Nat) (C : Prop) (w : World) (hg : GR w) (ho : Sl w (.slice oo wi oc) old) (hr : Sl w (.slice rr wi rc) root) (hO : C → O.length = wi) (hT : C → T.length = wi) (B : Bool) (hB : B = true ↔ C ∧ O = old ∧ T = root)
    (hwd : Calls Tryd.prog 68 #[.int .i64 wi, .slice xo PL xc] w fun e w' => e = .returned (.bool true) ∧ w' = w)
    (hri : ∀ w', Fr (fun _ => False) w w' → Calls Tryd.prog 72 #[.int .i64 wi, .int .i64 M, .int .i64 N, .bool true, .slice oo wi oc, .slice xo PL xc] w' fun e w'' => (C → ∃ ao an ac bo bn bc so sn sc, e = .returned (.tuple #[.slice ao an ac, .slice bo bn bc, .slice so sn sc, .bool true]) ∧ Sl w'' (.slice ao an ac) O ∧ Sl w'' (.slice bo bn bc) T) ∧ (¬ C → ∃ ao an ac bo bn bc, e = .returned (.tuple #[.slice ao an ac, .slice bo bn bc, .slice none 0 0, .bool false])) ∧ Fr (fun _ => False) w' w'') :
    Calls Tryd.prog 37 #[.int .i64 wi, .int .i64 M, .int .i64 N, .slice oo wi oc, .slice rr wi rc, .slice xo PL xc] w fun e w' => e = .returned (.bool B) ∧ Fr (fun _ => False) w w' := by
  have hsum : Calls Tryd.prog 60 #[.int .i64 wi, .slice none 0 0] w fun e w' => ∃ yo yc, e = .returned (.slice yo (sm wi []).length yc) ∧ Fr (fun _ => False) w w' := by
    refine (gsum_T wi _ [] w hg (.inl ⟨rfl, rfl⟩) (fun _ h => by cases h) (by simp)).mono ?_
    rintro e w' ⟨yo, yc, rfl, hO⟩
    exact ⟨yo, yc, rfl, hO.fr⟩
  rw [sm_wid wi hw1 hw32] at hsum
  have h1' : 1 ≤ (wi : Int) ∧ (wi : Int) ≤ 32 := by omega
  have HM := hide h1'
  have hN : ¬ (M : Int) < 0 := by omega
  have hN1 : ((M : Int) == 0) = false := beq_false_of_ne (by omega)
  have hN2 : ((M : Int) == (N : Int)) = false := beq_false_of_ne (by omega)
  have hN3 : ¬ (N : Int) < (M : Int) := by omega
  have hN4 : ¬ N < M := by omega
  have hN5 : ¬ M = N := by omega
  have hN6 : ¬ M = 0 := by omega
  have HC := hide (And.intro hsum (And.intro hwd (And.intro ho (And.intro hr (And.intro hB (And.intro hri (And.intro hO hT)))))))
  clear hsum hwd ho hr hB hri hO hT hg hw1 hw32 h1' hM0 hMN
  go_enter Tryd.func37, Tryd.ntmps37
  go_wp2_with fail
  refine (may_yes wi _ (unhide HM).1 (unhide HM).2).mono ?_
  rintro e' w0 ⟨rfl, rfl⟩
  go_wp2_with fail
  refine (unhide HC).2.1.mono ?_
  rintro e' w1 ⟨rfl, rfl⟩
  go_wp2_with fail
  refine (unhide HC).1.mono ?_
  rintro e' w2 ⟨yo, yc, rfl, hF⟩
  have H2 := hide hF
  clear hF
  go_wp2_with fail
  refine ((unhide HC).2.2.2.2.2.1 _ (unhide H2)).mono ?_
  rintro e' w3 ⟨hA, hN, hF⟩
  have H3 := hide ((unhide H2).trans hF (fun _ _ h => h))
  clear hF
  by_cases hC : C
  · obtain ⟨ao, an, ac, bo, bn, bc, so, sn, sc, rfl, s1, s2⟩ := hA hC
    have HS := hide (And.intro s1 (And.intro s2 hC))
    clear hA hN s1 s2 hC
    go_wp2_with fail
    refine (gsame_D (unhide HS).1 ((unhide HC).2.2.1.fr0 (unhide H3)) (by have h1 := (unhide HC).2.2.2.2.2.2.1 (unhide HS).2.2; have h2 := (unhide HM).2; omega)).mono ?_
    rintro e' w4 ⟨rfl, hF⟩
    have H4 := hide (And.intro hF ((unhide H3).trans hF (fun _ _ h => h)))
    clear hF
    by_cases h1 : O = old
    · rw [decide_eq_true h1]
      go_wp2_with fail
      refine (gsame_D ((unhide HS).2.1.fr0 (unhide H4).1) ((unhide HC).2.2.2.1.fr0 (unhide H4).2) (by have h1 := (unhide HC).2.2.2.2.2.2.2 (unhide HS).2.2; have h2 := (unhide HM).2; omega)).mono ?_
      rintro e' w5 ⟨rfl, hF⟩
      have hBB : decide (T = root) = B := by
        have hB := (unhide HC).2.2.2.2.1
        by_cases h2 : T = root
        · rw [decide_eq_true h2, hB.2 ⟨(unhide HS).2.2, h1, h2⟩]
        · rw [decide_eq_false h2]
          cases B
          · rfl
          · exact absurd (hB.1 rfl).2.2 h2
      rw [hBB]
      have H5 := hide ((unhide H4).2.trans hF (fun _ _ h => h))
      clear hF h1 hBB
      go_wp2_with fail
      go_ret
      exact ⟨rfl, unhide H5⟩
    · rw [decide_eq_false h1]
      have hB : B = false := by
        cases B
        · rfl
        · exact absurd ((unhide HC).2.2.2.2.1.1 rfl).2.1 h1
      subst hB
      clear h1
      go_wp2_with fail
      go_ret
      exact ⟨rfl, (unhide H4).2⟩
  · obtain ⟨ao, an, ac, bo, bn, bc, rfl⟩ := hN hC
    have hB : B = false := by
      cases B
      · rfl
      · exact absurd ((unhide HC).2.2.2.2.1.1 rfl).1 hC
    subst hB
    clear hA hN hC
    go_wp2_with fail
    go_ret
    exact ⟨rfl, unhide H3⟩
/-- The document's CheckProof. -/
theorem gcheckProof_any (j m n : Int) (ov rv x : Value) (old root : List Nat) (vs : List Value) (ps : List (List Nat)) (w : World) (hg : GR w) (ho : Sl w ov old) (hr : Sl w rv root) (hp : Pcs w x vs ps) (hcx : Cp x) (hn : n < 9223372036854775808) (hps : ps.length ≤ 8000000) :
    Calls Tryd.prog 37 #[.int .i64 j, .int .i64 m, .int .i64 n, ov, rv, x] w fun e w' => e = .returned (.bool (chkQ j m n old root ps)) ∧ Fr (fun _ => False) w w' := by
  by_cases h : 1 ≤ j ∧ j ≤ 32 ∧ 0 ≤ m ∧ m ≤ n ∧ (old.length : Int) = j ∧ (root.length : Int) = j ∧ wdq j ps = true
  · obtain ⟨h1, h2, h3, h4, h5, h6, h7⟩ := h
    have hwd := gwide_any j _ vs ps w hp (by omega)
    rw [h7] at hwd
    obtain ⟨wi, rfl⟩ : ∃ k : Nat, j = (k : Int) := ⟨j.toNat, by omega⟩
    obtain ⟨M, rfl⟩ : ∃ k : Nat, m = (k : Int) := ⟨m.toNat, by omega⟩
    obtain ⟨N, rfl⟩ : ∃ k : Nat, n = (k : Int) := ⟨n.toNat, by omega⟩
    have hq1 : wdq wi [old, root] = true := by simp [wdq, h5, h6]
    have hce : chkQ wi M N old root ps = (if (M : Int) = 0 then decide (ps = []) && (decide (old = sm wi []) && (decide (0 < (N : Int)) || decide (root = sm wi []))) else prfQ wi N M old root ps) := by
      rw [chkQ, decide_eq_true (show 1 ≤ (wi : Int) ∧ (wi : Int) ≤ 32 by omega), decide_eq_true h3, decide_eq_true h4, hq1, h7]; rfl
    rw [hce]
    clear hce hq1
    have hol : old.length = wi := by omega
    have hrl : root.length = wi := by omega
    have hpw : ∀ p ∈ ps, p.length = wi := fun p hp => by have := wdq_true h7 p hp; omega
    obtain ⟨oo, oc, rfl⟩ := ho.form
    obtain ⟨rr, rc, rfl⟩ := hr.form
    obtain ⟨xo, xc, rfl⟩ := hp.form
    rw [hol] at ho ⊢
    rw [hrl] at hr ⊢
    by_cases hM : M = 0
    · subst hM
      rw [if_pos (show ((0 : Nat) : Int) = 0 from rfl)]
      have e1 : decide (ps = []) = decide (ps.length = 0) := by simp
      have e2 : decide (0 < (N : Int)) = decide (0 < N) := by simp
      rw [e1, e2]
      exact gcp_zero wi N (by omega) (by omega) oo oc rr rc xo _ xc old root w hg ho hr hol hrl hwd
    · rw [if_neg (by omega)]
      by_cases hMN : M = N
      · subst hMN
        rw [prfQ_same]
        exact gcp_all wi M (by omega) (by omega) (by omega) oo oc rr rc xo _ xc old root w hg ho hr hol hwd
      · have hp1 := hp
        refine gcp_some wi M N (by omega) (by omega) (by omega) (by omega) oo oc rr rc xo _ xc old root _ _ (rOk true 0 N M ps) w hg ho hr (fun hC => olderv_wid wi (by omega) (by omega) _ (rR_wid wi true old _ _ _ _ hC hol hpw) _ _ _ _ _ _ (Nat.le_refl _)) (fun hC => topv_wid wi (by omega) (by omega) _ (rR_wid wi true old _ _ _ _ hC hol hpw) _ _ _ _ _ _ (Nat.le_refl _)) _ (prfQ_r wi N M old root ps) hwd (fun w' hF => ?_)
        have hri := rise_any wi (by omega) (by omega) old hol oo wi oc N true 0 N M ps vs _ w' (Nat.le_refl _) (by omega) (by omega) (by omega) (hg.fr0 hF) (ho.fr0 hF) (hp.fr0 hF) hcx hps hpw
        unfold RiSays at hri
        rw [Nat.sub_zero] at hri
        refine hri.mono ?_
        rintro e w'' ⟨hA, hB, hF⟩
        refine ⟨fun hC => ?_, hB, hF⟩
        obtain ⟨ao, an, ac, bo, bn, bc, so, sc, ss, rfl, s1, s2, -, -, -⟩ := hA hC
        exact ⟨ao, an, ac, bo, bn, bc, so, _, sc, rfl, s1, s2⟩
  · have hB : chkQ j m n old root ps = false := by
      cases hq : chkQ j m n old root ps with
      | false => rfl
      | true =>
        refine absurd ?_ h
        unfold chkQ at hq
        simp only [Bool.and_eq_true, decide_eq_true_eq] at hq
        obtain ⟨⟨a1, a2⟩, a3, a4, a5, a6, -⟩ := hq
        exact ⟨a1, a2, a3, a4, by have := wdq_true a5 old (by simp); omega, by have := wdq_true a5 root (by simp); omega, a6⟩
    rw [hB]
    exact gcp_no j m n ov rv x old root vs ps w ho hr hp hps h
end Go.Proofs.YtocdnomfpgdglaaDoor

namespace Go.Proofs.YtocdnomfpgdglaaDoor
open Go.RowKit

theorem box6 (w : World) (a b c d e f : Value) (ty : Nat) (W : World) (hW : w.alloc (.cells #[a, b, c, d, e, f] ty) = W) : (W.cell? ⟨w.heap.size, 0, none⟩ = some a ∧ W.cell? ⟨w.heap.size, 1, none⟩ = some b ∧ W.cell? ⟨w.heap.size, 2, none⟩ = some c ∧ W.cell? ⟨w.heap.size, 3, none⟩ = some d ∧ W.cell? ⟨w.heap.size, 4, none⟩ = some e ∧ W.cell? ⟨w.heap.size, 5, none⟩ = some f) ∧ Fr (fun _ => False) w W ∧ w.heap.size < W.heap.size := by
  subst hW
  have hc : ∀ j, (w.alloc (.cells #[a, b, c, d, e, f] ty)).cell? ⟨w.heap.size, j, none⟩ = (#[a, b, c, d, e, f] : Array Value)[j]? := fun j => World.cell?_alloc_at _ _ _ _ rfl
  exact ⟨⟨hc 0, hc 1, hc 2, hc 3, hc 4, hc 5⟩, (Fr.refl _ _).alloc _, by simp⟩
def X6 (w : World) (b : Nat) (c0 c1 c2 c3 c4 c5 : Value) : Prop := w.cell? ⟨b, 0, none⟩ = some c0 ∧ w.cell? ⟨b, 1, none⟩ = some c1 ∧ w.cell? ⟨b, 2, none⟩ = some c2 ∧ w.cell? ⟨b, 3, none⟩ = some c3 ∧ w.cell? ⟨b, 4, none⟩ = some c4 ∧ w.cell? ⟨b, 5, none⟩ = some c5
theorem X6.fr0 {w w' : World} {b : Nat} {c0 c1 c2 c3 c4 c5 : Value} (h : X6 w b c0 c1 c2 c3 c4 c5) (hf : Fr (fun _ => False) w w') : X6 w' b c0 c1 c2 c3 c4 c5 := by
  obtain ⟨h0, h1, h2, h3, h4, h5⟩ := h
  have hl := lt_of_cell h0
  have hc : ∀ j v, w.cell? ⟨b, j, none⟩ = some v → w'.cell? ⟨b, j, none⟩ = some v := fun j v h => (hf.cell (p := ⟨b, j, none⟩) hl (fun h => h)).trans h
  exact ⟨hc _ _ h0, hc _ _ h1, hc _ _ h2, hc _ _ h3, hc _ _ h4, hc _ _ h5⟩
set_option maxRecDepth 100000 in
set_option maxHeartbeats 4000000 in
/-- MerkleChecks. -/
theorem checks_any (a i n : Int) (lv pv rv : Value) (leaf root : List Nat) (us : List Value) (ps : List (List Nat)) (w : World) (hg : GS w) (hr : GR w) (ht : GT w) (hl : Sl w lv leaf) (hrt : Sl w rv root) (hp : Pcs w pv us ps) (hC : Cp pv) (hn : n < 9223372036854775808) (hB : ∀ p ∈ ps, p.length ≤ 4000000) (hN : ps.length ≤ 4000000) :
    Calls Tryd.prog 7 #[.agg #[.int .i64 a, .int .i64 i, .int .i64 n, lv, pv, rv]] w fun e w' => e = .returned (.bool true) ∧ Fr (fun _ => False) w w' := by
  obtain ⟨lo, lc, rfl⟩ := hl.form
  obtain ⟨ro, rc, rfl⟩ := hrt.form
  obtain ⟨po, pc, rfl⟩ := hp.form
  have hgd := fun w' (hf : Fr (fun _ => False) w w') => mguarded_any _ us ps w' (hp.fr0 hf) hB (by omega)
  have hm := fun w' so sc us' (hf : Fr (fun _ => False) w w') (h1 : Pcs w' (.slice so ps.length sc) us' ps) (h2 : Cp (.slice so ps.length sc)) => checkPath_any a i n _ _ _ leaf root us' ps w' (hg.fr0 hf) (hl.fr0 hf) (hrt.fr0 hf) h1 h2 hn (by omega)
  have hgm := fun w' (hf : Fr (fun _ => False) w w') => gcheckPath_any a i n _ _ _ leaf root us ps w' (hr.fr0 hf) (hl.fr0 hf) (hrt.fr0 hf) (hp.fr0 hf) hC hn (by omega)
  have hq := fun w' so sc us' (hf : Fr (fun _ => False) w w') (h1 : Pcs w' (.slice so ps.length sc) us' ps) (h2 : Cp (.slice so ps.length sc)) => checkProof_any a i n _ _ _ leaf root us' ps w' (hg.fr0 hf) (hl.fr0 hf) (hrt.fr0 hf) h1 h2 hn (by omega)
  have hgq := fun w' (hf : Fr (fun _ => False) w w') => gcheckProof_any a i n _ _ _ leaf root us ps w' (hr.fr0 hf) (hl.fr0 hf) (hrt.fr0 hf) (hp.fr0 hf) hC hn (by omega)
  have hlf := fun w' so sc ao ac us' ts (hf : Fr (fun _ => False) w w') (h1 : Pcs w' (.slice so ps.length sc) us' ps) (h2 : Pcs w' (.slice ao (ps.length + 9) ac) ts (gls ps)) => mleft_any _ _ _ us us' ts ps w' (hp.fr0 hf) h1 h2 hB (by omega)
  have hlv := fun (w' : World) (hf : Fr (fun _ => False) w w') => mlives_any w' (hg.fr0 hf) (ht.fr0 hf)
  have hbyt := hp.byt
  generalize chkP a leaf i n ps root = B1 at *
  generalize chkQ a i n leaf root ps = B2 at *
  have HC := hide (And.intro hgd (And.intro hm (And.intro hgm (And.intro hq (And.intro hgq (And.intro hlf (And.intro hlv hbyt)))))))
  clear hgd hm hgm hq hgq hlf hlv hbyt hg hr ht hl hrt hp hC hn hB hN
  generalize leaf.length = LL at *
  generalize root.length = RL at *
  generalize hPN : ps.length = PN at *
  obtain ⟨W1, hW1⟩ : ∃ W1, w.alloc (.cells #[.int .i64 a, .int .i64 i, .int .i64 n, .slice lo LL lc, .slice po PN pc, .slice ro RL rc] 54) = W1 := ⟨_, rfl⟩
  obtain ⟨⟨x0, x1, x2, x3, x4, x5⟩, hF1, hlt1⟩ := box6 w _ _ _ _ _ _ _ W1 hW1
  have HX := hide (And.intro (show X6 W1 w.heap.size _ _ _ _ _ _ from ⟨x0, x1, x2, x3, x4, x5⟩) hF1)
  clear hF1 hlt1
  go_enter Tryd.func7, Tryd.ntmps7
  go_wp2_with fail
  try rw [hW1]
  generalize w.heap.size = b at *
  clear hW1
  refine ((unhide HC).1 _ (unhide HX).2).mono ?_
  rintro e w1 ⟨so, sc, svs, ao, ac, avs, rfl, hsl, hI⟩
  have h1 := hI.pcsS (by rw [hsl, hPN]) (unhide HC).2.2.2.2.2.2.2
  have h2 := hI.pcsA
  have hal : avs.length = PN + 9 := by rw [← hI.sln]; exact hsl
  rw [hal] at h2
  rw [hPN] at h1
  have hFw1 : Fr (fun _ => False) w w1 := (unhide HX).2.trans hI.all.own.fr (fun _ _ h => h)
  have hS : ∀ w', Fr (fun _ => False) w1 w' → X6 w' b (.int .i64 a) (.int .i64 i) (.int .i64 n) (.slice lo LL lc) (.slice po PN pc) (.slice ro RL rc) := fun w' hf => ((unhide HX).1.fr0 hI.all.own.fr).fr0 hf
  unfold X6 at hS
  have H1 := hide (And.intro hFw1 (And.intro h1.1 (And.intro h2 h1.2)))
  have HS := hide hS
  clear hI h1 h2 hsl hal hFw1 hS x0 x1 x2 x3 x4 x5
  have T1 : True := trivial
  go_wp2_with fail
  go_region_held3 (fun w' => w'.cell? ⟨b, 0, none⟩ = some (.int .i64 a) ∧ w'.cell? ⟨b, 1, none⟩ = some (.int .i64 i) ∧ w'.cell? ⟨b, 2, none⟩ = some (.int .i64 n) ∧ w'.cell? ⟨b, 3, none⟩ = some (.slice lo LL lc) ∧ w'.cell? ⟨b, 4, none⟩ = some (.slice po PN pc) ∧ w'.cell? ⟨b, 5, none⟩ = some (.slice ro RL rc))
    (first | assumption | exact (unhide HS) _ (Fr.refl _ _).drew | exact (unhide HS) _ fC | exact (unhide HS) _ fB | exact (unhide HS) _ fA)
    (first
      | (go_at_call 19; clear T1; refine ((unhide HC).2.1 _ _ _ _ ((unhide H1).1.drew) ((unhide H1).2.1.fr0 (Fr.refl _ _).drew) (unhide H1).2.2.2).mono ?_; rintro e wA ⟨rfl, hA⟩; have fA : Fr (fun _ => False) w1 wA := (Fr.refl _ _).drew.trans hA (fun _ _ h => h))
      | (go_at_call 35; refine ((unhide HC).2.2.1 _ ((unhide H1).1.trans fA (fun _ _ h => h))).mono ?_; rintro e wB ⟨rfl, hB⟩; have fB : Fr (fun _ => False) w1 wB := fA.trans hB (fun _ _ h => h))
      | (go_at_call 26; refine ((unhide HC).2.2.2.2.2.1 _ _ _ _ _ _ _ ((unhide H1).1.trans fB (fun _ _ h => h)) ((unhide H1).2.1.fr0 fB) ((unhide H1).2.2.1.fr0 fB)).mono ?_; rintro e wC ⟨rfl, hC⟩; have fC : Fr (fun _ => False) w1 wC := fB.trans hC (fun _ _ h => h)))
  have H2 := hide fC
  clear fA fB fC hA hB hC
  have T2 : True := trivial
  go_wp2_with fail
  go_region_held3 (fun w' => w'.cell? ⟨b, 0, none⟩ = some (.int .i64 a) ∧ w'.cell? ⟨b, 1, none⟩ = some (.int .i64 i) ∧ w'.cell? ⟨b, 2, none⟩ = some (.int .i64 n) ∧ w'.cell? ⟨b, 3, none⟩ = some (.slice lo LL lc) ∧ w'.cell? ⟨b, 4, none⟩ = some (.slice po PN pc) ∧ w'.cell? ⟨b, 5, none⟩ = some (.slice ro RL rc))
    (first | assumption | exact (unhide HS) _ (unhide H2).drew | exact (unhide HS) _ fG | exact (unhide HS) _ fF | exact (unhide HS) _ fE | exact (unhide HS) _ fD)
    (first
      | (go_at_call 36; clear T2; refine ((unhide HC).2.2.2.1 _ _ _ _ ((unhide H1).1.trans (unhide H2).drew (fun _ _ h => h)) ((unhide H1).2.1.fr0 (unhide H2).drew) (unhide H1).2.2.2).mono ?_; rintro e wD ⟨rfl, hD⟩; have fD : Fr (fun _ => False) w1 wD := (unhide H2).drew.trans hD (fun _ _ h => h))
      | (go_at_call 37; refine ((unhide HC).2.2.2.2.1 _ ((unhide H1).1.trans fD (fun _ _ h => h))).mono ?_; rintro e wE ⟨rfl, hE⟩; have fE : Fr (fun _ => False) w1 wE := fD.trans hE (fun _ _ h => h))
      | (go_at_call 26; refine ((unhide HC).2.2.2.2.2.1 _ _ _ _ _ _ _ ((unhide H1).1.trans fE (fun _ _ h => h)) ((unhide H1).2.1.fr0 fE) ((unhide H1).2.2.1.fr0 fE)).mono ?_; rintro e wF ⟨rfl, hF⟩; have fF : Fr (fun _ => False) w1 wF := fE.trans hF (fun _ _ h => h))
      | (go_at_call 10; refine ((unhide HC).2.2.2.2.2.2.1 _ ((unhide H1).1.trans fF (fun _ _ h => h))).mono ?_; rintro e wG ⟨rfl, hG⟩; have fG : Fr (fun _ => False) w1 wG := fF.trans hG (fun _ _ h => h)))
  have H3 := hide ((unhide H1).1.trans fG (fun _ _ h => h))
  clear fD fE fF fG hD hE hF hG
  go_wp2_with fail
  go_ret
  exact ⟨rfl, unhide H3⟩
end Go.Proofs.YtocdnomfpgdglaaDoor

namespace Go.Proofs.YtocdnomfpgdglaaDoor
open Go.RowKit

set_option maxRecDepth 100000 in
set_option maxHeartbeats 2000000 in
theorem manys_any (j : Int) (x y : Value) (vs : List Value) (es : List (List Nat)) (zs : List Int) (w : World) (hg : GS w) (hr : GR w) (ht : GT w) (hp : Pcs w x vs es) (hB : ∀ e ∈ es, e.length ≤ 4000000) (hn : es.length ≤ 4000000) (hy : Ints w y zs) (hl : zs.length ≤ 4000000) (hb : ∀ z ∈ zs, -9223372036854775808 ≤ z) :
    Calls Tryd.prog 6 #[.int .i64 j, x, y] w fun e w' => e = .returned (.bool true) ∧ Fr (fun _ => False) w w' := by
  obtain ⟨xo, xc, rfl⟩ := hp.form
  obtain ⟨yo, yc, rfl⟩ := hy.form
  have hB16 : ∀ e ∈ es, e.length ≤ 16000000 := fun e he => by have := hB e he; omega
  have hgd := mguarded_any _ vs es w hp hB (by omega)
  have hg1 := fun w' (hf : Fr (fun _ => False) w w') => gmanyU j _ _ vs es zs w' (hr.fr0 hf) (hp.fr0 hf) hB hn (hy.fr0 hf) hl hb
  have hm1 := fun w' so sc us q (hf : Fr (fun _ => False) w w') (hp' : Pcs w' (.slice so es.length sc) us es) (hq : Ints w' q zs) => mmanyU j _ _ us es zs w' (hg.fr0 hf) (ht.fr0 hf) hp' hB16 (by omega) hq hl hb
  have hlf := fun w' so sc ao ac us ts (hf : Fr (fun _ => False) w w') (h1 : Pcs w' (.slice so es.length sc) us es) (h2 : Pcs w' (.slice ao (es.length + 9) ac) ts (gls es)) => mleft_any _ _ _ vs us ts es w' (hp.fr0 hf) h1 h2 hB (by omega)
  have hlv := fun (w' : World) (hf : Fr (fun _ => False) w w') => mlives_any w' (hg.fr0 hf) (ht.fr0 hf)
  have hbyt := hp.byt
  have hk1 := plM_ok j es zs
  have hap := fun w' (hf : Fr (fun _ => False) w w') => (OI.nil w').app (hy.fr0 hf) (by simp; omega)
  simp only [List.length_nil, Nat.zero_add, List.nil_append] at hap
  generalize plM j es zs = P1 at *
  generalize pcM j es zs = C1 at *
  have hh1 := fun (w2 w3 w4 : World) (ao bo : Option Addr) (cp bc : Nat) (vs us ts : List Value) (z : Value) (ha : OL w2 w3 ao cp vs P1) (hb : OL w3 w4 bo bc us P1) (hz : Pcs w2 z ts P1) => held_T ha hb hz C1 hk1.1 (by have := hk1.2; omega)
  have HC := hide (And.intro hgd (And.intro hg1 (And.intro hm1 (And.intro hlf (And.intro hlv (And.intro hbyt (And.intro hh1 (And.intro hy (And.intro hl hap)))))))))
  clear hgd hg1 hm1 hlf hlv hbyt hh1 hk1 hg hr ht hp hB hn hB16 hy hl hap hb
  generalize hN : es.length = N at *
  generalize hZ : zs.length = Z at *
  go_enter Tryd.func6, Tryd.ntmps6
  go_wp2_with fail
  refine (unhide HC).1.mono ?_
  rintro e w1 ⟨so, sc, svs, ao, ac, avs, rfl, hsl, hI⟩
  have h1 := hI.pcsS (by rw [hsl, hN]) (unhide HC).2.2.2.2.2.1
  have h2 := hI.pcsA
  have hal : avs.length = N + 9 := by rw [← hI.sln]; exact hsl
  rw [hal] at h2
  rw [hN] at h1
  obtain ⟨po, pc, w2, hr2, hO2, -, -⟩ := (unhide HC).2.2.2.2.2.2.2.2.2 w1 hI.all.own.fr
  have H1 := hide (And.intro (hI.all.own.fr.trans hO2.fr (fun _ _ h => h)) (And.intro (h1.1.fr0 hO2.fr) (And.intro (h2.fr0 hO2.fr) hO2.ints)))
  have HR := hide hr2
  clear hI h1 h2 hsl hal hO2 hr2
  go_wp2_with (at_builtin; refine wpList_app rfl (.tmp 22) (.tmp 23) 34 34 rfl _ _ _ rfl rfl (unhide HR) ?_)
  refine ((unhide HC).2.1 w2 (unhide H1).1).mono ?_
  rintro e w3 ⟨zo, zc, ts, rfl, hZZ, hF⟩
  have H2 := hide (And.intro ((unhide H1).1.trans hF (fun _ _ h => h)) (And.intro ((unhide H1).2.1.fr0 hF) (And.intro ((unhide H1).2.2.1.fr0 hF) (And.intro hZZ ((unhide H1).2.2.2.fr0 hF)))))
  clear hZZ hF
  go_wp2_with fail
  refine ((unhide HC).2.2.1 w3 so sc _ _ (unhide H2).1 (unhide H2).2.1 (unhide H2).2.2.2.2).mono ?_
  rintro e w4 ⟨a1, c1, v1, rfl, hO⟩
  have H3 := hide (And.intro hO hO.own.fr)
  clear hO
  go_wp2_with fail
  refine ((unhide HC).2.2.1 w4 so sc _ _ ((unhide H2).1.trans (unhide H3).2 (fun _ _ h => h)) ((unhide H2).2.1.fr0 (unhide H3).2) ((unhide H2).2.2.2.2.fr0 (unhide H3).2)).mono ?_
  rintro e w5 ⟨a2, c2, v2, rfl, hO⟩
  have H4 := hide (And.intro hO hO.own.fr)
  clear hO
  go_wp2_with fail
  go_loopw [16] (fun iv wr => ∃ (k : Nat), k ≤ Z ∧ iv = .int .i64 (k : Nat) ∧ Fr (fun _ => False) w5 wr) (fun iv _ => Z - (intOf iv).toNat)
  case atStart => exact ⟨0, Nat.zero_le _, rfl, Fr.refl _ _⟩
  case round =>
    obtain ⟨k, hk, rfl, hF⟩ := hrel
    have hl := (unhide HC).2.2.2.2.2.2.2.2.1
    by_cases hlt : k < Z
    · have hlt' : (k : Int) < (Z : Int) := by omega
      have hkz : k < zs.length := by omega
      have hf3 : Fr (fun _ => False) w3 wr := ((unhide H3).2.trans (unhide H4).2 (fun _ _ h => h)).trans hF (fun _ _ h => h)
      obtain ⟨g1, o1, rfl, cell1⟩ := ((unhide H2).2.2.2.2.fr0 hf3).cell k hkz
      obtain ⟨g2, o2, rfl, cell2⟩ := ((unhide HC).2.2.2.2.2.2.2.1.fr0 ((unhide H2).1.trans hf3 (fun _ _ h => h))).cell k hkz
      have w1' : IntKind.i64.wrap ((k : Int) + 1) = (k : Int) + 1 := by rw [IntKind.wrap_i64]; omega
      generalize zs[k] = z at *
      have HF := hide hF
      clear hF hf3
      go_wp2_with fail
      go_quiet (fail)
      go_wp2_with fail
      exact ⟨⟨k + 1, by omega, by go_num, (unhide HF).drewN _⟩, by simp [intOf]; omega⟩
    · have hlt' : ¬ (k : Int) < (Z : Int) := by omega
      have HF := hide hF
      clear hF
      go_wp2_with fail
      refine ((unhide HC).2.2.2.2.2.2.1 w3 w4 wr _ _ _ _ _ _ ts _ (unhide H3).1 ((unhide H4).1.fr0 (unhide HF)) (unhide H2).2.2.2.1).mono ?_
      rintro e w6 ⟨rfl, hF⟩
      have H5 := hide (And.intro ((unhide H2).1.trans hF (fun _ _ h => h)) (And.intro ((unhide H2).2.1.fr0 hF) ((unhide H2).2.2.1.fr0 hF)))
      clear hF
      go_wp2_with fail
      refine ((unhide HC).2.2.2.1 w6 so sc ao ac _ avs (unhide H5).1 (unhide H5).2.1 (unhide H5).2.2).mono ?_
      rintro e w7 ⟨rfl, hF⟩
      have H6 := hide ((unhide H5).1.trans hF (fun _ _ h => h))
      clear hF
      go_wp2_with fail
      refine ((unhide HC).2.2.2.2.1 w7 (unhide H6)).mono ?_
      rintro e w8 ⟨rfl, hF⟩
      have H7 := hide ((unhide H6).trans hF (fun _ _ h => h))
      clear hF
      go_wp2_with fail
      go_ret
      exact ⟨rfl, unhide H7⟩
end Go.Proofs.YtocdnomfpgdglaaDoor

namespace Go.Proofs.YtocdnomfpgdglaaDoor
open Go.RowKit

set_option maxRecDepth 100000 in
set_option maxHeartbeats 4000000 in
/-- MerkleCheckManys. -/
theorem checkManys_any (a i n : Int) (lv pv rv yv xv : Value) (leaf root : List Nat) (us : List Value) (ps : List (List Nat)) (zs : List Int) (vs : List Value) (ls : List (List Nat)) (w : World) (hg : GS w) (hr : GR w) (ht : GT w) (hl : Sl w lv leaf) (hrt : Sl w rv root) (hp : Pcs w pv us ps) (hC : Cp pv) (hy : Ints w yv zs) (hx : Pcs w xv vs ls) (hxC : Cp xv) (hn : n < 9223372036854775808) (hB : ∀ p ∈ ps, p.length ≤ 4000000) (hN : ps.length ≤ 4000000) (hzl : zs.length ≤ 4000000) (hzb : ∀ z ∈ zs, -9223372036854775808 ≤ z) (hLB : ∀ p ∈ ls, p.length ≤ 4000000) (hLN : ls.length ≤ 4000000) :
    Calls Tryd.prog 8 #[.agg #[.int .i64 a, .int .i64 i, .int .i64 n, lv, pv, rv], yv, xv] w fun e w' => e = .returned (.bool true) ∧ Fr (fun _ => False) w w' := by
  obtain ⟨lo, lc, rfl⟩ := hl.form
  obtain ⟨ro, rc, rfl⟩ := hrt.form
  obtain ⟨po, pc, rfl⟩ := hp.form
  obtain ⟨yo, yc, rfl⟩ := hy.form
  obtain ⟨xo, xc, rfl⟩ := hx.form
  have hgd := fun w' (hf : Fr (fun _ => False) w w') => mguarded_any _ us ps w' (hp.fr0 hf) hB (by omega)
  have hgd2 := fun w' (hf : Fr (fun _ => False) w w') => mguarded_any _ vs ls w' (hx.fr0 hf) hLB (by omega)
  have hap := fun w' (hf : Fr (fun _ => False) w w') => (OI.nil w').app (hy.fr0 hf) (by simp; omega)
  simp only [List.length_nil, Nat.zero_add, List.nil_append] at hap
  have hm := fun w' so sc us' to tc vs' q (hf : Fr (fun _ => False) w w') (h1 : Pcs w' (.slice so ps.length sc) us' ps) (h2 : Cp (.slice so ps.length sc)) (h3 : Pcs w' (.slice to ls.length tc) vs' ls) (h4 : Cp (.slice to ls.length tc)) (h5 : Ints w' q zs) => checkMany_any a n _ q _ _ ls ps zs root vs' us' w' (hg.fr0 hf) h3 h4 h5 h1 h2 (hrt.fr0 hf) (by omega) hzb (by omega) (by omega) hn
  have hgm := fun w' (hf : Fr (fun _ => False) w w') => gcheckMany_any a n _ _ _ _ ls ps zs root vs us w' (hr.fr0 hf) (hx.fr0 hf) hxC (hy.fr0 hf) (hp.fr0 hf) hC (hrt.fr0 hf) (by omega) hzb (by omega) (by omega) hn
  have hlf := fun w' so sc ao ac us' ts (hf : Fr (fun _ => False) w w') (h1 : Pcs w' (.slice so ps.length sc) us' ps) (h2 : Pcs w' (.slice ao (ps.length + 9) ac) ts (gls ps)) => mleft_any _ _ _ us us' ts ps w' (hp.fr0 hf) h1 h2 hB (by omega)
  have hlf2 := fun w' so sc ao ac us' ts (hf : Fr (fun _ => False) w w') (h1 : Pcs w' (.slice so ls.length sc) us' ls) (h2 : Pcs w' (.slice ao (ls.length + 9) ac) ts (gls ls)) => mleft_any _ _ _ vs us' ts ls w' (hx.fr0 hf) h1 h2 hLB (by omega)
  have hlv := fun (w' : World) (hf : Fr (fun _ => False) w w') => mlives_any w' (hg.fr0 hf) (ht.fr0 hf)
  have hbyt := hp.byt
  have hbyt2 := hx.byt
  generalize chkM a n ls zs ps root = B1 at *
  have HC := hide (And.intro hgd (And.intro hgd2 (And.intro hap (And.intro hm (And.intro hgm (And.intro hlf (And.intro hlf2 (And.intro hlv (And.intro hbyt hbyt2)))))))))
  clear hgd hgd2 hap hm hgm hlf hlf2 hlv hbyt hbyt2 hg hr ht hl hrt hp hC hn hB hN hzl hzb hLB hLN hx hxC hy
  generalize leaf.length = LL at *
  generalize root.length = RL at *
  generalize hPN : ps.length = PN at *
  generalize hXN : ls.length = XN at *
  generalize hZN : zs.length = ZN at *
  obtain ⟨W1, hW1⟩ : ∃ W1, w.alloc (.cells #[.int .i64 a, .int .i64 i, .int .i64 n, .slice lo LL lc, .slice po PN pc, .slice ro RL rc] 54) = W1 := ⟨_, rfl⟩
  obtain ⟨⟨x0, x1, x2, x3, x4, x5⟩, hF1, hlt1⟩ := box6 w _ _ _ _ _ _ _ W1 hW1
  have hX : ∀ w', Fr (fun _ => False) W1 w' → X6 w' w.heap.size _ _ _ _ _ _ := fun w' hf => (show X6 W1 w.heap.size _ _ _ _ _ _ from ⟨x0, x1, x2, x3, x4, x5⟩).fr0 hf
  have HX := hide (And.intro hX hF1)
  clear hF1 hlt1 hX
  go_enter Tryd.func8, Tryd.ntmps8
  go_wp2_with fail
  try rw [hW1]
  generalize w.heap.size = b at *
  clear hW1
  refine ((unhide HC).1 _ (unhide HX).2).mono ?_
  rintro e w1 ⟨so, sc, svs, ao, ac, avs, rfl, hsl, hI⟩
  have h1 := hI.pcsS (by rw [hsl, hPN]) (unhide HC).2.2.2.2.2.2.2.2.1
  have h2 := hI.pcsA
  have hal : avs.length = PN + 9 := by rw [← hI.sln]; exact hsl
  rw [hal] at h2
  rw [hPN] at h1
  have H1 := hide (And.intro hI.all.own.fr (And.intro h1.1 (And.intro h2 h1.2)))
  clear hI h1 h2 hsl hal x0 x1 x2 x3 x4 x5
  go_wp2_with fail
  refine ((unhide HC).2.1 _ ((unhide HX).2.trans (unhide H1).1 (fun _ _ h => h))).mono ?_
  rintro e w2 ⟨to, tc, tvs, bo, bc, bvs, rfl, hsl, hI⟩
  have h1 := hI.pcsS (by rw [hsl, hXN]) (unhide HC).2.2.2.2.2.2.2.2.2
  have h2 := hI.pcsA
  have hal : bvs.length = XN + 9 := by rw [← hI.sln]; exact hsl
  rw [hal] at h2
  rw [hXN] at h1
  have hF2 := (unhide H1).1.trans hI.all.own.fr (fun _ _ h => h)
  obtain ⟨qo, qc, w3, hr3, hO3, -, -⟩ := (unhide HC).2.2.1 w2 ((unhide HX).2.trans hF2 (fun _ _ h => h))
  have hF3 := hF2.trans hO3.fr (fun _ _ h => h)
  obtain ⟨y0, y1, y2, y3, y4, y5⟩ := (unhide HX).1 w3 hF3
  have H2 := hide (And.intro hF3 (And.intro ((unhide H1).2.1.fr0 (hI.all.own.fr.trans hO3.fr (fun _ _ h => h))) (And.intro ((unhide H1).2.2.1.fr0 (hI.all.own.fr.trans hO3.fr (fun _ _ h => h))) (And.intro (unhide H1).2.2.2 (And.intro (h1.1.fr0 hO3.fr) (And.intro (h2.fr0 hO3.fr) (And.intro h1.2 hO3.ints)))))))
  have HR := hide hr3
  clear hI h1 h2 hsl hal hO3 hr3 hF2 hF3
  go_wp2_with (at_builtin; refine wpList_app rfl (.tmp 24) (.tmp 25) 34 34 rfl _ _ _ rfl rfl (unhide HR) ?_)
  refine ((unhide HC).2.2.2.1 w3 _ _ _ _ _ _ _ ((unhide HX).2.trans (unhide H2).1 (fun _ _ h => h)) (unhide H2).2.1 (unhide H2).2.2.2.1 (unhide H2).2.2.2.2.1 (unhide H2).2.2.2.2.2.2.1 (unhide H2).2.2.2.2.2.2.2).mono ?_
  rintro e w4 ⟨rfl, hF4⟩
  obtain ⟨z0, z1, z2, z3, z4, z5⟩ := (unhide HX).1 w4 ((unhide H2).1.trans hF4 (fun _ _ h => h))
  have H4 := hide hF4
  clear hF4 y0 y1 y2 y3 y4 y5
  go_wp2_with fail
  refine ((unhide HC).2.2.2.2.1 w4 ((unhide HX).2.trans ((unhide H2).1.trans (unhide H4) (fun _ _ h => h)) (fun _ _ h => h))).mono ?_
  rintro e w5 ⟨rfl, hF5⟩
  have hF45 := (unhide H4).trans hF5 (fun _ _ h => h)
  obtain ⟨y0, y1, y2, y3, y4, y5⟩ := (unhide HX).1 w5 ((unhide H2).1.trans hF45 (fun _ _ h => h))
  have H5 := hide (And.intro hF45 ((unhide H2).1.trans hF45 (fun _ _ h => h)))
  clear hF5 hF45 z0 z1 z2 z3 z4 z5
  have hBB : (B1 == B1) = true := by simp
  go_wp2_with fail
  refine ((unhide HC).2.2.2.2.2.1 w5 _ _ _ _ _ _ ((unhide HX).2.trans (unhide H5).2 (fun _ _ h => h)) ((unhide H2).2.1.fr0 (unhide H5).1) ((unhide H2).2.2.1.fr0 (unhide H5).1)).mono ?_
  rintro e w6 ⟨rfl, hF6⟩
  have H6 := hide (And.intro ((unhide H5).1.trans hF6 (fun _ _ h => h)) ((unhide H5).2.trans hF6 (fun _ _ h => h)))
  clear hF6
  go_wp2_with fail
  refine ((unhide HC).2.2.2.2.2.2.1 w6 _ _ _ _ _ _ ((unhide HX).2.trans (unhide H6).2 (fun _ _ h => h)) ((unhide H2).2.2.2.2.1.fr0 (unhide H6).1) ((unhide H2).2.2.2.2.2.1.fr0 (unhide H6).1)).mono ?_
  rintro e w7 ⟨rfl, hF7⟩
  have H7 := hide ((unhide H6).2.trans hF7 (fun _ _ h => h))
  clear hF7
  go_wp2_with fail
  refine ((unhide HC).2.2.2.2.2.2.2.1 w7 ((unhide HX).2.trans (unhide H7) (fun _ _ h => h))).mono ?_
  rintro e w8 ⟨rfl, hF8⟩
  have H8 := hide ((unhide HX).2.trans ((unhide H7).trans hF8 (fun _ _ h => h)) (fun _ _ h => h))
  clear hF8
  go_wp2_with fail
  go_ret
  exact ⟨rfl, unhide H8⟩
end Go.Proofs.YtocdnomfpgdglaaDoor

namespace Go.Proofs.YtocdnomfpgdglaaDoor
open Go.ChangeShapes Go.WideShapes Go.ChangeAt Go.RowKit
set_option maxRecDepth 100000

theorem Tryd.cellsInt : Tryd.prog.cellsOf 3 = 1 := by kernel_rfl
/-- A slice of whole numbers that came in. -/
theorem ints_of_reading {H : Type} {enc : TypeId × Value → H} {W : World} {base : Nat} {v : Value} {d : DataW H} {p : List MemPlace} (hval : Value.okWide Tryd.prog W .any base 34 v) (h : DataW.Trod enc Tryd.prog W 0 (fun _ => true) true 34 v d p) :
    ∃ zs, Ints W v zs ∧ (∀ z ∈ zs, -9223372036854775808 ≤ z ∧ z < 9223372036854775808) ∧ zs.length ≤ Rows.uptoBulk d := by
  obtain ⟨a0, len0, cap0, rfl⟩ := okWide_slice Tryd.underlying34 hval
  obtain ⟨fuel, hf⟩ := h
  rcases open_ints Tryd.underlying34 Tryd.underlying3 Tryd.cellsInt (by simpa [Value.cells] using hf) with ⟨hcs, hx⟩ | ⟨a, len, cap, zs, hcs, _, hl, hm, hz, hx, hcell, hwz⟩
  · simp only [List.cons.injEq, and_true] at hcs
    rw [hcs]
    exact ⟨[], .inl ⟨rfl, rfl⟩, (fun _ h => by cases h), Nat.zero_le _⟩
  · simp only [List.cons.injEq, and_true] at hcs
    rw [hcs]
    simp only [Prod.mk.injEq] at hx
    obtain ⟨rfl, -⟩ := hx
    simp only [if_true] at hz
    have hlen : (zs.take len).length = len := by simp; omega
    have hbulk : len ≤ Rows.uptoBulk (DataW.slice (lits .i64 (zs.take len)) (lits .i64 (zs.drop len)) : DataW H) := by
      have h1 := bulk_len (lits .i64 (zs.take len) : List (DataW H))
      have h2 : (lits .i64 (zs.take len) : List (DataW H)).length = len := by simp [lits]; omega
      simp only [Rows.uptoBulk]
      omega
    by_cases h0 : len = 0
    · subst h0
      exact ⟨[], .inr (.inl ⟨a, cap, rfl, rfl⟩), (fun _ h => by cases h), Nat.zero_le _⟩
    · obtain ⟨b, off, rfl, hc⟩ := ints_at hcell (show 0 < zs.length by omega)
      refine ⟨zs.take len, .inr (.inr ⟨b, off, cap, by rw [hlen], by omega, lt_of_cell (hc 0 (by omega)), fun j hj => ?_⟩), fun z hz1 => ?_, by rw [hlen]; exact hbulk⟩
      · rw [hc j (by omega)]
        simp only [List.getD, List.getElem?_take]
        rw [if_pos (by omega)]
      · have := bounds_i64 (hwz z (List.mem_of_mem_take hz1))
        omega
end Go.Proofs.YtocdnomfpgdglaaDoor

namespace Go.Proofs.YtocdnomfpgdglaaDoor
open Go.ChangeShapes Go.WideShapes Go.ChangeAt Go.RowKit Go.Deep
set_option maxRecDepth 100000

theorem Tryd.cellsPcs : Tryd.prog.cellsOf 22 = 1 := by kernel_rfl
theorem Tryd.cellsClaim : Tryd.prog.cellsOf 54 = 6 := by kernel_rfl
/-- A Claim that came in. -/
theorem claim_of_reading {H : Type} {enc : TypeId × Value → H} {W : World} {base : Nat} {v : Value} {d : DataW H} {p : List MemPlace} (hval : Value.okWide Tryd.prog W .any base 54 v) (h : DataW.Trod enc Tryd.prog W 0 (fun _ => true) true 54 v d p) :
    ∃ (a i n : Int) (lv pv rv : Value) (leaf root : List Nat) (us : List Value) (ps : List (List Nat)), v = .agg #[.int .i64 a, .int .i64 i, .int .i64 n, lv, pv, rv] ∧ Sl W lv leaf ∧ Sl W rv root ∧ Pcs W pv us ps ∧ Cp pv ∧ n < 9223372036854775808 ∧ leaf.length ≤ Rows.uptoBulk d ∧ root.length ≤ Rows.uptoBulk d ∧ (∀ q ∈ ps, q.length ≤ Rows.uptoBulk d) ∧ ps.length ≤ Rows.uptoBulk d := by
  obtain ⟨cs, rfl, hsz⟩ := okWide_struct Tryd.underlying54 hval
  obtain ⟨fuel, hf0⟩ := h
  obtain ⟨xs, n, _, hx, hl, hlen, hfs⟩ := DataW.trod_struct Tryd.underlying54 hf0
  rw [Tryd.cellsClaim] at hl
  simp only [Prod.mk.injEq] at hx
  obtain ⟨rfl, -⟩ := hx
  have h0 := hfs 0 _ rfl
  have h1 := hfs 1 _ rfl
  have h2 := hfs 2 _ rfl
  have h3 := hfs 3 _ rfl
  have h4 := hfs 4 _ rfl
  have h5 := hfs 5 _ rfl
  have hc : (Value.agg cs).cells.toList = cs.toList := rfl
  rw [hc] at hl h0 h1 h2 h3 h4 h5
  obtain ⟨l⟩ := cs
  simp only at hl h0 h1 h2 h3 h4 h5
  match l, hl with
  | [c0, c1, c2, c3, c4, c5], _ =>
    match xs, hlen with
    | [y0, y1, y2, y3, y4, y5], _ =>
      simp [Tryd.cellsInt, Tryd.cellsB, Tryd.cellsPcs] at h0 h1 h2 h3 h4 h5
      obtain ⟨a, e0, q0, wa⟩ := DataW.trod_int Tryd.underlying3 h0
      obtain ⟨i, e1, q1, wi⟩ := DataW.trod_int Tryd.underlying3 h1
      obtain ⟨n, e2, q2, wn⟩ := DataW.trod_int Tryd.underlying3 h2
      simp only [List.cons.injEq, and_true] at e0 e1 e2
      subst e0 e1 e2
      obtain ⟨l3, s1, s2, s3, s4, s5⟩ := src_of_trod (d := y3.1) (p := y3.2) h3
      obtain ⟨l5, t1, t2, t3, t4, t5⟩ := src_of_trod (d := y5.1) (p := y5.2) h5
      have hform : ∃ a len cap, c4 = .slice a len cap := by
        rcases open_slice1 Tryd.underlying22 Tryd.cellsB h4 with ⟨hcs, hx⟩ | ⟨a, len, cap, m, n, V, D, Pl, hcs, _⟩
        · simp at hcs
          exact ⟨_, _, _, hcs⟩
        · simp at hcs
          exact ⟨_, _, _, hcs⟩
      obtain ⟨a4, len4, cap4, rfl⟩ := hform
      obtain ⟨us, ps, hP, hC, hB, hN⟩ := pcs_of_formC (v := .slice a4 len4 cap4) (d := y4.1) (p := y4.2) ⟨_, _, _, rfl⟩ ⟨_, h4⟩
      have hn := bounds_i64 wn
      have hbi : ∀ y : DataW H, y ∈ [y0, y1, y2, y3, y4, y5].map (·.1) → Rows.uptoBulk y ≤ Rows.uptoBulk (DataW.agg ([y0, y1, y2, y3, y4, y5].map (·.1)) : DataW H) := fun y hy => by
        have := bulk_in _ y hy
        simp only [Rows.uptoBulk]
        omega
      have b3 := hbi y3.1 (by simp)
      have b4 := hbi y4.1 (by simp)
      have b5 := hbi y5.1 (by simp)
      exact ⟨a, i, n, c3, .slice a4 len4 cap4, c5, l3, l5, us, ps, rfl, ⟨s1, s3, s4, s2⟩, ⟨t1, t3, t4, t2⟩, hP, hC, by omega, by omega, by omega, fun q hq => by have := hB q hq; omega, by omega⟩
end Go.Proofs.YtocdnomfpgdglaaDoor

namespace Go.Proofs.YtocdnomfpgdglaaDoor
open Go.ChangeShapes Go.WideShapes Go.ChangeAt Go.RowKit
set_option maxRecDepth 100000

theorem mcheckmanys_contract (H : Type) (enc : TypeId × Value → H) (W : World) (base : Nat) (args : Array Value) (ds gs : List (DataW H)) (before : List MemPlace)
    (hval : ∀ (j : Nat) t v, Tryd.f8.params[j]? = some t → args[j]? = some v → Value.okWide Tryd.prog W .any base t v)
    (hW : DataW.Whole enc Tryd.prog Tryd.f8.params.toList Rows.merkleCheckManysSpec.vars false W args.toList ds gs before) (hk : Rows.uptoSmall H (ds ++ gs) = true) (hL : laidMetH Tryd.prog Rows.merkleCheckManysUptoRow.laid W) (hsh : W.ShapedOpen Tryd.prog) :
    Calls Tryd.prog 8 args W fun e W' => ∃ v, e = .returned v ∧ Rows.merkleCheckManysSpec.post enc Tryd.prog Tryd.f8 false true false false W args v W' := by
  have hW' := hW
  obtain ⟨p, q, hA0, hV, rfl, hfz, hnd⟩ := hW
  have hA : DataW.TrodAll enc Tryd.prog W 0 (fun _ => true) true Tryd.f8.params.toList args.toList ds p := hA0
  rw [Tryd.params8] at hA hval
  obtain ⟨v0, vs0, d0, ds0, p0, q0, hargs, rfl, rfl, h0, r0⟩ := trodAll_cons hA
  obtain ⟨v1, vs1, d1, ds1, p1, q1, rfl, rfl, rfl, h1, r1⟩ := trodAll_cons r0
  obtain ⟨v2, vs2, d2, ds2, p2, q2, rfl, rfl, rfl, h2, r2⟩ := trodAll_cons r1
  obtain ⟨rfl, rfl, rfl⟩ := trodAll_nil r2
  obtain rfl : args = #[v0, v1, v2] := by cases args; simp_all
  obtain ⟨rfl, rfl⟩ := trodVars_none hV
  obtain ⟨a0, i0, n0, lv0, pv0, rv0, lf0, rt0, us0, ps0, rfl, hL0, hR0, hP0, hCp0, hn0, hBl0, hBr0, hB0, hN0⟩ := claim_of_reading (hval 0 54 v0 rfl rfl) h0
  obtain ⟨zs1, hZ1, hY1, hN1⟩ := ints_of_reading (hval 1 34 v1 rfl rfl) h1
  obtain ⟨us2, ps2, hP2, hCp2, hB2, hN2⟩ := pcs_of_readingC (hval 2 22 v2 rfl rfl) h2
  have hk0 : Rows.uptoBulk d0 ≤ 1048576 := by
    have h := of_decide_eq_true hk
    simp only [List.append_nil, Rows.uptoBulkAll] at h
    omega
  have hk1 : Rows.uptoBulk d1 ≤ 1048576 := by
    have h := of_decide_eq_true hk
    simp only [List.append_nil, Rows.uptoBulkAll] at h
    omega
  have hk2 : Rows.uptoBulk d2 ≤ 1048576 := by
    have h := of_decide_eq_true hk
    simp only [List.append_nil, Rows.uptoBulkAll] at h
    omega
  obtain ⟨hg, hr, ht⟩ := g6_of_laid (show laidMet Tryd.prog laid6 W from hL) (heap_enough hsh)
  clear hA0
  refine (checkManys_any a0 i0 n0 lv0 pv0 rv0 v1 v2 lf0 rt0 us0 ps0 zs1 us2 ps2 W hg hr ht hL0 hR0 hP0 hCp0 hZ1 hP2 hCp2 hn0 (fun p hp => by have := hB0 p hp; omega) (by omega) (by omega) (fun z hz => (hY1 z hz).1) (fun p hp => by have := hB2 p hp; omega) (by omega)).mono fun e W' ⟨he, hf⟩ => ?_
  subst he
  have hlt : ∀ x ∈ p0 ++ (p1 ++ (p2 ++ [])), x.block < W.heap.size := fun x hx => hW'.lt x (by simpa using hx)
  have hb := hf.below
  refine ⟨_, rfl, _, _, _, [], p0 ++ (p1 ++ (p2 ++ [])), [], hW', ?_, ?_, ?_, hb.frame _, fun h => by cases h⟩
  · exact trodAll_cons_mk (shut_bool Tryd.underlying4 true) trodAll_mk0
  · exact (trodAll_cons_mk (Below.trod (by kernel_rfl) (by kernel_rfl) (by decide +kernel) h0 hb (fun x hx => hlt x (by simp [hx]))) (trodAll_cons_mk (Below.trod (by kernel_rfl) (by kernel_rfl) (by decide +kernel) h1 hb (fun x hx => hlt x (by simp [hx]))) (trodAll_cons_mk (Below.trod (by kernel_rfl) (by kernel_rfl) (by decide +kernel) h2 hb (fun x hx => hlt x (by simp [hx]))) trodAll_mk0)))
  · rfl

theorem mcheckmanys_laid_met (os : Os) : laidMetH Tryd.prog Rows.merkleCheckManysUptoRow.laid ((mWorld os).forCall (fun _ _ => 0) ⟨#[], #[.agg #[.int .i64 0, .int .i64 0, .int .i64 0, .slice none 0 0, .slice none 0 0, .slice none 0 0], .slice none 0 0, .slice none 0 0], []⟩).memory :=
  laidMetH_of_parts (laidMet_of_run' 8 (by kernel_rfl) (by kernel_rfl)) (by kernel_rfl)
theorem mcheckmanys_reads (os : Os) {H : Type} (enc : TypeId × Value → H) : ∃ places, DataW.whole enc Tryd.prog ((mWorld os).forCall (fun _ _ => 0) ⟨#[], #[.agg #[.int .i64 0, .int .i64 0, .int .i64 0, .slice none 0 0, .slice none 0 0, .slice none 0 0], .slice none 0 0, .slice none 0 0], []⟩).memory Tryd.f8.params.toList Rows.merkleCheckManysSpec.vars false #[Value.agg #[.int .i64 0, .int .i64 0, .int .i64 0, .slice none 0 0, .slice none 0 0, .slice none 0 0], .slice none 0 0, .slice none 0 0].toList 8 = some ([.agg [.lit (.int .i64 0), .lit (.int .i64 0), .lit (.int .i64 0), .nil, .nil, .nil], .nil, .nil], [], places) :=
  ⟨[], by kernel_rfl⟩

theorem mcheckmanys_lifted (os : Os) (started : os.Started) (H : Type) (enc : TypeId × Value → H) (F : Stop.Interp) :
    ReturnsInHanded {} Tryd.checked os 8 .any ((Rows.OpenSpec.upto Rows.merkleCheckManysSpec).preRow enc Tryd.prog Tryd.f8 Rows.merkleCheckManysUptoRow.domain false Rows.merkleCheckManysUptoRow.laid) (((Rows.OpenSpec.upto Rows.merkleCheckManysSpec).at F).post enc Tryd.prog Tryd.f8 false true false false) := by
  obtain ⟨places, hx⟩ := mcheckmanys_reads os enc
  refine returnsInHanded_of_row (C := Tryd.checked) (s := Rows.OpenSpec.upto Rows.merkleCheckManysSpec) Tryd.ownKnob started (by kernel_rfl) Tryd.func8
    (witness_row_atRef (enc := enc) (C := Tryd.checked) false (mWorld os) #[.agg #[.int .i64 0, .int .i64 0, .int .i64 0, .slice none 0 0, .slice none 0 0, .slice none 0 0], .slice none 0 0, .slice none 0 0] rfl (by kernel_rfl) (by kernel_rfl) (by kernel_rfl)
      (OpenSpec.preRow_of_cond 8 hx (by kernel_rfl) (fun k hk => by cases hk; kernel_rfl) (by kernel_rfl) (mcheckmanys_laid_met os))) ?_
  intro W base args ds gs before hval hW _ hcond _ hL hsh _
  exact mcheckmanys_contract H enc W base args ds gs before hval hW (hcond _ rfl) hL hsh

theorem mcheckmanys_said : Rows.MerkleCheckManysUptoSaid :=
  OpenClaim.holds_of_cond 8 Tryd.f8 rfl rfl rfl rfl rfl rfl rfl ⟨rfl, rfl, rfl, rfl, rfl⟩ rfl rfl rfl rfl rfl (by kernel_rfl) Tryd.func8 (by kernel_rfl)
    (of_decide_eq_true (by kernel_rfl)) (by unfold Func.isWrapper; first | (rw [if_pos (by decide +kernel)]; kernel_rfl) | (rw [if_neg (by decide +kernel)]; exact ⟨rfl, rfl⟩))
    (fun os started H enc _ F => by rw [OpenClaim.pre_eq_preRow]; exact mcheckmanys_lifted os started H enc F)

theorem mcheckmanys_plain (f : FuncId) (fn : Func) (hf : Tryd.pinned.checked.prog.funcNamed Rows.merkleCheckManysUptoRow.func = some f) (hfn : Tryd.pinned.checked.prog.funcs[f]? = some fn) :
    false = Tryd.pinned.checked.prog.looks [] ∧ ∀ (j : Nat) t, fn.params[j]? = some t → Tryd.pinned.checked.prog.wantsStandIn t = false := by
  obtain rfl : f = 8 := Option.some.inj ((show Tryd.prog.funcNamed Rows.merkleCheckManysUptoRow.func = some 8 by kernel_rfl).symm.trans hf) |>.symm
  obtain rfl : fn = Tryd.f8 := (Option.some.inj (Tryd.func8.symm.trans hfn)).symm
  refine ⟨by kernel_rfl, fun j t ht => ?_⟩
  rw [Tryd.params8] at ht
  have ht' : t = 54 ∨ t = 34 ∨ t = 22 := by simpa using Array.mem_of_getElem? ht
  rcases ht' with rfl | rfl | rfl
  · exact (show Tryd.prog.wantsStandIn 54 = false by kernel_rfl)
  · exact (show Tryd.prog.wantsStandIn 34 = false by kernel_rfl)
  · exact (show Tryd.prog.wantsStandIn 22 = false by kernel_rfl)

/-- THE SECOND FORM's CARD. -/
theorem mcheckmanys_card : Rows.MerkleCheckManysUptoCardSaid :=
  Claim7.holds_tied_plain_at .later [] _ _ _ _ mcheckmanys_said (fun _ h => by cases h) (by kernel_rfl) (fun _ h => by cases h) merkleCheckManysUpto_row_tie rfl ⟨rfl, rfl⟩ (by kernel_rfl) rfl mcheckmanys_plain (by kernel_rfl)
#print axioms mcheckmanys_card
end Go.Proofs.YtocdnomfpgdglaaDoor

