import Derived.Test.YtjokmlnghpnlbaaDoorPk1
import Derived.Lib.SlBytesConst
import Derived.Test.YtjokmlnghpnlbaaDoorSre
import Derived.Test.YtjokmlnghpnlbaaDoorMae
import Derived.Test.YtjokmlnghpnlbaaDoorSbw
namespace Go.Proofs.YtjokmlnghpnlbaaDoor
open Go.RowKit

theorem lf_len5 (wi : Nat) (hw1 : 1 ≤ wi) (hw32 : wi ≤ 32) (e : List Nat) : (lf (wi : Int) e).length = wi := by
  rw [lf, sm_len ⟨by omega, by omega⟩, Int.toNat_natCast]
theorem ent_lt (f : Nat → Nat → List Nat) (h : ∀ J V, ∀ v ∈ f J V, v < 256) (n : Nat) : ∀ v ∈ ent f n, v < 256 := by
  induction n with
  | zero => intro v hv; cases hv
  | succ n ih =>
    intro v hv
    rw [ent] at hv
    rcases List.mem_append.1 hv with hv | hv
    · rcases List.mem_append.1 hv with hv | hv
      · exact ih v hv
      · exact h _ _ v hv
    · exact h _ _ v hv
theorem lt5_lt (wi : Nat) (h p : List Nat) (hp : ∀ v ∈ p, v < 256) (J V : Nat) : ∀ v ∈ lt5 wi h p J V, v < 256 := by
  unfold lt5
  split
  · exact sm_lt _ _
  · exact fun v hv => hp v (List.mem_of_mem_drop (List.mem_of_mem_take hv))
/-- What Check answers, of a width, a height and a key that may be, and of lengths that fit. -/
def chk5 (wi H : Nat) (pub : List Nat) (K : Int) (m s : List Nat) : Bool :=
  chkP wi (lf wi (ent (lt5 wi (sm wi m) (s.take (16 * wi * wi))) (8 * wi))) K ((2 ^ H : Nat) : Int) (cuts wi (s.drop (16 * wi * wi)) H) pub
set_option maxRecDepth 100000 in
set_option maxHeartbeats 4000000 in
/-- lamport.Check, of what may be. -/
theorem lcheck_in (wi H : Nat) (hw1 : 1 ≤ wi) (hw32 : wi ≤ 32) (hH : H ≤ 6) (K : Int) (hK : 0 ≤ K ∧ K < ((2 ^ H : Nat) : Int)) (pv mv sv : Value) (pub m s : List Nat) (w : World) (hg : GS w) (hp : Sl w pv pub) (hm : Sl w mv m) (hs : Sl w sv s) (hpl : pub.length = wi) (hml : m.length < 9223372036854775808) (hsl : s.length = 16 * wi * wi + H * wi) :
    Calls Tryd.prog 16 #[.int .i64 wi, .int .i64 H, pv, .int .i64 K, mv, sv] w fun e w' => e = .returned (.bool (chk5 wi H pub K m s)) ∧ Fr (fun _ => False) w w' := by
  obtain ⟨po, pc, rfl⟩ := hp.form
  obtain ⟨so, sc, rfl⟩ := hs.form
  obtain ⟨mo, mc, rfl⟩ := hm.form
  have hps1 : 1 ≤ 16 * wi * wi := by
    have : 1 * 1 ≤ 16 * wi * wi := Nat.mul_le_mul (by omega) hw1
    exact this
  have hps9 : 16 * wi * wi ≤ 16384 := Nat.mul_le_mul (show 16 * wi ≤ 512 by omega) hw32
  have hhw9 : H * wi ≤ 192 := Nat.mul_le_mul hH hw32
  obtain ⟨g, o, rfl, _⟩ := src_cell hs.s 0 (by omega) hs.b
  have hsc : s.length ≤ sc := hs.cap _ _ _ rfl
  have hmay := fun w' => lmay_any wi H w'
  rw [decide_eq_true (by omega)] at hmay
  have hik := fun w' => liskey_any H hH K w'
  rw [decide_eq_true hK] at hik
  have hsz := fun w' => lsize_any wi H w'
  have esz : szF wi H = ((16 * wi * wi + H * wi : Nat) : Int) := by rw [szF, if_pos (by omega)]; simp
  rw [esz] at hsz
  have hpr := fun w' => lpairs_any wi hw32 w'
  have hkc := fun w' => lkeys_any H hH w'
  have hpt : (s.take (16 * wi * wi)).length = 16 * wi * wi := by rw [List.length_take]; omega
  have hsm : (sm (wi : Int) m).length = wi := by rw [sm_len ⟨by omega, by omega⟩, Int.toNat_natCast]
  have hsub := hs.sub 0 (16 * wi * wi) (by omega)
  rw [List.drop_zero, Nat.add_zero, Nat.sub_zero] at hsub
  have htold := fun w' (hf : Fr (fun _ => False) w w') => ltold_in wi hw1 hw32 _ _ m _ w' (hg.fr0 hf) (hm.fr0 hf) (hsub.fr0 hf) hml
  have hent := fun w' b0 b1 b2 hb ho (hf : Fr (fun _ => False) w w') (h : LtAt w' b0 b1 b2 hb ho wi (.slice (some ⟨g, o, none⟩) (16 * wi * wi) sc) (s.take (16 * wi * wi)) (sm wi m)) => lentry_any wi _ hw1 hw32 _ _ w' (h.f5 (hg.fr0 hf) hw1 hw32 hsm hpt)
  obtain ⟨EN, hEN⟩ : ∃ EN, ent (lt5 wi (sm wi m) (s.take (16 * wi * wi))) (8 * wi) = EN := ⟨_, rfl⟩
  have hENl : EN.length = 16 * wi * wi := by
    rw [← hEN, ent_len _ wi (8 * wi) (fun J V hJ _ => lt5_len wi hw1 hw32 _ _ J V hJ hpt), ← Nat.mul_assoc]
  have hENb : ∀ v ∈ EN, v < 256 := by rw [← hEN]; exact ent_lt _ (lt5_lt _ _ _ (fun v hv => hs.b v (List.mem_of_mem_take hv))) _
  have hleaf := fun w' x (hf : Fr (fun _ => False) w w') (h : Sl w' x EN) => leaf_any wi x EN w' (hg.fr0 hf) h (by omega)
  rw [lf_len5 wi hw1 hw32] at hleaf
  have hcut := fun w' xo c (hx : Sl w' (.slice xo (H * wi) c) (s.drop (16 * wi * wi))) => lcut_any wi H hw1 hw32 (by omega) xo c _ w' hx (by rw [List.length_drop]; omega)
  have hrest : ∀ w', Fr (fun _ => False) w w' → (¬ sc = 16 * wi * wi → Sl w' (.slice (some ⟨g, o + (16 * wi * wi), none⟩) (H * wi) (sc - 16 * wi * wi)) (s.drop (16 * wi * wi))) ∧ (sc = 16 * wi * wi → ∀ c, Sl w' (.slice (some ⟨g, o, none⟩) (H * wi) c) (s.drop (16 * wi * wi))) := fun w' hf => by
    constructor
    · intro _
      have h := (hs.fr0 hf).sub (16 * wi * wi) (H * wi) (by omega)
      rw [List.take_of_length_le (by rw [List.length_drop]; omega)] at h
      exact h
    · intro h c
      have h0 : H * wi = 0 := by omega
      have h1 : s.drop (16 * wi * wi) = [] := List.drop_eq_nil_of_le (by omega)
      rw [h0, h1]
      exact ⟨.inr (.inr ⟨_, _, rfl, rfl⟩), fun _ _ _ e => by cases e; exact Nat.zero_le _, .inl rfl, fun v hv => by cases hv⟩
  have hchk := fun w' lv x vs (hf : Fr (fun _ => False) w w') (h1 : Sl w' lv (lf wi EN)) (h2 : Pcs w' x vs (cuts wi (s.drop (16 * wi * wi)) H)) (h3 : Cp x) => checkPath_any wi K ((2 ^ H : Nat) : Int) lv _ x _ pub vs _ w' (hg.fr0 hf) h1 (hp.fr0 hf) h2 h3 (by have : 2 ^ H ≤ 2 ^ 6 := Nat.pow_le_pow_right (by decide) hH; omega) (by simp [cuts]; omega)
  unfold chk5
  rw [hEN]
  rw [hEN] at hent
  generalize chkP wi (lf wi EN) K ((2 ^ H : Nat) : Int) (cuts wi (s.drop (16 * wi * wi)) H) pub = B at *
  have hlb := lf_lt (wi : Int) EN
  have hll := lf_len5 wi hw1 hw32 EN
  rw [hsl] at *
  rw [hpl] at *
  generalize m.length = ML at *
  generalize 2 ^ H = N2 at *
  generalize hPS : 16 * wi * wi = PS at *
  generalize hHW : H * wi = HW at *
  have HC := hide (And.intro hmay (And.intro hik (And.intro hsz (And.intro hpr (And.intro hkc (And.intro htold (And.intro hent (And.intro hleaf (And.intro hcut (And.intro hrest (And.intro hchk (And.intro hENl (And.intro hENb (And.intro hll hlb))))))))))))))
  clear hmay hik hsz hpr hkc htold hent hleaf hcut hrest hchk hENl hENb hll hlb hp hm hs hg hsub hpt hsm esz hEN hPS hHW
  go_enter Tryd.func16, Tryd.ntmps16
  go_wp2_with fail
  refine ((unhide HC).1 _).mono ?_
  rintro e w0 ⟨rfl, rfl⟩
  go_wp2_with fail
  refine ((unhide HC).2.1 _).mono ?_
  rintro e w0' ⟨rfl, rfl⟩
  go_wp2_with fail
  refine ((unhide HC).2.2.1 _).mono ?_
  rintro e w0'' ⟨rfl, rfl⟩
  have p0 : (0 : Int) ≤ (PS : Int) := by omega
  have p1 : (PS : Int) ≤ (sc : Int) := by omega
  have p2 : (PS : Int) ≤ ((PS + HW : Nat) : Int) := by omega
  have p2' : (PS : Int) ≤ (PS : Int) + (HW : Int) := by omega
  have p3 : (PS : Int) + (HW : Int) ≤ (sc : Int) := by omega
  by_cases hcs : sc = PS
  · have hH0 : HW = 0 := by omega
    have hrest0 := fun w' (hf : Fr (fun _ => False) w0'' w') => ((unhide HC).2.2.2.2.2.2.2.2.2.1 w' hf).2 hcs
    have HR := hide hrest0
    clear hrest0
    subst hH0
    have hcs'' : PS = sc := hcs.symm
    clear hcs p2 p2' p3
    subst hcs''
    go_wp2_with fail
    go_region_held3 (fun _ => True)
      (trivial)
      (first
        | (go_at_call 28; refine ((unhide HC).2.2.2.1 _).mono ?_; rintro e wA ⟨rfl, rfl⟩))
    go_wp2_with fail
    refine ((unhide HC).2.2.2.2.2.1 _ (Fr.refl _ _).drew).mono ?_
    rintro e w1 ⟨b0, b1, b2, hb, ho, rfl, hL1, hF1⟩
    have H1 := hide (And.intro hL1 ((Fr.refl _ _).drew.trans hF1 (fun _ _ h => h)))
    clear hL1 hF1
    go_wp2_with fail
    refine ((unhide HC).2.2.2.2.2.2.1 _ _ _ _ _ _ (unhide H1).2 (unhide H1).1).mono ?_
    rintro e w2 ⟨eo, ec, rfl, hO2⟩
    have hS2 := hO2.sl (unhide HC).2.2.2.2.2.2.2.2.2.2.2.2.1
    rw [(unhide HC).2.2.2.2.2.2.2.2.2.2.2.1] at hS2
    have H2 := hide (And.intro hS2 ((unhide H1).2.trans hO2.fr (fun _ _ h => h)))
    clear hO2 hS2 H1
    go_wp2_with fail
    refine ((unhide HC).2.2.2.2.2.2.2.1 _ _ (unhide H2).2 (unhide H2).1).mono ?_
    rintro e w3 ⟨fo, rfl, hO3⟩
    have hS3 := hO3.sl (unhide HC).2.2.2.2.2.2.2.2.2.2.2.2.2.2
    rw [(unhide HC).2.2.2.2.2.2.2.2.2.2.2.2.2.1] at hS3
    have H3 := hide (And.intro hS3 ((unhide H2).2.trans hO3.fr (fun _ _ h => h)))
    clear hO3 hS3 H2
    go_wp2_with fail
    refine ((unhide HC).2.2.2.2.1 _).mono ?_
    rintro e w3' ⟨rfl, rfl⟩
    go_wp2_with fail
    refine ((unhide HC).2.2.2.2.2.2.2.2.1 _ _ _ ((unhide HR) _ (unhide H3).2 _)).mono ?_
    rintro e w4 ⟨ao, cp, us, rfl, hP4, hC4, hF4⟩
    have H4 := hide (And.intro hP4 (And.intro hC4 (And.intro ((unhide H3).1.fr0 hF4) ((unhide H3).2.trans hF4 (fun _ _ h => h)))))
    clear hP4 hC4 hF4 H3
    go_wp2_with fail
    refine ((unhide HC).2.2.2.2.2.2.2.2.2.2.1 _ _ _ _ (unhide H4).2.2.2 (unhide H4).2.2.1 (unhide H4).1 (unhide H4).2.1).mono ?_
    rintro e w5 ⟨rfl, hF5⟩
    have H5 := hide ((unhide H4).2.2.2.trans hF5 (fun _ _ h => h))
    clear hF5 H4
    go_wp2_with fail
    go_ret
    exact ⟨rfl, unhide H5⟩
  · have hcs' : ¬ PS = sc := fun h => hcs h.symm
    have hcs2 : ¬ (PS : Int) = (sc : Int) := by omega
    go_wp2_with fail
    go_region_held3 (fun _ => True)
      (trivial)
      (first
        | (go_at_call 28; refine ((unhide HC).2.2.2.1 _).mono ?_; rintro e wA ⟨rfl, rfl⟩))
    go_wp2_with fail
    refine ((unhide HC).2.2.2.2.2.1 _ (Fr.refl _ _).drew).mono ?_
    rintro e w1 ⟨b0, b1, b2, hb, ho, rfl, hL1, hF1⟩
    have H1 := hide (And.intro hL1 ((Fr.refl _ _).drew.trans hF1 (fun _ _ h => h)))
    clear hL1 hF1
    go_wp2_with fail
    refine ((unhide HC).2.2.2.2.2.2.1 _ _ _ _ _ _ (unhide H1).2 (unhide H1).1).mono ?_
    rintro e w2 ⟨eo, ec, rfl, hO2⟩
    have hS2 := hO2.sl (unhide HC).2.2.2.2.2.2.2.2.2.2.2.2.1
    rw [(unhide HC).2.2.2.2.2.2.2.2.2.2.2.1] at hS2
    have H2 := hide (And.intro hS2 ((unhide H1).2.trans hO2.fr (fun _ _ h => h)))
    clear hO2 hS2 H1
    go_wp2_with fail
    refine ((unhide HC).2.2.2.2.2.2.2.1 _ _ (unhide H2).2 (unhide H2).1).mono ?_
    rintro e w3 ⟨fo, rfl, hO3⟩
    have hS3 := hO3.sl (unhide HC).2.2.2.2.2.2.2.2.2.2.2.2.2.2
    rw [(unhide HC).2.2.2.2.2.2.2.2.2.2.2.2.2.1] at hS3
    have H3 := hide (And.intro hS3 ((unhide H2).2.trans hO3.fr (fun _ _ h => h)))
    clear hO3 hS3 H2
    go_wp2_with fail
    refine ((unhide HC).2.2.2.2.1 _).mono ?_
    rintro e w3' ⟨rfl, rfl⟩
    go_wp2_with fail
    refine ((unhide HC).2.2.2.2.2.2.2.2.1 _ _ _ (((unhide HC).2.2.2.2.2.2.2.2.2.1 _ (unhide H3).2).1 hcs)).mono ?_
    rintro e w4 ⟨ao, cp, us, rfl, hP4, hC4, hF4⟩
    have H4 := hide (And.intro hP4 (And.intro hC4 (And.intro ((unhide H3).1.fr0 hF4) ((unhide H3).2.trans hF4 (fun _ _ h => h)))))
    clear hP4 hC4 hF4 H3
    go_wp2_with fail
    refine ((unhide HC).2.2.2.2.2.2.2.2.2.2.1 _ _ _ _ (unhide H4).2.2.2 (unhide H4).2.2.1 (unhide H4).1 (unhide H4).2.1).mono ?_
    rintro e w5 ⟨rfl, hF5⟩
    have H5 := hide ((unhide H4).2.2.2.trans hF5 (fun _ _ h => h))
    clear hF5 H4
    go_wp2_with fail
    go_ret
    exact ⟨rfl, unhide H5⟩
end Go.Proofs.YtjokmlnghpnlbaaDoor

namespace Go.Proofs.YtjokmlnghpnlbaaDoor
open Go.RowKit

/-- May Check look at it? -/
def okL (j h K : Int) (pub s : List Nat) : Prop := ((1 ≤ j ∧ j ≤ 32) ∧ 0 ≤ h ∧ h ≤ 6) ∧ (pub.length : Int) = j ∧ (0 ≤ K ∧ K < ((2 ^ h.toNat : Nat) : Int)) ∧ (s.length : Int) = szF j h
instance (j h K : Int) (pub s : List Nat) : Decidable (okL j h K pub s) := by unfold okL; infer_instance
/-- What Check answers. -/
def chkL (j h : Int) (pub : List Nat) (K : Int) (m s : List Nat) : Bool := if okL j h K pub s then chk5 j.toNat h.toNat pub K m s else false
set_option maxRecDepth 100000 in
set_option maxHeartbeats 2000000 in
/-- lamport.Check, of what may not be. -/
theorem lcheck_no (j h K : Int) (po so : Option Addr) (pc sc : Nat) (mv : Value) (pub s : List Nat) (w : World) (hn : ¬ okL j h K pub s) :
    Calls Tryd.prog 16 #[.int .i64 j, .int .i64 h, .slice po pub.length pc, .int .i64 K, mv, .slice so s.length sc] w fun e w' => e = .returned (.bool false) ∧ Fr (fun _ => False) w w' := by
  have hmay := hide (lmay_any j h w)
  unfold okL at hn
  by_cases h1 : (1 ≤ j ∧ j ≤ 32) ∧ 0 ≤ h ∧ h ≤ 6
  · rw [decide_eq_true h1] at hmay
    by_cases h2 : (pub.length : Int) = j
    · obtain ⟨H, rfl⟩ : ∃ H : Nat, h = (H : Int) := ⟨h.toNat, by omega⟩
      rw [Int.toNat_natCast] at hn
      have hik := hide (liskey_any H (by omega) K w)
      by_cases h3 : 0 ≤ K ∧ K < ((2 ^ H : Nat) : Int)
      · rw [decide_eq_true h3] at hik
        have hsz := hide (lsize_any j H w)
        have h4 : ¬ (s.length : Int) = szF j H := fun e => hn ⟨h1, h2, h3, e⟩
        generalize szF j H = SZ at *
        generalize s.length = SN at *
        generalize pub.length = PN at *
        clear hn h3 h1
        subst h2
        go_enter Tryd.func16, Tryd.ntmps16
        go_wp2_with fail
        refine (unhide hmay).mono ?_
        rintro e w0 ⟨rfl, rfl⟩
        go_wp2_with fail
        refine (unhide hik).mono ?_
        rintro e w0' ⟨rfl, rfl⟩
        go_wp2_with fail
        refine (unhide hsz).mono ?_
        rintro e w0'' ⟨rfl, rfl⟩
        go_wp2_with fail
        go_ret
        exact ⟨rfl, Fr.refl _ _⟩
      · rw [decide_eq_false h3] at hik
        generalize s.length = SN at *
        generalize pub.length = PN at *
        clear hn h3 h1
        subst h2
        go_enter Tryd.func16, Tryd.ntmps16
        go_wp2_with fail
        refine (unhide hmay).mono ?_
        rintro e w0 ⟨rfl, rfl⟩
        go_wp2_with fail
        refine (unhide hik).mono ?_
        rintro e w0' ⟨rfl, rfl⟩
        go_wp2_with fail
        go_ret
        exact ⟨rfl, Fr.refl _ _⟩
    · generalize s.length = SN at *
      generalize pub.length = PN at *
      clear hn h1
      go_enter Tryd.func16, Tryd.ntmps16
      go_wp2_with fail
      refine (unhide hmay).mono ?_
      rintro e w0 ⟨rfl, rfl⟩
      go_wp2_with fail
      go_ret
      exact ⟨rfl, Fr.refl _ _⟩
  · rw [decide_eq_false h1] at hmay
    generalize s.length = SN at *
    generalize pub.length = PN at *
    clear hn h1
    go_enter Tryd.func16, Tryd.ntmps16
    go_wp2_with fail
    refine (unhide hmay).mono ?_
    rintro e w0 ⟨rfl, rfl⟩
    go_wp2_with fail
    go_ret
    exact ⟨rfl, Fr.refl _ _⟩
theorem szF_nat (wi H : Nat) (hw1 : 1 ≤ wi) (hw32 : wi ≤ 32) (hH : H ≤ 6) : szF wi H = ((16 * wi * wi + H * wi : Nat) : Int) := by rw [szF, if_pos (by omega)]; simp
/-- lamport.Check. -/
theorem lcheck_any (j h K : Int) (pv mv sv : Value) (pub m s : List Nat) (w : World) (hg : GS w) (hp : Sl w pv pub) (hm : Sl w mv m) (hs : Sl w sv s) (hml : m.length < 9223372036854775808) :
    Calls Tryd.prog 16 #[.int .i64 j, .int .i64 h, pv, .int .i64 K, mv, sv] w fun e w' => e = .returned (.bool (chkL j h pub K m s)) ∧ Fr (fun _ => False) w w' := by
  unfold chkL
  by_cases hok : okL j h K pub s
  · rw [if_pos hok]
    obtain ⟨h1, h2, h3, h4⟩ := hok
    obtain ⟨wi, rfl⟩ : ∃ wi : Nat, j = (wi : Int) := ⟨j.toNat, by omega⟩
    obtain ⟨H, rfl⟩ : ∃ H : Nat, h = (H : Int) := ⟨h.toNat, by omega⟩
    rw [Int.toNat_natCast] at h3
    rw [szF_nat wi H (by omega) (by omega) (by omega)] at h4
    rw [Int.toNat_natCast, Int.toNat_natCast]
    exact lcheck_in wi H (by omega) (by omega) (by omega) K h3 pv mv sv pub m s w hg hp hm hs (by omega) hml (by omega)
  · rw [if_neg hok]
    obtain ⟨po, pc, rfl⟩ := hp.form
    obtain ⟨so, sc, rfl⟩ := hs.form
    exact lcheck_no j h K po so pc sc mv pub s w hok
end Go.Proofs.YtjokmlnghpnlbaaDoor

namespace Go.Proofs.YtjokmlnghpnlbaaDoor
open Go.RowKit

set_option maxRecDepth 100000 in
set_option maxHeartbeats 2000000 in
/-- Keys.locks. -/
theorem llocks_any (kb wi K : Nat) (x : Value) (seed : List Nat) (w : World) (c0 : w.cell? ⟨kb, 0, none⟩ = some (.int .i64 (wi : Int))) (c2 : w.cell? ⟨kb, 2, none⟩ = some x) (hx : Sl w x seed) :
    Calls Tryd.prog 39 #[.pointer (some ⟨kb, 0, none⟩), .int .i64 K] w fun e w' => ∃ bk bi, e = .returned (.func (.func 65) #[] #[.pointer (some ⟨bk, 0, none⟩), .pointer (some ⟨bi, 0, none⟩)]) ∧ LkAt w' bk bi kb wi K x seed ∧ Fr (fun _ => False) w w' := by
  have hmf := mf
  obtain ⟨W2, hW2⟩ : ∃ W2, (w.alloc (.cells #[.pointer (some ⟨kb, 0, none⟩)] 26)).alloc (.cells #[.int .i64 (K : Int)] 3) = W2 := ⟨_, rfl⟩
  have hF2 : Fr (fun _ => False) w W2 := by rw [← hW2]; exact ((Fr.refl _ _).alloc _).alloc _
  have k1 : W2.cell? ⟨w.heap.size, 0, none⟩ = some (.pointer (some ⟨kb, 0, none⟩)) := by rw [← hW2]; simp [go_sem]
  have k2 : W2.cell? ⟨w.heap.size + 1, 0, none⟩ = some (.int .i64 (K : Int)) := by rw [← hW2]; simp [go_sem]
  have HW := hide (And.intro hF2 (show LkAt W2 _ _ kb wi K x seed from ⟨k1, k2, (hF2.cell (lt_of_cell c0) (fun h => h)).trans c0, (hF2.cell (lt_of_cell c2) (fun h => h)).trans c2, hx.fr0 hF2⟩))
  clear hF2 k1 k2 c0 c2 hx
  go_enter Tryd.func39, Tryd.ntmps39
  go_wp2_with fail
  go_ret
  try rw [hW2]
  exact ⟨_, _, rfl, (unhide HW).2, (unhide HW).1⟩
/-- Keys in memory, with the leaves that their tree has so far. -/
structure KyAt (w : World) (kb base tb wi H : Nat) (x : Value) (seed : List Nat) (L : List (List Nat)) : Prop where
  c0 : w.cell? ⟨kb, 0, none⟩ = some (.int .i64 (wi : Int))
  c1 : w.cell? ⟨kb, 1, none⟩ = some (.int .i64 (H : Int))
  c2 : w.cell? ⟨kb, 2, none⟩ = some x
  c3 : w.cell? ⟨kb, 3, none⟩ = some (.pointer (some ⟨tb, 0, none⟩))
  sl : Sl w x seed
  sb : seed = [] ∨ ∀ g o n c, x = .slice (some ⟨g, o, none⟩) n c → g < base
  gb : 6 ≤ base
  tr : ∃ xo cp vs rs, TrAt w base tb wi L.length xo cp vs rs ∧ RowsOf wi L 0 rs ∧ ¬ TOwn tb xo vs kb
  gs : GS w
  gt : GT w
  wid : ∀ p ∈ L, p.length = wi
  byt : ∀ p ∈ L, ∀ v ∈ p, v < 256
theorem KyAt.fr0 {w w' : World} {kb base tb wi H : Nat} {x : Value} {seed : List Nat} {L : List (List Nat)} (h : KyAt w kb base tb wi H x seed L) (hf : Fr (fun _ => False) w w') : KyAt w' kb base tb wi H x seed L := by
  obtain ⟨xo, cp, vs, rs, h1, h2, h3⟩ := h.tr
  have hc : ∀ j v, w.cell? ⟨kb, j, none⟩ = some v → w'.cell? ⟨kb, j, none⟩ = some v := fun j v hv => (hf.cell (p := ⟨kb, j, none⟩) (lt_of_cell hv) (fun h => h)).trans hv
  exact ⟨hc _ _ h.c0, hc _ _ h.c1, hc _ _ h.c2, hc _ _ h.c3, h.sl.fr0 hf, h.sb, h.gb, ⟨xo, cp, vs, rs, h1.fr hf (fun _ _ h => h), h2, h3⟩, h.gs.fr0 hf, h.gt.fr0 hf, h.wid, h.byt⟩
theorem KyAt.tk {w : World} {kb base tb wi H : Nat} {x : Value} {seed : List Nat} {L : List (List Nat)} (h : KyAt w kb base tb wi H x seed L) (hL : L.length ≤ 8000000) : Tk w tb wi L := by
  obtain ⟨xo, cp, vs, rs, h1, h2, _⟩ := h.tr
  exact ⟨⟨base, xo, cp, vs, rs, h1, h2⟩, h.gs, h.gt, h.wid, h.byt, hL⟩
/-- One entry more. -/
theorem KyAt.add {w : World} {kb base tb wi H : Nat} {x : Value} {seed : List Nat} {L : List (List Nat)} (h : KyAt w kb base tb wi H x seed L) (hw1 : 1 ≤ wi) (hw32 : wi ≤ 32) (hL : L.length ≤ 8000) (y : Value) (e : List Nat) (hy : Sl w y e) (he : e.length ≤ 16000000) :
    Calls Tryd.prog 37 #[.pointer (some ⟨tb, 0, none⟩), y] w fun e' w' => e' = .returned (.int .i64 L.length) ∧ KyAt w' kb base tb wi H x seed (L ++ [lf wi e]) ∧ Fr (fun k => base ≤ k) w w' := by
  obtain ⟨xo, cp, vs, rs, hT, hR, hK⟩ := h.tr
  obtain ⟨hs1, hs2⟩ := hR.small hw1 hw32 h.wid (by omega)
  refine (add_in wi hw1 hw32 base tb L.length h.gb w xo cp vs rs y e hT h.gs hy he hs1 hs2 (by omega)).mono ?_
  rintro e' w' ⟨rfl, xo', cp', vs', hT', hF, hO⟩
  have hwid : ∀ p ∈ L ++ [lf wi e], p.length = wi := fun p hp => (List.mem_append.1 hp).elim (h.wid p) (fun hp => by rw [List.mem_singleton.1 hp]; exact lf_len wi hw1 hw32 e)
  have hR' := hR.add hw1 hw32 (lf wi e) hwid
  have hown : ∀ k, TOwn tb xo vs k → base ≤ k := fun j hj => (hT.lt j hj).1
  have hc : ∀ j v, w.cell? ⟨kb, j, none⟩ = some v → w'.cell? ⟨kb, j, none⟩ = some v := fun j v hv => (hF.cell (p := ⟨kb, j, none⟩) (lt_of_cell hv) hK).trans hv
  have hFb : Fr (fun k => base ≤ k) w w' := hF.mono (fun k _ hk => hown k hk)
  have hkb : kb < w.heap.size := lt_of_cell h.c0
  have hgb := h.gb
  have hgf : GS w' := h.gs.fr hFb (fun k hk hb => by omega)
  have htf : GT w' := h.gt.fr hFb (fun k hk hb => by omega)
  refine ⟨rfl, ⟨hc _ _ h.c0, hc _ _ h.c1, hc _ _ h.c2, hc _ _ h.c3, h.sl.frD hFb (h.sb.imp id (fun hh g o n c ex hb => by have := hh g o n c ex; omega)), h.sb, h.gb, ⟨xo', cp', vs', _, by rw [List.length_append]; exact hT', hR', fun hk => ?_⟩, hgf, htf, hwid, fun p hp => (List.mem_append.1 hp).elim (h.byt p) (fun hp => by rw [List.mem_singleton.1 hp]; exact lf_lt _ e)⟩, hFb⟩
  rcases hO kb hk with h1 | h1
  · exact hK h1
  · omega
end Go.Proofs.YtjokmlnghpnlbaaDoor

namespace Go.Proofs.YtjokmlnghpnlbaaDoor
open Go.RowKit

/-- bytes.Clone of whatever bytes. -/
theorem clone_sl (x : Value) (l : List Nat) (w : World) (h : Sl w x l) (hn : l.length ≤ 1000000000) :
    Calls Tryd.prog 35 #[x] w fun e w' => ∃ yo yc, e = .returned (.slice yo l.length yc) ∧ OB w w' yo yc l := by
  rcases h.s with ⟨rfl, rfl⟩ | ⟨g, o, c, rfl, _⟩ | ⟨a, c, rfl, rfl⟩
  · refine (Any.bytes_Clone_nil laysSlK4 0 0 w).mono ?_
    rintro e w' ⟨rfl, rfl⟩
    exact ⟨none, 0, rfl, own_nil _ _, Fr.refl _ _⟩
  · exact clone_any g o _ c l w h rfl hn
  · refine (clone_at a 0 c [] w rfl (by omega) (fun i hi => by omega)).mono ?_
    rintro e w' ⟨v', rfl, hO, _, hB⟩
    obtain ⟨ao, cap, rfl⟩ := own_form hO
    exact ⟨ao, cap, rfl, hO, ⟨hB.os, hB.tape, hB.output, hB.size, fun k hk _ => hB.block k hk⟩⟩
set_option maxRecDepth 100000 in
theorem lkeylen_any (kb H : Nat) (hH : H ≤ 6) (w : World) (c1 : w.cell? ⟨kb, 1, none⟩ = some (.int .i64 (H : Int))) :
    Calls Tryd.prog 12 #[.pointer (some ⟨kb, 0, none⟩)] w fun e w' => e = .returned (.int .i64 ((2 ^ H : Nat) : Int)) ∧ w' = w := by
  have hk := hide (lkeys_any H hH w)
  generalize 2 ^ H = N at *
  go_enter Tryd.func12, Tryd.ntmps12
  go_wp2_with fail
  refine (unhide hk).mono ?_
  rintro e w0 ⟨rfl, rfl⟩
  go_wp2_with fail
  go_ret
  exact ⟨rfl, rfl⟩
/-- A key's entry; its leaf. -/
def eN (wi : Nat) (seed : List Nat) (k : Nat) : List Nat := ent (lk wi k seed) (8 * wi)
def lvs (wi : Nat) (seed : List Nat) (n : Nat) : List (List Nat) := (List.range n).map fun k => lf wi (eN wi seed k)
theorem lvs_succ (wi : Nat) (seed : List Nat) (n : Nat) : lvs wi seed (n + 1) = lvs wi seed n ++ [lf wi (eN wi seed n)] := by simp [lvs, List.range_succ]
theorem lvs_len (wi : Nat) (seed : List Nat) (n : Nat) : (lvs wi seed n).length = n := by simp [lvs]
theorem eN_len (wi : Nat) (hw1 : 1 ≤ wi) (hw32 : wi ≤ 32) (seed : List Nat) (k : Nat) : (eN wi seed k).length = 16 * wi * wi := by
  rw [eN, ent_len _ wi (8 * wi) (fun J V _ _ => lk_len wi k hw1 hw32 seed J V), ← Nat.mul_assoc]
theorem eN_lt (wi : Nat) (seed : List Nat) (k : Nat) : ∀ v ∈ eN wi seed k, v < 256 := ent_lt _ (lk_lt wi k seed) _
set_option maxRecDepth 100000 in
set_option maxHeartbeats 4000000 in
/-- New, of what may be. -/
theorem lnew_in (wi H : Nat) (hw1 : 1 ≤ wi) (hw32 : wi ≤ 32) (hH : H ≤ 6) (x : Value) (seed : List Nat) (w : World) (hg : GS w) (ht : GT w) (hx : Sl w x seed) (hs : seed.length ≤ 1000000000) :
    Calls Tryd.prog 11 #[.int .i64 wi, .int .i64 H, x] w fun e w' => ∃ kb base tb yo yc, e = .returned (.tuple #[.pointer (some ⟨kb, 0, none⟩), .int .i64 0]) ∧ KyAt w' kb base tb wi H (.slice yo seed.length yc) seed (lvs wi seed (2 ^ H)) ∧ Fr (fun _ => False) w w' := by
  obtain ⟨xo, xc, rfl⟩ := hx.form
  have hmay := fun w' => lmay_any wi H w'
  rw [decide_eq_true (by omega)] at hmay
  have hcl := clone_sl _ seed w hx hs
  have hN64 : 2 ^ H ≤ 64 := Nat.pow_le_pow_right (n := 2) (by decide) hH
  have hps9 : 16 * wi * wi ≤ 16384 := Nat.mul_le_mul (show 16 * wi ≤ 512 by omega) hw32
  have hlen := fun kb w' (c1 : w'.cell? ⟨kb, 1, none⟩ = some (.int .i64 (H : Int))) => lkeylen_any kb H hH w' c1
  have hNG : 6 ≤ w.heap.size := ht.2
  have hsb := hx.b
  generalize hSN : seed.length = SN at *
  generalize 2 ^ H = N at *
  have HC := hide (And.intro hmay (And.intro hcl (And.intro hlen (And.intro hg (And.intro ht (And.intro hNG (And.intro hs hsb)))))))
  clear hmay hcl hlen hg ht hx hNG hs hsb
  go_enter Tryd.func11, Tryd.ntmps11
  go_wp2_with fail
  refine ((unhide HC).1 _).mono ?_
  rintro e w0 ⟨rfl, rfl⟩
  go_wp2_with fail
  refine (unhide HC).2.1.mono ?_
  rintro e w1 ⟨yo, yc, rfl, hO1⟩
  have H1 := hide hO1
  clear hO1
  go_wp2_with fail
  refine (mnew_any _ _).mono ?_
  rintro e w2 ⟨rfl, hT, hF2⟩
  obtain ⟨W, hW⟩ : ∃ W, w2.alloc (.cells #[.int .i64 (wi : Int), .int .i64 (H : Int), .slice yo SN yc, .pointer (some ⟨w1.heap.size, 0, none⟩)] 57) = W := ⟨_, rfl⟩
  have hF3 : Fr (fun _ => False) w2 W := by rw [← hW]; exact (Fr.refl _ _).alloc _
  have hcc : ∀ j, W.cell? ⟨w2.heap.size, j, none⟩ = (#[.int .i64 (wi : Int), .int .i64 (H : Int), .slice yo SN yc, .pointer (some ⟨w1.heap.size, 0, none⟩)] : Array Value)[j]? := fun j => by rw [← hW]; exact World.cell?_alloc_at _ _ _ _ rfl
  have hFW : Fr (fun _ => False) w0 W := (unhide H1).fr.trans (hF2.trans hF3 (fun _ _ h => h)) (fun _ _ h => h)
  have hKy : KyAt W w2.heap.size w1.heap.size w1.heap.size wi H (.slice yo SN yc) seed [] := by
    obtain ⟨_, _, _, _, htl⟩ := hT.cells
    have hF23 := hF2.trans hF3 (fun _ _ h => h)
    have hsl := (unhide H1).sl (unhide HC).2.2.2.2.2.2.2
    have hlt := (unhide H1).lt
    rw [hSN] at hsl hlt
    refine ⟨hcc 0, hcc 1, hcc 2, hcc 3, hsl.fr0 hF23, .inr (fun g o n c e => hlt g o n c e), Nat.le_trans (unhide HC).2.2.2.2.2.1 (unhide H1).fr.size, ⟨none, 0, [], [], hT.fr hF3 (fun _ _ h => h), rows_nil wi, fun hk => ?_⟩, (unhide HC).2.2.2.1.fr0 hFW, (unhide HC).2.2.2.2.1.fr0 hFW, fun p hp => (by cases hp), fun p hp => (by cases hp)⟩
    rcases hk with h | ⟨o, h⟩ | ⟨v, h, _⟩
    · omega
    · cases h
    · cases h
  have hbt : w0.heap.size ≤ w1.heap.size := (unhide H1).fr.size
  have d1 := hcc 1
  have HW := hide (And.intro hKy hFW)
  clear hT hF2 hF3 hcc hKy hFW
  go_wp2_with fail
  try rw [hW]
  generalize w2.heap.size = kb at *
  generalize w1.heap.size = tb at *
  refine ((unhide HC).2.2.1 kb W d1).mono ?_
  rintro e w3 ⟨rfl, rfl⟩
  go_wp2_with fail
  clear d1 hW
  go_loopw [24] (fun iv wr => ∃ k : Nat, k ≤ N ∧ iv = .int .i64 (k : Nat) ∧ KyAt wr kb tb tb wi H (.slice yo SN yc) seed (lvs wi seed k) ∧ Fr (fun _ => False) w0 wr) (fun iv _ => N - (intOf iv).toNat)
  case atStart => exact ⟨0, Nat.zero_le _, rfl, (unhide HW).1, (unhide HW).2⟩
  case round =>
    obtain ⟨k, hk, rfl, hI, hF⟩ := hrel
    by_cases hlt : k < N
    · have hlt' : (k : Int) < (N : Int) := by omega
      have hs9 := (unhide HC).2.2.2.2.2.2.1
      have hlk := fun w' (hf : Fr (fun _ => False) wr w') => llocks_any kb wi k _ seed w' (hI.fr0 hf).c0 (hI.fr0 hf).c2 (hI.fr0 hf).sl
      have hen := fun w' bk bi (hf : Fr (fun _ => False) wr w') (h : LkAt w' bk bi kb wi k (.slice yo SN yc) seed) => lentry_any wi _ hw1 hw32 _ _ w' (h.f (hI.gs.fr0 hf) hw1 hw32 (by omega) (by omega))
      have hel := eN_len wi hw1 hw32 seed k
      have heb := eN_lt wi seed k
      have hls := lvs_succ wi seed k
      have hll := lvs_len wi seed k
      have had := fun w' y (hf : Fr (fun _ => False) wr w') (h : Sl w' y (eN wi seed k)) => (hI.fr0 hf).add hw1 hw32 (by omega) y _ h (by omega)
      rw [← hls, hll] at had
      have e0 : ent (lk wi k seed) (8 * wi) = eN wi seed k := rfl
      rw [e0] at hen
      have hc3 := fun w' (hf : Fr (fun _ => False) wr w') => (hI.fr0 hf).c3
      generalize hEN : eN wi seed k = EN at *
      generalize hPS : 16 * wi * wi = PS at *
      have HI := hide (And.intro hlk (And.intro hen (And.intro had (And.intro hc3 (And.intro hel (And.intro heb hF))))))
      clear hlk hen had hc3 hel heb hF hI hls hll e0 hEN hPS
      have T1 : True := trivial
      go_wp2_with fail
      go_region_held3 (fun w' => w'.cell? ⟨kb, 3, none⟩ = some (.pointer (some ⟨tb, 0, none⟩)))
        (first | assumption | exact (unhide HI).2.2.2.1 _ (Fr.refl _ _).drew | exact kC.c3 | exact (unhide HI).2.2.2.1 _ fB | exact (unhide HI).2.2.2.1 _ fA)
        (first
          | (go_at_call 39; clear T1; refine ((unhide HI).1 _ (Fr.refl _ _).drew).mono ?_; rintro e wA ⟨bk, bi, rfl, hA, gA⟩; have fA : Fr (fun _ => False) wr wA := (Fr.refl _ _).drew.trans gA (fun _ _ h => h))
          | (go_at_call 38; refine ((unhide HI).2.1 _ _ _ fA hA).mono ?_; rintro e wB ⟨eo, ec, rfl, hB⟩; have fB : Fr (fun _ => False) wr wB := fA.trans hB.fr (fun _ _ h => h); have sB := (unhide HI).2.2.2.2.1 ▸ hB.sl (unhide HI).2.2.2.2.2.1)
          | (go_at_call 37; refine ((unhide HI).2.2.1 _ _ fB sB).mono ?_; rintro e wC ⟨rfl, kC, gC⟩))
      have hFC := ((unhide HI).2.2.2.2.2.2.trans fB (fun _ _ h => h)).trans gC (fun j hj hb => by omega)
      have H5 := hide (And.intro kC hFC)
      clear fA fB gA gC kC hFC hA hB sB
      go_wp2_with fail
      exact ⟨⟨k + 1, by omega, by go_num, (unhide H5).1, (unhide H5).2⟩, by simp [intOf]; omega⟩
    · have hlt' : ¬ (k : Int) < (N : Int) := by omega
      have hkN : k = N := by omega
      subst hkN
      have H5 := hide (And.intro hI hF)
      clear hI hF
      go_wp2_with fail
      refine bodyPost_ret (v := .tuple #[.pointer (some ⟨kb, 0, none⟩), .int .i64 0]) (by simp [results, Tryd.results11, go_sem]) rfl ?_
      first | exact ⟨kb, rfl, ⟨tb, tb, yo, yc, (unhide H5).1⟩, (unhide H5).2⟩ | exact ⟨kb, tb, tb, yo, yc, rfl, (unhide H5).1, (unhide H5).2⟩
end Go.Proofs.YtjokmlnghpnlbaaDoor

namespace Go.Proofs.YtjokmlnghpnlbaaDoor
open Go.RowKit

set_option maxRecDepth 100000 in
set_option maxHeartbeats 4000000 in
/-- Keys.Public. -/
theorem lpublic_any (wi H kb base tb : Nat) (hw1 : 1 ≤ wi) (hw32 : wi ≤ 32) (hH : H ≤ 6) (x : Value) (seed : List Nat) (L : List (List Nat)) (w : World) (h : KyAt w kb base tb wi H x seed L) (hL : L.length = 2 ^ H) :
    Calls Tryd.prog 15 #[.pointer (some ⟨kb, 0, none⟩)] w fun e w' => ∃ yo yc, e = .returned (.slice yo wi yc) ∧ OB w w' yo yc (mth wi L) := by
  have hN64 : 2 ^ H ≤ 64 := Nat.pow_le_pow_right (n := 2) (by decide) hH
  have hlen := fun w' (hf : Fr (fun _ => False) w w') => lkeylen_any kb H hH w' (h.fr0 hf).c1
  have hrt := fun w' (hf : Fr (fun _ => False) w w') => troot_in tb wi hw1 hw32 L L.length w' ((h.fr0 hf).tk (by omega)) (Nat.le_refl _)
  have hbl : blk L 0 L.length = L := by simp [blk]
  rw [hbl, hL] at hrt
  have hc3 := fun w' (hf : Fr (fun _ => False) w w') => (h.fr0 hf).c3
  generalize 2 ^ H = N at *
  generalize mth wi L = M at *
  have HC := hide (And.intro hlen (And.intro hrt hc3))
  clear hlen hrt hc3 h hL hbl
  have T1 : True := trivial
  go_enter Tryd.func15, Tryd.ntmps15
  go_wp2_with fail
  go_region_held3 (fun w' => w'.cell? ⟨kb, 3, none⟩ = some (.pointer (some ⟨tb, 0, none⟩)))
    (first | assumption | exact (unhide HC).2.2 _ (Fr.refl _ _).drew | exact (unhide HC).2.2 _ fB | exact (unhide HC).2.2 _ fA)
    (first
      | (go_at_call 12; clear T1; refine ((unhide HC).1 _ (Fr.refl _ _).drew).mono ?_; rintro e wA ⟨rfl, rfl⟩; have fA : Fr (fun _ => False) w w.drew := (Fr.refl _ _).drew)
      | (go_at_call 44; refine ((unhide HC).2.1 _ fA).mono ?_; rintro e wB ⟨yo, yc, rfl, oB⟩; have fB : Fr (fun _ => False) w wB := fA.trans oB.fr (fun _ _ h => h)))
  have H5 := hide (oB.base fA)
  clear fA fB oB
  go_wp2_with fail
  go_ret
  exact ⟨yo, yc, rfl, unhide H5⟩
end Go.Proofs.YtjokmlnghpnlbaaDoor

namespace Go.Proofs.YtjokmlnghpnlbaaDoor
open Go.RowKit

set_option maxRecDepth 100000 in
set_option maxHeartbeats 4000000 in
/-- Keys.Leaf, of a key. -/
theorem lleaf_in (wi H kb base tb K : Nat) (hw1 : 1 ≤ wi) (hw32 : wi ≤ 32) (hH : H ≤ 6) (hK : K < 2 ^ H) (yo : Option Addr) (SN yc : Nat) (seed : List Nat) (L : List (List Nat)) (w : World) (h : KyAt w kb base tb wi H (.slice yo SN yc) seed L) (hs : seed.length ≤ 1000000000) :
    Calls Tryd.prog 13 #[.pointer (some ⟨kb, 0, none⟩), .int .i64 K] w fun e w' => ∃ zo, e = .returned (.tuple #[.slice zo wi wi, .int .i64 0]) ∧ OB w w' zo wi (lf wi (eN wi seed K)) := by
  have hN64 : 2 ^ H ≤ 64 := Nat.pow_le_pow_right (n := 2) (by decide) hH
  have hps9 : 16 * wi * wi ≤ 16384 := Nat.mul_le_mul (show 16 * wi ≤ 512 by omega) hw32
  have hik := fun w' => liskey_any H hH K w'
  rw [decide_eq_true (by omega)] at hik
  have hlk := fun w' (hf : Fr (fun _ => False) w w') => llocks_any kb wi K _ seed w' (h.fr0 hf).c0 (h.fr0 hf).c2 (h.fr0 hf).sl
  have hen := fun w' bk bi (hf : Fr (fun _ => False) w w') (hl : LkAt w' bk bi kb wi K (.slice yo SN yc) seed) => lentry_any wi _ hw1 hw32 _ _ w' (hl.f (h.gs.fr0 hf) hw1 hw32 (by omega) (by omega))
  have hel := eN_len wi hw1 hw32 seed K
  have heb := eN_lt wi seed K
  have e0 : ent (lk wi K seed) (8 * wi) = eN wi seed K := rfl
  rw [e0] at hen
  have hlf := fun w' x (hf : Fr (fun _ => False) w w') (hx : Sl w' x (eN wi seed K)) => leaf_any wi x _ w' (h.gs.fr0 hf) hx (by omega)
  rw [lf_len5 wi hw1 hw32] at hlf
  have hcc := fun w' (hf : Fr (fun _ => False) w w') => And.intro (h.fr0 hf).c0 (h.fr0 hf).c1
  have c0 := h.c0
  have c1 := h.c1
  generalize eN wi seed K = EN at *
  generalize 16 * wi * wi = PS at *
  have HC := hide (And.intro hik (And.intro hlk (And.intro hen (And.intro hlf (And.intro hcc (And.intro hel heb))))))
  clear hik hlk hen hlf hcc hel heb h e0 hK
  have T1 : True := trivial
  go_enter Tryd.func13, Tryd.ntmps13
  go_wp2_with fail
  refine ((unhide HC).1 _).mono ?_
  rintro e w0 ⟨rfl, rfl⟩
  go_wp2_with fail
  go_region_held3 (fun w' => w'.cell? ⟨kb, 0, none⟩ = some (.int .i64 (wi : Int)) ∧ w'.cell? ⟨kb, 1, none⟩ = some (.int .i64 (H : Int)))
    (first | assumption | exact (unhide HC).2.2.2.2.1 _ (Fr.refl _ _).drew | exact (unhide HC).2.2.2.2.1 _ fC | exact (unhide HC).2.2.2.2.1 _ fB | exact (unhide HC).2.2.2.2.1 _ fA)
    (first
      | (go_at_call 39; clear T1; refine ((unhide HC).2.1 _ (Fr.refl _ _).drew).mono ?_; rintro e wA ⟨bk, bi, rfl, hA, gA⟩; have fA : Fr (fun _ => False) w0 wA := (Fr.refl _ _).drew.trans gA (fun _ _ h => h))
      | (go_at_call 38; refine ((unhide HC).2.2.1 _ _ _ fA hA).mono ?_; rintro e wB ⟨eo, ec, rfl, hB⟩; have fB : Fr (fun _ => False) w0 wB := fA.trans hB.fr (fun _ _ h => h); have sB := (unhide HC).2.2.2.2.2.1 ▸ hB.sl (unhide HC).2.2.2.2.2.2)
      | (go_at_call 41; refine ((unhide HC).2.2.2.1 _ _ fB sB).mono ?_; rintro e wC ⟨zo, rfl, hC⟩; have fC : Fr (fun _ => False) w0 wC := fB.trans hC.fr (fun _ _ h => h)))
  have H5 := hide (hC.base fB)
  clear fA fB fC gA hA hB hC sB
  go_wp2_with fail
  refine bodyPost_ret (v := .tuple #[.slice zo wi wi, .int .i64 0]) (by simp [results, Tryd.results13, go_sem]) rfl ?_
  exact ⟨zo, rfl, unhide H5⟩
set_option maxRecDepth 100000 in
/-- Keys.Leaf, of what is no key. -/
theorem lleaf_no (H kb : Nat) (hH : H ≤ 6) (K : Int) (hK : ¬ (0 ≤ K ∧ K < ((2 ^ H : Nat) : Int))) (w : World) (c1 : w.cell? ⟨kb, 1, none⟩ = some (.int .i64 (H : Int))) :
    Calls Tryd.prog 13 #[.pointer (some ⟨kb, 0, none⟩), .int .i64 K] w fun e w' => e = .returned (.tuple #[.slice none 0 0, .int .i64 1]) ∧ w' = w := by
  have hik := liskey_any H hH K w
  rw [decide_eq_false hK] at hik
  have HC := hide hik
  clear hik hK
  go_enter Tryd.func13, Tryd.ntmps13
  go_wp2_with fail
  refine (unhide HC).mono ?_
  rintro e w0 ⟨rfl, rfl⟩
  go_wp2_with fail
  refine bodyPost_ret (v := .tuple #[.slice none 0 0, .int .i64 1]) (by simp [results, Tryd.results13, go_sem]) rfl ?_
  exact ⟨rfl, rfl⟩
end Go.Proofs.YtjokmlnghpnlbaaDoor

namespace Go.Proofs.YtjokmlnghpnlbaaDoor
open Go.RowKit

theorem OL.stepW {w wr w1 : World} {ao : Option Addr} {cp : Nat} {vs : List Value} {ps : List (List Nat)} (h : OL w wr ao cp vs ps) (l : List Nat) (wi : Nat) (hl : l.length = wi) (yo : Option Addr) (yc : Nat) (hO : OB wr w1 yo yc l) (hb : ∀ v ∈ l, v < 256) (hn : vs.length < 16000000) :
    ∃ ao' cp' w2, (Builtin.append_ #[40, 40] 40 #[.slice ao vs.length cp, .slice (some ⟨w1.heap.size, 0, none⟩) 1 1]).run Tryd.prog (w1.alloc (.cells #[.slice yo wi yc] 24)) = .ok (.slice ao' (vs.length + 1) cp') w2 ∧ OL w w2 ao' cp' (vs ++ [.slice yo wi yc]) (ps ++ [l]) := by
  subst hl
  exact h.step l yo yc hO hb hn
theorem boxAB (w : World) (a0 a1 a2 b0 b1 : Value) (ta tb : Nat) (W : World) (hW : (w.alloc (.cells #[a0, a1, a2] ta)).alloc (.cells #[b0, b1] tb) = W) :
    W.cell? ⟨w.heap.size + 1, 0, none⟩ = some b0 ∧ W.cell? ⟨w.heap.size + 1, 1, none⟩ = some b1 ∧ Fr (fun _ => False) w W := by
  subst hW
  have e1 : w.heap.size + 1 = (w.alloc (.cells #[a0, a1, a2] ta)).heap.size := by simp
  have B : ∀ j : Nat, ((w.alloc (.cells #[a0, a1, a2] ta)).alloc (.cells #[b0, b1] tb)).cell? ⟨w.heap.size + 1, j, none⟩ = (#[b0, b1] : Array Value)[j]? := fun j => by
    rw [e1, World.cell?_alloc_at _ _ _ _ rfl]
  exact ⟨B 0, B 1, ((Fr.refl _ _).alloc _).alloc _⟩
def BesSays (tb wi : Nat) (L : List (List Nat)) (f n tf tn : Nat) (w : World) : Prop :=
  Calls Tryd.prog 71 #[pv (.pointer (some ⟨tb, 0, none⟩)) f n, sv tf tn] w fun e w' => ∃ ao cp vs, e = .returned (.slice ao vs.length cp) ∧ OL w w' ao cp vs (bes wi L f n tf tn)
set_option maxRecDepth 100000 in
set_option maxHeartbeats 2000000 in
/-- The halves left aside on the way to a part. -/
theorem beside_any (tb wi : Nat) (hw1 : 1 ≤ wi) (hw32 : wi ≤ 32) (L : List (List Nat)) (m : Nat) : ∀ (f n tf tn : Nat) (w : World), n ≤ m → Tk w tb wi L → Al f n → f + n ≤ L.length → Rch f n tf tn → BesSays tb wi L f n tf tn w := by
  induction m with
  | zero =>
    intro f n tf tn w hm hT hA hL hr
    by_cases e : f = tf ∧ n = tn
    · obtain ⟨rfl, rfl⟩ := e
      unfold BesSays sv pv
      rw [bes_eq]
      have eqs := fun w => eq_span f n f n w
      simp only [decide_true, and_self] at eqs
      have eg := Tryd.guard_span
      go_enter Tryd.func71, Tryd.ntmps71
      go_wp2_with fail
      go_ret
      exact ⟨none, 0, [], rfl, (OL.nil _).base (((Fr.refl _ _).alloc _).alloc _)⟩
    · have := (rch_ne hr e).1; omega
  | succ m ih =>
    intro f n tf tn w hm hT hA hL hr
    by_cases e : f = tf ∧ n = tn
    · obtain ⟨rfl, rfl⟩ := e
      unfold BesSays sv pv
      rw [bes_eq]
      have eqs := fun w => eq_span f n f n w
      simp only [decide_true, and_self] at eqs
      have eg := Tryd.guard_span
      go_enter Tryd.func71, Tryd.ntmps71
      go_wp2_with fail
      go_ret
      exact ⟨none, 0, [], rfl, (OL.nil _).base (((Fr.refl _ _).alloc _).alloc _)⟩
    · obtain ⟨h2, r1, r2⟩ := rch_ne hr e
      have hlt := hf_lt n h2
      have hp := hf_pos n
      obtain ⟨hA1, hA2⟩ := hA.halves h2
      have hle := hT.len
      have eqs := fun w => eq_span f n tf tn w
      rw [decide_eq_false e] at eqs
      have eg := Tryd.guard_span
      have hpt := fun w => parts_any (some ⟨tb, 0, none⟩) f n w (by omega) h2
      have hbf := fun w => before_any tf tn (f + hf n) (n - hf n) w
      clear hle
      by_cases hl : tf < f + hf n
      · rw [decide_eq_true hl] at hbf
        have hrec := fun w' (hf' : Fr (fun _ => False) w w') => ih f (hf n) tf tn w' (by omega) (hT.fr0 hf') hA1 (by omega) (r1 hl)
        have hroot := fun w' (hf' : Fr (fun _ => False) w w') => root_any tb wi hw1 hw32 L _ (f + hf n) (n - hf n) w' (Nat.le_refl _) (hT.fr0 hf') hA2 (by omega)
        have hMw := hT.mw hw1 hw32 (f + hf n) (n - hf n)
        have hMb := hT.mb (f + hf n) (n - hf n)
        have hdl := dep_le _ f (hf n) tf tn (Nat.le_refl _)
        rw [← bes_len wi L _ f (hf n) tf tn (Nat.le_refl _)] at hdl
        unfold BesSays RootSays at *
        rw [bes_l h2 e hl]
        generalize bes wi L f (hf n) tf tn = BS at *
        generalize mth wi (blk L (f + hf n) (n - hf n)) = M at *
        have hbl : BS.length < 16000000 := by have := hT.len; omega
        clear hdl
        generalize f + hf n = F2 at *
        generalize n - hf n = N2 at *
        generalize hf n = K at *
        have HC := hide (And.intro hpt (And.intro hbf (And.intro hrec (And.intro hroot (And.intro hMw (And.intro hMb hbl))))))
        clear hpt hbf hrec hroot r1 r2 hr ih hlt hp hl hm h2 e hT hA1 hA2 hMw hMb hbl hL
        unfold sv pv at *
        go_enter Tryd.func71, Tryd.ntmps71
        go_wp2_with fail
        obtain ⟨W0, hW0⟩ : ∃ W0, (w.alloc (.cells #[.pointer (some ⟨tb, 0, none⟩), .int .i64 f, .int .i64 n] 94)).alloc (.cells #[.int .i64 tf, .int .i64 tn] 92) = W0 := ⟨_, rfl⟩
        rw [hW0]
        obtain ⟨b0, b1, hF0⟩ := boxAB w _ _ _ _ _ _ _ W0 hW0
        refine ((unhide HC).1 _).mono ?_
        rintro e' wA ⟨rfl, hFA⟩
        have c0 := (hFA.cell (lt_of_cell b0) (fun h => h)).trans b0
        have c1 := (hFA.cell (lt_of_cell b1) (fun h => h)).trans b1
        have HF := hide (hF0.trans hFA (fun _ _ h => h))
        clear hFA hF0 b0 b1 hW0
        generalize w.heap.size + 1 = PB at *
        have l0 : PB < wA.heap.size := lt_of_cell c0
        have l1 : PB < wA.heap.size + 1 := Nat.lt_succ_of_lt l0
        go_wp2_with fail
        obtain ⟨W1, hW1⟩ : ∃ W1, (wA.alloc (.cells #[.pointer (some ⟨tb, 0, none⟩), .int .i64 f, .int .i64 K] 94)).alloc (.cells #[.pointer (some ⟨tb, 0, none⟩), .int .i64 F2, .int .i64 N2] 94) = W1 := ⟨_, rfl⟩
        rw [hW1]
        obtain ⟨x0, x1, x2, y0, y1, y2, hF1⟩ := two3 wA _ _ _ _ _ _ _ W1 hW1
        refine ((unhide HC).2.1 _).mono ?_
        rintro e' wB ⟨rfl, hFB⟩
        have hF1B := hF1.trans hFB (fun _ _ h => h)
        have d0 := (hF1B.cell (lt_of_cell c0) (fun h => h)).trans c0
        have d1 := (hF1B.cell (lt_of_cell c1) (fun h => h)).trans c1
        have u0 := (hFB.cell (lt_of_cell x0) (fun h => h)).trans x0
        have u1 := (hFB.cell (lt_of_cell x1) (fun h => h)).trans x1
        have u2 := (hFB.cell (lt_of_cell x2) (fun h => h)).trans x2
        have v0 := (hFB.cell (lt_of_cell y0) (fun h => h)).trans y0
        have v1 := (hFB.cell (lt_of_cell y1) (fun h => h)).trans y1
        have v2 := (hFB.cell (lt_of_cell y2) (fun h => h)).trans y2
        have HF2 := hide ((unhide HF).trans hF1B (fun _ _ h => h))
        clear hF1 hFB hF1B hW1 x0 x1 x2 y0 y1 y2 c0 c1 HF l0 l1
        generalize wA.heap.size = Z at *
        have hS : ∀ w', Fr (fun _ => False) wB w' → w'.cell? ⟨Z, 0, none⟩ = some (.pointer (some ⟨tb, 0, none⟩)) ∧ w'.cell? ⟨Z, 1, none⟩ = some (.int .i64 f) ∧ w'.cell? ⟨Z, 2, none⟩ = some (.int .i64 K) ∧ w'.cell? ⟨Z + 1, 0, none⟩ = some (.pointer (some ⟨tb, 0, none⟩)) ∧ w'.cell? ⟨Z + 1, 1, none⟩ = some (.int .i64 F2) ∧ w'.cell? ⟨Z + 1, 2, none⟩ = some (.int .i64 N2) ∧ w'.cell? ⟨PB, 0, none⟩ = some (.int .i64 tf) ∧ w'.cell? ⟨PB, 1, none⟩ = some (.int .i64 tn) := fun w' hf =>
          ⟨(hf.cell (lt_of_cell u0) (fun h => h)).trans u0, (hf.cell (lt_of_cell u1) (fun h => h)).trans u1, (hf.cell (lt_of_cell u2) (fun h => h)).trans u2, (hf.cell (lt_of_cell v0) (fun h => h)).trans v0, (hf.cell (lt_of_cell v1) (fun h => h)).trans v1, (hf.cell (lt_of_cell v2) (fun h => h)).trans v2, (hf.cell (lt_of_cell d0) (fun h => h)).trans d0, (hf.cell (lt_of_cell d1) (fun h => h)).trans d1⟩
        have HS := hide hS
        clear hS
        go_wp2_with fail
        go_region_held3 (fun w' => w'.cell? ⟨Z, 0, none⟩ = some (.pointer (some ⟨tb, 0, none⟩)) ∧ w'.cell? ⟨Z, 1, none⟩ = some (.int .i64 f) ∧ w'.cell? ⟨Z, 2, none⟩ = some (.int .i64 K) ∧ w'.cell? ⟨Z + 1, 0, none⟩ = some (.pointer (some ⟨tb, 0, none⟩)) ∧ w'.cell? ⟨Z + 1, 1, none⟩ = some (.int .i64 F2) ∧ w'.cell? ⟨Z + 1, 2, none⟩ = some (.int .i64 N2) ∧ w'.cell? ⟨PB, 0, none⟩ = some (.int .i64 tf) ∧ w'.cell? ⟨PB, 1, none⟩ = some (.int .i64 tn))
          (first | assumption | exact (unhide HS) _ (Fr.refl _ _).drew | exact (unhide HS) _ fE | exact (unhide HS) _ (fD.alloc _) | exact (unhide HS) _ fD | exact (unhide HS) _ fC)
          (first
            | (go_at_call 71; refine ((unhide HC).2.2.1 _ (by exact (unhide HF2).drew)).mono ?_; rintro e wC ⟨ao, cp, us, rfl, oC⟩; have fC : Fr (fun _ => False) wB wC := (Fr.refl _ _).drew.trans oC.own.fr (fun _ _ h => h))
            | (go_at_call 73; refine ((unhide HC).2.2.2.1 _ (by exact (unhide HF2).trans fC (fun _ _ h => h))).mono ?_; rintro e wD ⟨yo, yc, rfl, oD⟩; have fD : Fr (fun _ => False) wB wD := fC.trans oD.fr (fun _ _ h => h))
            | (obtain ⟨ao2, cp2, wE, hr2, hO2⟩ := oC.stepW M wi (unhide HC).2.2.2.2.1 yo yc oD (unhide HC).2.2.2.2.2.1 (by rw [oC.len]; exact (unhide HC).2.2.2.2.2.2); have fE : Fr (fun _ => False) wB wE := (Fr.refl _ _).drew.trans hO2.own.fr (fun _ _ h => h); refine step_app rfl (.tmp 22) (.tmp 25) 40 40 rfl _ _ _ (by simp [Act.eval]) (by simp [Act.eval]) hr2 ?_))
        have HE := hide (hO2.base ((unhide HF2).drew))
        clear oC oD hO2 hr2 fC fD fE
        go_wp2_with fail
        go_ret
        exact ⟨ao2, cp2, _, by rw [List.length_append]; rfl, unhide HE⟩
      · rw [decide_eq_false hl] at hbf
        have hrec := fun w' (hf' : Fr (fun _ => False) w w') => ih (f + hf n) (n - hf n) tf tn w' (by omega) (hT.fr0 hf') hA2 (by omega) (r2 hl)
        have hroot := fun w' (hf' : Fr (fun _ => False) w w') => root_any tb wi hw1 hw32 L _ f (hf n) w' (Nat.le_refl _) (hT.fr0 hf') hA1 (by omega)
        have hMw := hT.mw hw1 hw32 f (hf n)
        have hMb := hT.mb f (hf n)
        have hdl := dep_le _ (f + hf n) (n - hf n) tf tn (Nat.le_refl _)
        rw [← bes_len wi L _ (f + hf n) (n - hf n) tf tn (Nat.le_refl _)] at hdl
        unfold BesSays RootSays at *
        rw [bes_r h2 e hl]
        generalize bes wi L (f + hf n) (n - hf n) tf tn = BS at *
        generalize mth wi (blk L f (hf n)) = M at *
        have hbl : BS.length < 16000000 := by have := hT.len; omega
        clear hdl
        generalize f + hf n = F2 at *
        generalize n - hf n = N2 at *
        generalize hf n = K at *
        have HC := hide (And.intro hpt (And.intro hbf (And.intro hrec (And.intro hroot (And.intro hMw (And.intro hMb hbl))))))
        clear hpt hbf hrec hroot r1 r2 hr ih hlt hp hl hm h2 e hT hA1 hA2 hMw hMb hbl hL
        unfold sv pv at *
        go_enter Tryd.func71, Tryd.ntmps71
        go_wp2_with fail
        obtain ⟨W0, hW0⟩ : ∃ W0, (w.alloc (.cells #[.pointer (some ⟨tb, 0, none⟩), .int .i64 f, .int .i64 n] 94)).alloc (.cells #[.int .i64 tf, .int .i64 tn] 92) = W0 := ⟨_, rfl⟩
        rw [hW0]
        obtain ⟨b0, b1, hF0⟩ := boxAB w _ _ _ _ _ _ _ W0 hW0
        refine ((unhide HC).1 _).mono ?_
        rintro e' wA ⟨rfl, hFA⟩
        have c0 := (hFA.cell (lt_of_cell b0) (fun h => h)).trans b0
        have c1 := (hFA.cell (lt_of_cell b1) (fun h => h)).trans b1
        have HF := hide (hF0.trans hFA (fun _ _ h => h))
        clear hFA hF0 b0 b1 hW0
        generalize w.heap.size + 1 = PB at *
        have l0 : PB < wA.heap.size := lt_of_cell c0
        have l1 : PB < wA.heap.size + 1 := Nat.lt_succ_of_lt l0
        go_wp2_with fail
        obtain ⟨W1, hW1⟩ : ∃ W1, (wA.alloc (.cells #[.pointer (some ⟨tb, 0, none⟩), .int .i64 f, .int .i64 K] 94)).alloc (.cells #[.pointer (some ⟨tb, 0, none⟩), .int .i64 F2, .int .i64 N2] 94) = W1 := ⟨_, rfl⟩
        rw [hW1]
        obtain ⟨x0, x1, x2, y0, y1, y2, hF1⟩ := two3 wA _ _ _ _ _ _ _ W1 hW1
        refine ((unhide HC).2.1 _).mono ?_
        rintro e' wB ⟨rfl, hFB⟩
        have hF1B := hF1.trans hFB (fun _ _ h => h)
        have d0 := (hF1B.cell (lt_of_cell c0) (fun h => h)).trans c0
        have d1 := (hF1B.cell (lt_of_cell c1) (fun h => h)).trans c1
        have u0 := (hFB.cell (lt_of_cell x0) (fun h => h)).trans x0
        have u1 := (hFB.cell (lt_of_cell x1) (fun h => h)).trans x1
        have u2 := (hFB.cell (lt_of_cell x2) (fun h => h)).trans x2
        have v0 := (hFB.cell (lt_of_cell y0) (fun h => h)).trans y0
        have v1 := (hFB.cell (lt_of_cell y1) (fun h => h)).trans y1
        have v2 := (hFB.cell (lt_of_cell y2) (fun h => h)).trans y2
        have HF2 := hide ((unhide HF).trans hF1B (fun _ _ h => h))
        clear hF1 hFB hF1B hW1 x0 x1 x2 y0 y1 y2 c0 c1 HF l0 l1
        generalize wA.heap.size = Z at *
        have hS : ∀ w', Fr (fun _ => False) wB w' → w'.cell? ⟨Z + 1, 0, none⟩ = some (.pointer (some ⟨tb, 0, none⟩)) ∧ w'.cell? ⟨Z + 1, 1, none⟩ = some (.int .i64 F2) ∧ w'.cell? ⟨Z + 1, 2, none⟩ = some (.int .i64 N2) ∧ w'.cell? ⟨Z, 0, none⟩ = some (.pointer (some ⟨tb, 0, none⟩)) ∧ w'.cell? ⟨Z, 1, none⟩ = some (.int .i64 f) ∧ w'.cell? ⟨Z, 2, none⟩ = some (.int .i64 K) ∧ w'.cell? ⟨PB, 0, none⟩ = some (.int .i64 tf) ∧ w'.cell? ⟨PB, 1, none⟩ = some (.int .i64 tn) := fun w' hf =>
          ⟨(hf.cell (lt_of_cell v0) (fun h => h)).trans v0, (hf.cell (lt_of_cell v1) (fun h => h)).trans v1, (hf.cell (lt_of_cell v2) (fun h => h)).trans v2, (hf.cell (lt_of_cell u0) (fun h => h)).trans u0, (hf.cell (lt_of_cell u1) (fun h => h)).trans u1, (hf.cell (lt_of_cell u2) (fun h => h)).trans u2, (hf.cell (lt_of_cell d0) (fun h => h)).trans d0, (hf.cell (lt_of_cell d1) (fun h => h)).trans d1⟩
        have HS := hide hS
        clear hS
        go_wp2_with fail
        go_region_held3 (fun w' => w'.cell? ⟨Z + 1, 0, none⟩ = some (.pointer (some ⟨tb, 0, none⟩)) ∧ w'.cell? ⟨Z + 1, 1, none⟩ = some (.int .i64 F2) ∧ w'.cell? ⟨Z + 1, 2, none⟩ = some (.int .i64 N2) ∧ w'.cell? ⟨Z, 0, none⟩ = some (.pointer (some ⟨tb, 0, none⟩)) ∧ w'.cell? ⟨Z, 1, none⟩ = some (.int .i64 f) ∧ w'.cell? ⟨Z, 2, none⟩ = some (.int .i64 K) ∧ w'.cell? ⟨PB, 0, none⟩ = some (.int .i64 tf) ∧ w'.cell? ⟨PB, 1, none⟩ = some (.int .i64 tn))
          (first | assumption | exact (unhide HS) _ (Fr.refl _ _).drew | exact (unhide HS) _ fE | exact (unhide HS) _ (fD.alloc _) | exact (unhide HS) _ fD | exact (unhide HS) _ fC)
          (first
            | (go_at_call 71; refine ((unhide HC).2.2.1 _ (by exact (unhide HF2).drew)).mono ?_; rintro e wC ⟨ao, cp, us, rfl, oC⟩; have fC : Fr (fun _ => False) wB wC := (Fr.refl _ _).drew.trans oC.own.fr (fun _ _ h => h))
            | (go_at_call 73; refine ((unhide HC).2.2.2.1 _ (by exact (unhide HF2).trans fC (fun _ _ h => h))).mono ?_; rintro e wD ⟨yo, yc, rfl, oD⟩; have fD : Fr (fun _ => False) wB wD := fC.trans oD.fr (fun _ _ h => h))
            | (obtain ⟨ao2, cp2, wE, hr2, hO2⟩ := oC.stepW M wi (unhide HC).2.2.2.2.1 yo yc oD (unhide HC).2.2.2.2.2.1 (by rw [oC.len]; exact (unhide HC).2.2.2.2.2.2); have fE : Fr (fun _ => False) wB wE := (Fr.refl _ _).drew.trans hO2.own.fr (fun _ _ h => h); refine step_app rfl (.tmp 29) (.tmp 32) 40 40 rfl _ _ _ (by simp [Act.eval]) (by simp [Act.eval]) hr2 ?_))
        have HE := hide (hO2.base ((unhide HF2).drew))
        clear oC oD hO2 hr2 fC fD fE
        go_wp2_with fail
        go_ret
        exact ⟨ao2, cp2, _, by rw [List.length_append]; rfl, unhide HE⟩
end Go.Proofs.YtjokmlnghpnlbaaDoor

namespace Go.Proofs.YtjokmlnghpnlbaaDoor
open Go.RowKit

set_option maxRecDepth 100000 in
set_option maxHeartbeats 1000000 in
theorem tpath_in (tb wi : Nat) (hw1 : 1 ≤ wi) (hw32 : wi ≤ 32) (L : List (List Nat)) (i n : Nat) (w : World) (hT : Tk w tb wi L) (hn : n ≤ L.length) (hi : i < n) :
    Calls Tryd.prog 42 #[.pointer (some ⟨tb, 0, none⟩), .int .i64 i, .int .i64 n] w fun e w' => ∃ ao cp vs, e = .returned (.tuple #[.slice ao vs.length cp, .int .i64 0]) ∧ OL w w' ao cp vs (bes wi L 0 n i 1) := by
  obtain ⟨c0, c1, htb⟩ := hT.c0
  have hhas : Calls Tryd.prog 69 #[.pointer (some ⟨tb, 0, none⟩), .int .i64 n] w fun e w' => e = .returned (.bool true) ∧ w' = w := by
    have := has_any tb L.length wi n w c0 c1
    rw [decide_eq_true (by omega)] at this
    exact this
  have hbes : ∀ w', Fr (fun _ => False) w w' → BesSays tb wi L 0 n i 1 w' := fun w' hf => beside_any tb wi hw1 hw32 L n 0 n i 1 w' (Nat.le_refl _) (hT.fr0 hf) (al_zero n) (by omega) (rch_one n 0 n i (Nat.le_refl _) (by omega) (by omega))
  unfold BesSays sv at hbes
  have HG := hide (And.intro hhas hbes)
  have q1 : ¬ (i : Int) < 0 := by omega
  have q2 : ¬ (n : Int) ≤ (i : Int) := by omega
  have q3 : ¬ n ≤ i := by omega
  clear hhas hbes hT c0 c1 htb hn
  go_enter Tryd.func42, Tryd.ntmps42
  go_wp2_with fail
  refine (unhide HG).1.mono ?_
  rintro e w0 ⟨rfl, rfl⟩
  go_wp2_with fail
  refine (first_any _ _ _).mono ?_
  rintro e w1 ⟨rfl, hF1⟩
  have H1 := hide hF1
  clear hF1
  go_wp2_with fail
  refine ((unhide HG).2 w1 (unhide H1)).mono ?_
  rintro e w2 ⟨ao, cp, vs, rfl, hO⟩
  have H2 := hide (hO.base (unhide H1))
  clear hO
  go_wp2_with fail
  go_returns
  exact ⟨ao, cp, vs, rfl, unhide H2⟩
set_option maxRecDepth 100000 in
theorem tpath_no (tb n : Nat) (wi i k : Int) (w : World) (c0 : w.cell? ⟨tb, 0, none⟩ = some (.int .i64 wi)) (c1 : w.cell? ⟨tb, 1, none⟩ = some (.int .i64 n)) (h : ¬ (1 ≤ wi ∧ wi ≤ 32 ∧ 0 ≤ k ∧ k ≤ n) ∨ i < 0 ∨ k ≤ i) :
    Calls Tryd.prog 42 #[.pointer (some ⟨tb, 0, none⟩), .int .i64 i, .int .i64 k] w fun e w' => e = .returned (.tuple #[.slice none 0 0, .int .i64 1]) ∧ w' = w := by
  have hhas := has_any tb n wi k w c0 c1
  by_cases hh : 1 ≤ wi ∧ wi ≤ 32 ∧ 0 ≤ k ∧ k ≤ n
  · rw [decide_eq_true hh] at hhas
    have HG := hide hhas
    have h' : i < 0 ∨ k ≤ i := by omega
    clear hhas h c0 c1
    by_cases hi : i < 0
    · clear h' hh
      go_enter Tryd.func42, Tryd.ntmps42
      go_wp2_with fail
      refine (unhide HG).mono ?_
      rintro e w0 ⟨rfl, rfl⟩
      go_wp2_with fail
      go_returns
      exact ⟨rfl, rfl⟩
    · have hk : k ≤ i := by omega
      clear h' hh
      go_enter Tryd.func42, Tryd.ntmps42
      go_wp2_with fail
      refine (unhide HG).mono ?_
      rintro e w0 ⟨rfl, rfl⟩
      go_wp2_with fail
      go_returns
      exact ⟨rfl, rfl⟩
  · rw [decide_eq_false hh] at hhas
    have HG := hide hhas
    clear hhas h hh c0 c1
    go_enter Tryd.func42, Tryd.ntmps42
    go_wp2_with fail
    refine (unhide HG).mono ?_
    rintro e w0 ⟨rfl, rfl⟩
    go_wp2_with fail
    go_returns
    exact ⟨rfl, rfl⟩
end Go.Proofs.YtjokmlnghpnlbaaDoor

namespace Go.Proofs.YtjokmlnghpnlbaaDoor
open Go.RowKit

/-- The pairs of a signature's first n bits. -/
def sgn (wi K : Nat) (seed h : List Nat) : Nat → List Nat
  | 0 => []
  | n + 1 => sgn wi K seed h n ++ sm wi (scm K n (bitv h n) seed) ++ lk wi K seed n (1 - bitv h n)
theorem sgn_len (wi K : Nat) (hw1 : 1 ≤ wi) (hw32 : wi ≤ 32) (seed h : List Nat) (n : Nat) : (sgn wi K seed h n).length = 2 * n * wi := by
  induction n with
  | zero => simp [sgn]
  | succ n ih =>
    rw [sgn, List.length_append, List.length_append, ih, lk_len wi K hw1 hw32, sm_len ⟨by omega, by omega⟩, Int.toNat_natCast, Nat.mul_succ, Nat.add_mul]
    omega
set_option maxRecDepth 100000 in
set_option maxHeartbeats 4000000 in
/-- Keys.Sign, of a key. -/
theorem lsign_in (wi H kb base tb K : Nat) (hw1 : 1 ≤ wi) (hw32 : wi ≤ 32) (hH : H ≤ 6) (hK : K < 2 ^ H) (yo : Option Addr) (SN yc : Nat) (seed : List Nat) (L : List (List Nat)) (w : World) (h : KyAt w kb base tb wi H (.slice yo SN yc) seed L) (hL : L.length = 2 ^ H) (hs : seed.length ≤ 1000000000) (x : Value) (m : List Nat) (hx : Sl w x m) (hm : m.length < 9223372036854775808) (hPB : ∀ p ∈ bes wi L 0 (2 ^ H) K 1, p.length = wi) (hPL : (bes wi L 0 (2 ^ H) K 1).length ≤ 64) :
    Calls Tryd.prog 14 #[.pointer (some ⟨kb, 0, none⟩), .int .i64 K, x] w fun e w' => ∃ zo n zc, e = .returned (.tuple #[.slice zo n zc, .int .i64 0]) ∧ n = (sgn wi K seed (sm wi m) (8 * wi) ++ (bes wi L 0 (2 ^ H) K 1).flatten).length ∧ OB w w' zo zc (sgn wi K seed (sm wi m) (8 * wi) ++ (bes wi L 0 (2 ^ H) K 1).flatten) := by
  obtain ⟨xo, xc, rfl⟩ := hx.form
  have hN64 : 2 ^ H ≤ 64 := Nat.pow_le_pow_right (n := 2) (by decide) hH
  have hlen := fun w' (hf : Fr (fun _ => False) w w') => lkeylen_any kb H hH w' (h.fr0 hf).c1
  have hpath := fun w' (hf : Fr (fun _ => False) w w') => tpath_in tb wi hw1 hw32 L K (2 ^ H) w' ((h.fr0 hf).tk (by omega)) (by omega) hK
  have hbits := fun w' (hf : Fr (fun _ => False) w w') => lbitsOf_in wi hw1 hw32 _ m w' (h.gs.fr0 hf) (hx.fr0 hf) hm
  have hlk := fun w' (hf : Fr (fun _ => False) w w') => llocks_any kb wi K _ seed w' (h.fr0 hf).c0 (h.fr0 hf).c2 (h.fr0 hf).sl
  have hcc : ∀ w', Fr (fun _ => False) w w' → w'.cell? ⟨kb, 0, none⟩ = some (.int .i64 (wi : Int)) ∧ w'.cell? ⟨kb, 1, none⟩ = some (.int .i64 (H : Int)) ∧ w'.cell? ⟨kb, 2, none⟩ = some (.slice yo SN yc) ∧ w'.cell? ⟨kb, 3, none⟩ = some (.pointer (some ⟨tb, 0, none⟩)) := fun w' hf => ⟨(h.fr0 hf).c0, (h.fr0 hf).c1, (h.fr0 hf).c2, (h.fr0 hf).c3⟩
  have hsz := fun w' => lsize_any wi H w'
  rw [szF_nat wi H hw1 hw32 hH] at hsz
  have hps9 : 16 * wi * wi ≤ 16384 := Nat.mul_le_mul (show 16 * wi ≤ 512 by omega) hw32
  have hhw9 : H * wi ≤ 192 := Nat.mul_le_mul hH hw32
  have hsz9 : 16 * wi * wi + H * wi ≤ 16777216 := by omega
  generalize hSZ : 16 * wi * wi + H * wi = SZ at *
  have hbc := fun w' => lbits_any wi hw32 w'
  generalize bes wi L 0 (2 ^ H) K 1 = PT at *
  generalize hN : 2 ^ H = N at *
  generalize m.length = ML at *
  have HC := hide (And.intro hlen (And.intro hpath (And.intro hbits (And.intro hlk (And.intro hcc (And.intro hsz hbc))))))
  clear hlen hpath hbits hlk hcc hsz hbc
  have HK := hide (And.intro h (And.intro hx hs))
  have HPB := hide (And.intro hPB hPL)
  clear h hx hPB hPL
  have T1 : True := trivial
  go_enter Tryd.func14, Tryd.ntmps14
  go_wp2_with fail
  go_region_held3 (fun w' => w'.cell? ⟨kb, 0, none⟩ = some (.int .i64 (wi : Int)) ∧ w'.cell? ⟨kb, 1, none⟩ = some (.int .i64 (H : Int)) ∧ w'.cell? ⟨kb, 2, none⟩ = some (.slice yo SN yc) ∧ w'.cell? ⟨kb, 3, none⟩ = some (.pointer (some ⟨tb, 0, none⟩)))
    (first | assumption | exact (unhide HC).2.2.2.2.1 _ (Fr.refl _ _).drew | exact (unhide HC).2.2.2.2.1 _ fB | exact (unhide HC).2.2.2.2.1 _ fA)
    (first
      | (go_at_call 12; clear T1; refine ((unhide HC).1 _ (Fr.refl _ _).drew).mono ?_; rintro e wA ⟨rfl, rfl⟩; have fA : Fr (fun _ => False) w w.drew := (Fr.refl _ _).drew)
      | (go_at_call 42; refine ((unhide HC).2.1 _ fA).mono ?_; rintro e wB ⟨ao, cp, vs, rfl, oB⟩; have fB : Fr (fun _ => False) w wB := fA.trans oB.own.fr (fun _ _ h => h)))
  have H1 := hide (And.intro (oB.base fA) fB)
  clear fA fB oB
  generalize hVL : vs.length = VL at *
  obtain ⟨d0, d1, d2, d3⟩ := (unhide HC).2.2.2.2.1 _ (unhide H1).2
  go_wp2_with fail
  refine ((unhide HC).2.2.1 _ (unhide H1).2).mono ?_
  rintro e wC ⟨hb, ho, rfl, bC, gC⟩
  have H2 := hide (And.intro bC (And.intro ((unhide H1).1.fr0 gC) ((unhide H1).2.trans gC (fun _ _ h => h))))
  clear bC gC d0 d1 d2 d3 H1
  go_wp2_with fail
  refine ((unhide HC).2.2.2.1 _ (unhide H2).2.2).mono ?_
  rintro e wD ⟨bk, bi, rfl, lD, gD⟩
  have H3 := hide (And.intro lD (And.intro ((unhide H2).1.fr0 gD) (And.intro ((unhide H2).2.1.fr0 gD) ((unhide H2).2.2.trans gD (fun _ _ h => h)))))
  clear lD gD H2
  obtain ⟨d0, d1, d2, d3⟩ := (unhide HC).2.2.2.2.1 _ (unhide H3).2.2.2
  obtain ⟨wE, hrE, hoE, hFE⟩ := make0 SZ wD.drew hsz9
  have HE := hide (And.intro hoE hFE)
  clear hoE hFE
  have fE : Fr (fun _ => False) w wE := (unhide H3).2.2.2.drew.trans (unhide HE).2 (fun _ _ h => h)
  have HFE := hide fE
  clear fE
  go_wp2_with fail
  go_region_held3 (fun w' => w'.cell? ⟨kb, 0, none⟩ = some (.int .i64 (wi : Int)) ∧ w'.cell? ⟨kb, 1, none⟩ = some (.int .i64 (H : Int)) ∧ w'.cell? ⟨kb, 2, none⟩ = some (.slice yo SN yc) ∧ w'.cell? ⟨kb, 3, none⟩ = some (.pointer (some ⟨tb, 0, none⟩)))
    (first | assumption | exact ⟨d0, d1, d2, d3⟩ | exact (unhide HC).2.2.2.2.1 _ (unhide HFE) | exact (unhide HC).2.2.2.2.1 _ (unhide H3).2.2.2.drew)
    (first
      | (go_at_call 9; refine ((unhide HC).2.2.2.2.2.1 _).mono ?_; rintro e wX ⟨rfl, rfl⟩))
  clear d0 d1 d2 d3
  obtain ⟨d0, d1, d2, d3⟩ := (unhide HC).2.2.2.2.1 _ (unhide HFE)
  go_wp2_with fail
  refine ((unhide HC).2.2.2.2.2.2 _).mono ?_
  rintro e wX ⟨rfl, rfl⟩
  generalize hE8 : 8 * wi = E at *
  go_wp2_with fail
  have hOE : OB wD wX (some ⟨wD.heap.size, 0, none⟩) SZ [] := OB.base (w := wD) ⟨(unhide HE).1, (unhide HE).2⟩ (Fr.refl _ _).drew
  have HO := hide hOE
  clear hOE d0 d1 d2 d3 hrE
  go_loopw [12, 55] (fun v iv wr => ∃ (k : Nat) (zo : Option Addr) (zc n : Nat), k ≤ E ∧ iv = .int .i64 (k : Nat) ∧ v = .slice zo n zc ∧ n = (sgn wi K seed (sm wi m) k).length ∧ OB wD wr zo zc (sgn wi K seed (sm wi m) k)) (fun _ iv _ => E - (intOf iv).toNat)
  case atStart => exact ⟨0, _, _, 0, Nat.zero_le _, rfl, rfl, rfl, unhide HO⟩
  case round =>
    obtain ⟨k, zo, zc, n, hk, rfl, rfl, hn, hI⟩ := hrel
    by_cases hlt : k < E
    · have hlt' : (k : Int) < (E : Int) := by omega
      have hF : Fr (fun _ => False) w wr := (unhide H3).2.2.2.trans hI.fr (fun _ _ h => h)
      have hsm : (sm (wi : Int) m).length = wi := by rw [sm_len ⟨by omega, by omega⟩, Int.toNat_natCast]
      have hval := fun w' (hf : Fr (fun _ => False) wD w') => lbitsOf1_in hb ho wi k hw32 (by omega) _ w' ((unhide H3).2.1.fr0 hf) hsm
      have hbv := bitv_lt (sm (wi : Int) m) k
      have hsec := fun w' (hf : Fr (fun _ => False) wD w') => lsecret_in wi K k (bitv (sm (wi : Int) m) k) hw1 hw32 (by omega) (by omega) hbv _ seed w' ((unhide HK).1.gs.fr0 ((unhide H3).2.2.2.trans hf (fun _ _ h => h))) ((unhide HK).1.sl.fr0 ((unhide H3).2.2.2.trans hf (fun _ _ h => h))) (by omega)
      have hlck := fun w' (hf : Fr (fun _ => False) wD w') => llocks1_in bk bi kb wi K k (1 - bitv (sm (wi : Int) m) k) hw1 hw32 (by omega) (by omega) (by omega) _ seed w' ((unhide HK).1.gs.fr0 ((unhide H3).2.2.2.trans hf (fun _ _ h => h))) ((unhide H3).1.fr0 hf) (by omega)
      obtain ⟨d0, d1, d2, d3⟩ := (unhide HC).2.2.2.2.1 _ hF
      have HQ := hide (And.intro hval (And.intro hsec (And.intro hlck (And.intro hn hI))))
      clear hval hsec hlck hn hI
      have hsg : sgn wi K seed (sm wi m) (k + 1) = sgn wi K seed (sm wi m) k ++ sm wi (scm K k (bitv (sm wi m) k) seed) ++ lk wi K seed k (1 - bitv (sm wi m) k) := rfl
      have HG := hide hsg
      clear hsg
      have e1 : (1 : Int) - ((bitv (sm (wi : Int) m) k : Nat) : Int) = ((1 - bitv (sm (wi : Int) m) k : Nat) : Int) := by omega
      generalize bitv (sm (wi : Int) m) k = V at *
      go_wp2_with fail
      refine ((unhide HQ).1 _ (unhide HQ).2.2.2.2.fr).mono ?_
      rintro e wY ⟨rfl, hFY⟩
      have HY := hide hFY
      clear hFY d0 d1 d2 d3
      have hsl0 : (sm (wi : Int) (scm K k V seed)).length = wi := by rw [sm_len ⟨by omega, by omega⟩, Int.toNat_natCast]
      have hlk0 := lk_len wi K hw1 hw32 seed k (1 - V)
      have hsb0 := sm_lt (wi : Int) (scm K k V seed)
      have hlb0 := lk_lt wi K seed k (1 - V)
      have hb3 : 2 * k * wi ≤ 512 * 32 := Nat.mul_le_mul (by omega) hw32
      have hll := sgn_len wi K hw1 hw32 seed (sm wi m) k
      generalize sgn wi K seed (sm wi m) k = S0 at *
      generalize sm (wi : Int) (scm K k V seed) = S1 at *
      generalize lk wi K seed k (1 - V) = S2 at *
      have HB := hide (And.intro hsl0 (And.intro hlk0 (And.intro hsb0 (And.intro hlb0 (And.intro hb3 hll)))))
      clear hsl0 hlk0 hsb0 hlb0 hb3 hll
      have T3 : True := trivial
      go_wp2_with fail
      go_region_held3 (fun w' => w'.cell? ⟨kb, 0, none⟩ = some (.int .i64 (wi : Int)) ∧ w'.cell? ⟨kb, 1, none⟩ = some (.int .i64 (H : Int)) ∧ w'.cell? ⟨kb, 2, none⟩ = some (.slice yo SN yc) ∧ w'.cell? ⟨kb, 3, none⟩ = some (.pointer (some ⟨tb, 0, none⟩)))
        (first | assumption | exact (unhide HC).2.2.2.2.1 _ ((hF.trans (unhide HY) (fun _ _ h => h)).drew) | exact (unhide HC).2.2.2.2.1 _ ((unhide H3).2.2.2.trans oT.fr (fun _ _ h => h)) | exact (unhide HC).2.2.2.2.1 _ ((unhide H3).2.2.2.trans fS (fun _ _ h => h)))
        (first
          | (go_at_call 10; clear T3; refine ((unhide HQ).2.1 _ (((unhide HQ).2.2.2.2.fr.trans (unhide HY) (fun _ _ h => h)).drew)).mono ?_; rintro e wS ⟨so, rfl, oS⟩; have fS : Fr (fun _ => False) wD wS := ((unhide HQ).2.2.2.2.fr.trans (unhide HY) (fun _ _ h => h)).drew.trans oS.fr (fun _ _ h => h); have oZ : OB wD wS zo zc S0 := ((unhide HQ).2.2.2.2.ow.fr0 ((unhide HY).drew.trans oS.fr (fun _ _ h => h))).ob fS; obtain ⟨a2, c2, w2, hr2, oT⟩ := oZ.app _ S1 oS.src (by have := (unhide HB).1; have := (unhide HB).2.2.2.2.1; have := (unhide HB).2.2.2.2.2; omega); rw [(unhide HB).1, ← (unhide HQ).2.2.2.1] at hr2)
          | (refine step_app rfl (.tmp 61) (.tmp 73) 24 24 rfl _ _ _ (by simp [Act.eval]) (by simp [Act.eval]) hr2 ?_))
      have HT := hide (And.intro oT (And.intro fS oS))
      clear oT oZ oS fS hr2
      generalize hn2 : (S0 ++ S1).length = n2 at *
      rw [List.length_append] at hn2
      rw [hn2]
      go_wp2_with fail
      refine ((unhide HQ).2.2.1 _ (unhide HT).1.fr).mono ?_
      rintro e wU ⟨uo, rfl, oU⟩
      have fU : Fr (fun _ => False) wD wU := (unhide HT).1.fr.trans oU.fr (fun _ _ h => h)
      have oZ2 : OB wD wU a2 c2 (S0 ++ S1) := ((unhide HT).1.ow.fr0 oU.fr).ob fU
      obtain ⟨a3, c3, w3, hr3, oV⟩ := oZ2.app _ S2 oU.src (by have := (unhide HB).1; have := (unhide HB).2.1; have := (unhide HB).2.2.2.2.1; have := (unhide HB).2.2.2.2.2; rw [List.length_append]; omega)
      rw [(unhide HB).2.1, List.length_append, hn2] at hr3
      have HV := hide (And.intro hr3 oV)
      clear hr3 oV oZ2 fU oU
      go_wp2_with (at_builtin; refine wpList_app rfl _ _ 24 24 rfl _ _ _ rfl rfl (unhide HV).1 ?_)
      exact ⟨⟨k + 1, _, _, _, by omega, by go_num, rfl, by rw [unhide HG]; simp, by rw [unhide HG]; exact (unhide HV).2⟩, by simp [intOf]; omega⟩
    · have hlt' : ¬ (k : Int) < (E : Int) := by omega
      have hkE : k = E := by omega
      subst hkE
      have hPc := (unhide H3).2.2.1.pcs
      have hPl : vs.length = PT.length := (unhide H3).2.2.1.len
      rw [hVL] at hPc hPl
      have hgl := sgn_len wi K hw1 hw32 seed (sm wi m) k
      have hb3 : 2 * k * wi ≤ 512 * 32 := Nat.mul_le_mul (by omega) hw32
      generalize hSG : sgn wi K seed (sm wi m) k = S0 at *
      have hfb : ∀ j, j ≤ VL → (fl PT j).length ≤ 32 * j := fun j => by
        induction j with
        | zero => intro _; simp [fl]
        | succ j ih =>
          intro hj
          have h1 := ih (by omega)
          have h2 := (unhide HPB).1 (PT[j]'(by omega)) (List.getElem_mem _)
          rw [fl_succ PT j (by omega), List.length_append]
          omega
      have HQ := hide (And.intro hn (And.intro hI (And.intro hPc (And.intro hgl (And.intro hb3 hfb)))))
      clear hn hI hPc hgl hb3 hfb
      have HSG := hide (And.intro hSG hE8)
      clear hSG hE8
      go_wp2_with fail
      go_loopw [12, 85] (fun v iv wq => ∃ (j : Nat) (qo : Option Addr) (qc n' : Nat), j ≤ VL ∧ iv = .int .i64 (j : Nat) ∧ v = .slice qo n' qc ∧ n' = (S0 ++ fl PT j).length ∧ OB wD wq qo qc (S0 ++ fl PT j)) (fun _ iv _ => VL - (intOf iv).toNat)
      case atStart => exact ⟨0, _, _, _, Nat.zero_le _, rfl, rfl, by simp [fl, (unhide HQ).1], by simpa [fl] using (unhide HQ).2.1⟩
      case round =>
        obtain ⟨j, qo, qc, n', hj, rfl, rfl, hn', hO⟩ := hrel
        have hPL := (unhide HPB).2
        by_cases hjl : j < VL
        · have hjl' : (j : Int) < (VL : Int) := by omega
          have hkp : j < PT.length := by omega
          obtain ⟨g, o, v, rfl, hcell, hsrc, hcap, _, _⟩ := (unhide HQ).2.2.1.cell hO.fr j hkp
          obtain ⟨vo, vc, rfl⟩ := hsrc.form
          have hb1 := (unhide HPB).1 PT[j] (List.getElem_mem hkp)
          have hb2 := (unhide HQ).2.2.2.2.2 j hj
          have hb4 := (unhide HQ).2.2.2.1
          have hb5 := (unhide HQ).2.2.2.2.1
          obtain ⟨a2, c2, w2, hr2, hO2⟩ := hO.app _ PT[j] hsrc (by rw [List.length_append]; omega)
          rw [← hn'] at hr2
          have e2 : (S0 ++ fl PT j) ++ PT[j] = S0 ++ fl PT (j + 1) := by rw [fl_succ PT j hkp, List.append_assoc]
          rw [e2] at hr2 hO2
          have HR2 := hide (And.intro hr2 hO2)
          clear hr2 hO2 e2 hO hsrc hcap hn' hb1 hb2 hb4 hb5
          go_wp2_with (at_builtin; refine wpList_app rfl _ _ 24 24 rfl _ _ _ rfl rfl (unhide HR2).1 ?_)
          exact ⟨⟨j + 1, _, _, _, by omega, by go_num, rfl, by simp, (unhide HR2).2⟩, by simp [intOf]; omega⟩
        · have hjl' : ¬ (j : Int) < (VL : Int) := by omega
          have hjV : j = VL := by omega
          have e : fl PT j = PT.flatten := by rw [hjV, hPl, fl_all]
          rw [e] at hO hn'
          have HO2 := hide (And.intro hn' (hO.base (unhide H3).2.2.2))
          clear hO hn' e hjV
          go_wp2_with fail
          refine bodyPost_ret (v := .tuple #[.slice qo n' qc, .int .i64 0]) (by simp [results, Tryd.results14, go_sem]) rfl ?_
          rw [(unhide HSG).2, (unhide HSG).1]
          exact ⟨qo, n', qc, rfl, by simpa using (unhide HO2).1, (unhide HO2).2⟩
end Go.Proofs.YtjokmlnghpnlbaaDoor

namespace Go.Proofs.YtjokmlnghpnlbaaDoor
open Go.RowKit

theorem bes_wid (wi : Nat) (hw1 : 1 ≤ wi) (hw32 : wi ≤ 32) (L : List (List Nat)) (hL : ∀ p ∈ L, p.length = wi) (m : Nat) : ∀ f n tf tn, n ≤ m → ∀ p ∈ bes wi L f n tf tn, p.length = wi := by
  induction m with
  | zero => intro f n tf tn h p hp; rw [bes, dif_pos (by omega)] at hp; cases hp
  | succ m ih =>
    intro f n tf tn h p hp
    by_cases e : (f = tf ∧ n = tn) ∨ n < 2
    · rw [bes, dif_pos e] at hp; cases hp
    · have hlt := hf_lt n (by omega)
      have hpos := hf_pos n
      by_cases hl : tf < f + hf n
      · rw [bes_l (by omega) (by omega) hl] at hp
        rcases List.mem_append.1 hp with hp | hp
        · exact ih _ _ _ _ (by omega) p hp
        · simp at hp; subst hp; exact mth_wid wi hw1 hw32 _ (fun p hp => hL p (blk_mem _ _ _ p hp))
      · rw [bes_r (by omega) (by omega) hl] at hp
        rcases List.mem_append.1 hp with hp | hp
        · exact ih _ _ _ _ (by omega) p hp
        · simp at hp; subst hp; exact mth_wid wi hw1 hw32 _ (fun p hp => hL p (blk_mem _ _ _ p hp))
theorem wdq_of {j : Int} {ps : List (List Nat)} (h : ∀ p ∈ ps, (p.length : Int) = j) : wdq j ps = true := by
  rw [wdq, List.all_eq_true]
  intro p hp
  simpa using h p hp
/-- A path that the tree tells is taken. -/
theorem chkP_bes (wi : Nat) (hw1 : 1 ≤ wi) (hw32 : wi ≤ 32) (L : List (List Nat)) (hL : ∀ p ∈ L, p.length = wi) (i : Nat) (hi : i < L.length) : chkP wi (L[i]) i L.length (bes wi L 0 L.length i 1) (mth wi L) = true := by
  have hb : blk L i 1 = [L[i]] := by
    rw [blk, List.drop_eq_getElem_cons hi]; rfl
  have ht := topv_bes wi L L.length 0 L.length i 1 (Nat.le_refl _) (by omega) (rch_one _ 0 L.length i (Nat.le_refl _) (by omega) (by omega))
  rw [hb, mth_one, blk_all] at ht
  rw [chkP, decide_eq_true (by omega), decide_eq_true (by omega), decide_eq_true (by omega), wdq_of (fun p hp => ?_), wdq_of (fun p hp => ?_), Int.toNat_natCast, Int.toNat_natCast, Int.toNat_natCast, bes_len _ _ _ _ _ _ _ (Nat.le_refl _), decide_eq_true rfl, ht, decide_eq_true rfl]
  · rfl
  · have := bes_wid wi hw1 hw32 L hL _ 0 L.length i 1 (Nat.le_refl _) p hp
    omega
  · simp at hp
    rcases hp with rfl | rfl
    · have := hL L[i] (List.getElem_mem _); omega
    · have := mth_wid wi hw1 hw32 L hL; omega
/-- In a whole tree every path has its height's length. -/
theorem dep_pow (H : Nat) : ∀ f i, f ≤ i → i < f + 2 ^ H → dep f (2 ^ H) i 1 = H := by
  induction H with
  | zero =>
    intro f i h1 h2
    obtain rfl : f = i := by rw [Nat.pow_zero] at h2; omega
    exact dep_eq _ _
  | succ H ih =>
    intro f i h1 h2
    have hp : 0 < 2 ^ H := Nat.pow_pos (by decide)
    have e : 2 ^ (H + 1) = 2 * 2 ^ H := by rw [Nat.pow_succ]; omega
    have hh : hf (2 ^ (H + 1)) = 2 ^ H := hf_uniq _ _ (by omega) (by omega)
    by_cases hl : i < f + hf (2 ^ (H + 1))
    · rw [dep_l (by omega) (by omega) hl, hh, ih f i h1 (by omega)]
    · rw [dep_r (by omega) (by omega) hl, hh, show 2 ^ (H + 1) - 2 ^ H = 2 ^ H by omega, ih _ i (by omega) (by omega)]
theorem besH_len (wi : Nat) (L : List (List Nat)) (H K : Nat) (hK : K < 2 ^ H) : (bes wi L 0 (2 ^ H) K 1).length = H := by
  rw [bes_len _ _ _ _ _ _ _ (Nat.le_refl _), dep_pow H 0 K (Nat.zero_le _) (by omega)]
theorem flat_drop (wi : Nat) (ps : List (List Nat)) (h : ∀ p ∈ ps, p.length = wi) : ∀ j, ps.flatten.drop (j * wi) = (ps.drop j).flatten := by
  induction ps with
  | nil => intro j; simp
  | cons p ps ih =>
    intro j
    cases j with
    | zero => simp
    | succ j =>
      have hp := h p (List.mem_cons_self ..)
      rw [List.flatten_cons, Nat.succ_mul, Nat.add_comm, ← List.drop_drop, List.drop_left' hp, List.drop_succ_cons]
      exact ih (fun q hq => h q (List.mem_cons_of_mem _ hq)) j
theorem flat_len (wi : Nat) (ps : List (List Nat)) (h : ∀ p ∈ ps, p.length = wi) : ps.flatten.length = ps.length * wi := by
  induction ps with
  | nil => simp
  | cons p ps ih =>
    rw [List.flatten_cons, List.length_append, ih (fun q hq => h q (List.mem_cons_of_mem _ hq)), h p (List.mem_cons_self ..), List.length_cons, Nat.succ_mul]
    omega
theorem cuts_flat (wi : Nat) (ps : List (List Nat)) (h : ∀ p ∈ ps, p.length = wi) : cuts wi ps.flatten ps.length = ps := by
  refine List.ext_getElem (by simp [cuts]) (fun j h1 h2 => ?_)
  have e : (cuts wi ps.flatten ps.length)[j] = (ps.flatten.drop (j * wi)).take wi := by simp [cuts]
  rw [e, flat_drop wi ps h, List.drop_eq_getElem_cons h2, List.flatten_cons, List.take_left' (h _ (List.getElem_mem _))]
theorem sgn_at (wi K : Nat) (seed h : List Nat) (J n : Nat) (hJ : J < n) : ∃ r, sgn wi K seed h n = sgn wi K seed h J ++ (sm wi (scm K J (bitv h J) seed) ++ (lk wi K seed J (1 - bitv h J) ++ r)) := by
  induction n with
  | zero => omega
  | succ n ih =>
    by_cases e : J = n
    · subst e; exact ⟨[], by simp [sgn]⟩
    · obtain ⟨r, hr⟩ := ih (by omega)
      refine ⟨r ++ sm wi (scm K n (bitv h n) seed) ++ lk wi K seed n (1 - bitv h n), ?_⟩
      rw [sgn, hr]; simp
theorem lt5_sgn (wi K : Nat) (hw1 : 1 ≤ wi) (hw32 : wi ≤ 32) (seed h : List Nat) (n J V : Nat) (hJ : J < n) (hV : V < 2) : lt5 wi h (sgn wi K seed h n) J V = lk wi K seed J V := by
  obtain ⟨r, hr⟩ := sgn_at wi K seed h J n hJ
  have h0 := sgn_len wi K hw1 hw32 seed h J
  have h1 : (sm (wi : Int) (scm K J (bitv h J) seed)).length = wi := by rw [sm_len ⟨by omega, by omega⟩, Int.toNat_natCast]
  have h2 := lk_len wi K hw1 hw32 seed J (1 - bitv h J)
  have hb := bitv_lt h J
  rw [hr]
  unfold lt5
  split
  · rename_i e
    rw [List.drop_left' h0, List.take_left' h1, e]; rfl
  · rename_i e
    rw [← List.drop_drop, List.drop_left' h0, List.drop_left' h1, List.take_left' h2]
    congr 1
    omega
theorem ent_congr (f g : Nat → Nat → List Nat) (n : Nat) (h : ∀ J V, J < n → V < 2 → f J V = g J V) : ent f n = ent g n := by
  induction n with
  | zero => rfl
  | succ n ih => rw [ent, ent, ih (fun J V h1 h2 => h J V (by omega) h2), h n 0 (by omega) (by decide), h n 1 (by omega) (by decide)]
theorem lvs_wid (wi : Nat) (hw1 : 1 ≤ wi) (hw32 : wi ≤ 32) (seed : List Nat) (n : Nat) : ∀ p ∈ lvs wi seed n, p.length = wi := by
  intro p hp
  obtain ⟨k, _, rfl⟩ := List.mem_map.1 hp
  exact lf_len5 wi hw1 hw32 _
theorem lvs_get (wi : Nat) (seed : List Nat) (n k : Nat) (h : k < (lvs wi seed n).length) : (lvs wi seed n)[k] = lf wi (eN wi seed k) := by simp [lvs]
/-- What Sign tells. -/
def sig (wi H K : Nat) (seed h : List Nat) : List Nat := sgn wi K seed h (8 * wi) ++ (bes wi (lvs wi seed (2 ^ H)) 0 (2 ^ H) K 1).flatten
theorem sig_len (wi H K : Nat) (hw1 : 1 ≤ wi) (hw32 : wi ≤ 32) (hK : K < 2 ^ H) (seed h : List Nat) : (sig wi H K seed h).length = 16 * wi * wi + H * wi := by
  rw [sig, List.length_append, sgn_len wi K hw1 hw32, flat_len wi _ (bes_wid wi hw1 hw32 _ (lvs_wid wi hw1 hw32 seed _) _ _ _ _ _ (Nat.le_refl _)), besH_len wi _ H K hK, ← Nat.mul_assoc]
/-- A signature is taken, for every message with that hash. -/
theorem chk5_sig (wi H K : Nat) (hw1 : 1 ≤ wi) (hw32 : wi ≤ 32) (hK : K < 2 ^ H) (seed m : List Nat) : chk5 wi H (mth wi (lvs wi seed (2 ^ H))) K m (sig wi H K seed (sm wi m)) = true := by
  have h0 : (sgn wi K seed (sm (wi : Int) m) (8 * wi)).length = 16 * wi * wi := by rw [sgn_len wi K hw1 hw32, ← Nat.mul_assoc]
  have hwd := bes_wid wi hw1 hw32 _ (lvs_wid wi hw1 hw32 seed (2 ^ H)) _ 0 (2 ^ H) K 1 (Nat.le_refl _)
  have hl := besH_len wi (lvs wi seed (2 ^ H)) H K hK
  have hc := cuts_flat wi _ hwd
  rw [hl] at hc
  rw [chk5, sig, List.take_left' h0, List.drop_left' h0, hc, ent_congr _ _ _ (fun J V h1 h2 => lt5_sgn wi K hw1 hw32 seed (sm wi m) (8 * wi) J V h1 h2)]
  have := chkP_bes wi hw1 hw32 (lvs wi seed (2 ^ H)) (lvs_wid wi hw1 hw32 seed _) K (by rw [lvs_len]; exact hK)
  rw [lvs_get, lvs_len] at this
  exact this
theorem chkL_sig (wi H K : Nat) (hw1 : 1 ≤ wi) (hw32 : wi ≤ 32) (hH : H ≤ 6) (hK : K < 2 ^ H) (seed m : List Nat) : chkL wi H (mth wi (lvs wi seed (2 ^ H))) K m (sig wi H K seed (sm wi m)) = true := by
  have h1 := mth_wid wi hw1 hw32 (lvs wi seed (2 ^ H)) (lvs_wid wi hw1 hw32 seed _)
  rw [chkL, if_pos, Int.toNat_natCast, Int.toNat_natCast]
  · exact chk5_sig wi H K hw1 hw32 hK seed m
  · refine ⟨⟨by omega, by omega⟩, by omega, ⟨by omega, ?_⟩, ?_⟩
    · rw [Int.toNat_natCast]; omega
    · rw [szF_nat wi H hw1 hw32 hH, sig_len wi H K hw1 hw32 hK]
theorem chkL_len (wi H K : Nat) (hw1 : 1 ≤ wi) (hw32 : wi ≤ 32) (hH : H ≤ 6) (pub m s : List Nat) (hs : ¬ s.length = 16 * wi * wi + H * wi) : chkL wi H pub K m s = false := by
  rw [chkL, if_neg]
  rintro ⟨_, _, _, h⟩
  rw [szF_nat wi H hw1 hw32 hH] at h
  omega
end Go.Proofs.YtjokmlnghpnlbaaDoor

namespace Go.Proofs.YtjokmlnghpnlbaaDoor
open Go.RowKit

set_option maxRecDepth 100000 in
/-- New, of what may not be. -/
theorem lnew_no (j h : Int) (hn : ¬ ((1 ≤ j ∧ j ≤ 32) ∧ 0 ≤ h ∧ h ≤ 6)) (x : Value) (w : World) :
    Calls Tryd.prog 11 #[.int .i64 j, .int .i64 h, x] w fun e w' => e = .returned (.tuple #[.pointer none, .int .i64 1]) ∧ w' = w := by
  have hmay := lmay_any j h w
  rw [decide_eq_false hn] at hmay
  have HC := hide hmay
  clear hmay hn
  go_enter Tryd.func11, Tryd.ntmps11
  go_wp2_with fail
  refine (unhide HC).mono ?_
  rintro e w0 ⟨rfl, rfl⟩
  go_wp2_with fail
  refine bodyPost_ret (v := .tuple #[.pointer none, .int .i64 1]) (by simp [results, Tryd.results11, go_sem]) rfl ?_
  exact ⟨rfl, rfl⟩
set_option maxRecDepth 100000 in
set_option maxHeartbeats 4000000 in
/-- Keys.Sign, of what is no key. -/
theorem lsign_no (wi H kb base tb : Nat) (hH : H ≤ 6) (K : Int) (hK : ¬ (0 ≤ K ∧ K < ((2 ^ H : Nat) : Int))) (x y : Value) (seed : List Nat) (L : List (List Nat)) (w : World) (h : KyAt w kb base tb wi H x seed L) (hL : L.length = 2 ^ H) :
    Calls Tryd.prog 14 #[.pointer (some ⟨kb, 0, none⟩), .int .i64 K, y] w fun e w' => e = .returned (.tuple #[.slice none 0 0, .int .i64 1]) ∧ Fr (fun _ => False) w w' := by
  have hN64 : 2 ^ H ≤ 64 := Nat.pow_le_pow_right (n := 2) (by decide) hH
  have hlen := fun w' (hf : Fr (fun _ => False) w w') => lkeylen_any kb H hH w' (h.fr0 hf).c1
  have hpath := fun w' (hf : Fr (fun _ => False) w w') => tpath_no tb L.length wi K ((2 ^ H : Nat) : Int) w' ((h.fr0 hf).tk (by omega)).c0.1 ((h.fr0 hf).tk (by omega)).c0.2.1 (.inr (by omega))
  have hc3 := fun w' (hf : Fr (fun _ => False) w w') => (h.fr0 hf).c3
  generalize 2 ^ H = N at *
  have HC := hide (And.intro hlen (And.intro hpath hc3))
  clear hlen hpath hc3 h hL hK
  have T1 : True := trivial
  go_enter Tryd.func14, Tryd.ntmps14
  go_wp2_with fail
  go_region_held3 (fun w' => w'.cell? ⟨kb, 3, none⟩ = some (.pointer (some ⟨tb, 0, none⟩)))
    (first | assumption | exact (unhide HC).2.2 _ (Fr.refl _ _).drew | exact (unhide HC).2.2 _ fA)
    (first
      | (go_at_call 12; clear T1; refine ((unhide HC).1 _ (Fr.refl _ _).drew).mono ?_; rintro e wA ⟨rfl, rfl⟩; have fA : Fr (fun _ => False) w w.drew := (Fr.refl _ _).drew)
      | (go_at_call 42; refine ((unhide HC).2.1 _ fA).mono ?_; rintro e wB ⟨rfl, rfl⟩))
  have H1 := hide fA
  clear fA
  go_wp2_with fail
  refine bodyPost_ret (v := .tuple #[.slice none 0 0, .int .i64 1]) (by simp [results, Tryd.results14, go_sem]) rfl ?_
  exact ⟨rfl, unhide H1⟩
theorem sgn_lt (wi K : Nat) (seed h : List Nat) (n : Nat) : ∀ v ∈ sgn wi K seed h n, v < 256 := by
  induction n with
  | zero => intro v hv; cases hv
  | succ n ih =>
    intro v hv
    rw [sgn] at hv
    rcases List.mem_append.1 hv with hv | hv
    · rcases List.mem_append.1 hv with hv | hv
      · exact ih v hv
      · exact sm_lt _ _ v hv
    · exact lk_lt wi K seed _ _ v hv
theorem lvs_lt (wi : Nat) (seed : List Nat) (n : Nat) : ∀ p ∈ lvs wi seed n, ∀ v ∈ p, v < 256 := by
  intro p hp
  obtain ⟨k, _, rfl⟩ := List.mem_map.1 hp
  exact lf_lt _ _
theorem bes_lt (wi : Nat) (L : List (List Nat)) (hL : ∀ p ∈ L, ∀ v ∈ p, v < 256) (m : Nat) : ∀ f n tf tn, n ≤ m → ∀ p ∈ bes wi L f n tf tn, ∀ v ∈ p, v < 256 := by
  induction m with
  | zero => intro f n tf tn h p hp; rw [bes, dif_pos (by omega)] at hp; cases hp
  | succ m ih =>
    intro f n tf tn h p hp
    by_cases e : (f = tf ∧ n = tn) ∨ n < 2
    · rw [bes, dif_pos e] at hp; cases hp
    · have hlt := hf_lt n (by omega)
      have hpos := hf_pos n
      by_cases hl : tf < f + hf n
      · rw [bes_l (by omega) (by omega) hl] at hp
        rcases List.mem_append.1 hp with hp | hp
        · exact ih _ _ _ _ (by omega) p hp
        · simp at hp; subst hp; exact mth_lt _ _ _ (Nat.le_refl _) (fun p hp => hL p (blk_mem _ _ _ p hp))
      · rw [bes_r (by omega) (by omega) hl] at hp
        rcases List.mem_append.1 hp with hp | hp
        · exact ih _ _ _ _ (by omega) p hp
        · simp at hp; subst hp; exact mth_lt _ _ _ (Nat.le_refl _) (fun p hp => hL p (blk_mem _ _ _ p hp))
theorem sig_lt (wi H K : Nat) (seed h : List Nat) : ∀ v ∈ sig wi H K seed h, v < 256 := by
  intro v hv
  rw [sig] at hv
  rcases List.mem_append.1 hv with hv | hv
  · exact sgn_lt _ _ _ _ _ v hv
  · obtain ⟨p, hp, hv⟩ := List.mem_flatten.1 hv
    exact bes_lt wi _ (lvs_lt wi seed _) _ _ _ _ _ (Nat.le_refl _) p hp v hv
theorem pub_lt (wi H : Nat) (seed : List Nat) : ∀ v ∈ mth wi (lvs wi seed (2 ^ H)), v < 256 := mth_lt _ _ _ (Nat.le_refl _) (lvs_lt wi seed _)
theorem pub_len (wi H : Nat) (hw1 : 1 ≤ wi) (hw32 : wi ≤ 32) (seed : List Nat) : (mth wi (lvs wi seed (2 ^ H))).length = wi := mth_wid wi hw1 hw32 _ (lvs_wid wi hw1 hw32 seed _)
/-- Keys.Sign, of a key. -/
theorem lsign_sig (wi H kb base tb K : Nat) (hw1 : 1 ≤ wi) (hw32 : wi ≤ 32) (hH : H ≤ 6) (hK : K < 2 ^ H) (yo : Option Addr) (SN yc : Nat) (seed : List Nat) (w : World) (h : KyAt w kb base tb wi H (.slice yo SN yc) seed (lvs wi seed (2 ^ H))) (hs : seed.length ≤ 1000000000) (x : Value) (m : List Nat) (hx : Sl w x m) (hm : m.length < 9223372036854775808) :
    Calls Tryd.prog 14 #[.pointer (some ⟨kb, 0, none⟩), .int .i64 K, x] w fun e w' => ∃ zo zc, e = .returned (.tuple #[.slice zo (16 * wi * wi + H * wi) zc, .int .i64 0]) ∧ OB w w' zo zc (sig wi H K seed (sm wi m)) := by
  have hl := sig_len wi H K hw1 hw32 hK seed (sm wi m)
  refine (lsign_in wi H kb base tb K hw1 hw32 hH hK yo SN yc seed _ w h (lvs_len wi seed _) hs x m hx hm (bes_wid wi hw1 hw32 _ (lvs_wid wi hw1 hw32 seed _) _ _ _ _ _ (Nat.le_refl _)) (by rw [besH_len wi _ H K hK]; omega)).mono ?_
  rintro e w' ⟨zo, n, zc, rfl, hn, hO⟩
  have e1 : n = 16 * wi * wi + H * wi := by rw [hn, ← hl, sig]
  exact ⟨zo, zc, by rw [e1], hO⟩
end Go.Proofs.YtjokmlnghpnlbaaDoor

namespace Go.Proofs.YtjokmlnghpnlbaaDoor
open Go.RowKit

set_option maxRecDepth 100000 in
/-- The document's May. -/
theorem g5may_any (j h : Int) (w : World) : Calls Tryd.prog 20 #[.int .i64 j, .int .i64 h] w fun e w' => e = .returned (.bool (decide ((1 ≤ j ∧ j ≤ 32) ∧ 0 ≤ h ∧ h ≤ 6))) ∧ w' = w := by
  by_cases hj : 1 ≤ j ∧ j ≤ 32
  · have HW := hide (may_yes j w hj.1 hj.2)
    by_cases h1 : 0 ≤ h
    · by_cases h2 : h ≤ 6
      · rw [decide_eq_true ⟨hj, h1, h2⟩]
        clear hj
        go_enter Tryd.func20, Tryd.ntmps20
        go_wp2_with fail
        refine (unhide HW).mono ?_
        rintro e w0 ⟨rfl, rfl⟩
        go_wp2_with fail
        go_ret
        exact ⟨rfl, rfl⟩
      · rw [decide_eq_false (fun k => h2 k.2.2)]
        clear hj
        go_enter Tryd.func20, Tryd.ntmps20
        go_wp2_with fail
        refine (unhide HW).mono ?_
        rintro e w0 ⟨rfl, rfl⟩
        go_wp2_with fail
        go_ret
        refine ⟨?_, rfl⟩
        show Ending.returned (.bool (decide (h ≤ 6))) = _
        rw [decide_eq_false (by omega)]
    · rw [decide_eq_false (fun k => h1 k.2.1)]
      clear hj
      go_enter Tryd.func20, Tryd.ntmps20
      go_wp2_with fail
      refine (unhide HW).mono ?_
      rintro e w0 ⟨rfl, rfl⟩
      go_wp2_with fail
      go_ret
      exact ⟨rfl, rfl⟩
  · rw [decide_eq_false (fun k => hj k.1)]
    have HW := hide (may_no j w (by omega))
    clear hj
    go_enter Tryd.func20, Tryd.ntmps20
    go_wp2_with fail
    refine (unhide HW).mono ?_
    rintro e w0 ⟨rfl, rfl⟩
    go_wp2_with fail
    go_ret
    exact ⟨rfl, rfl⟩
set_option maxRecDepth 100000 in
/-- The document's Size. -/
theorem g5size_any (j h : Int) (w : World) : Calls Tryd.prog 18 #[.int .i64 j, .int .i64 h] w fun e w' => e = .returned (.int .i64 (szF j h)) ∧ w' = w := by
  have hm := g5may_any j h w
  by_cases hc : (1 ≤ j ∧ j ≤ 32) ∧ 0 ≤ h ∧ h ≤ 6
  · rw [decide_eq_true hc] at hm
    have hsz : szF j h = 16 * j * j + h * j := by rw [szF, if_pos hc]
    rw [hsz]
    obtain ⟨wi, rfl⟩ : ∃ k : Nat, j = (k : Int) := ⟨j.toNat, by omega⟩
    obtain ⟨H, rfl⟩ : ∃ k : Nat, h = (k : Int) := ⟨h.toNat, by omega⟩
    have hw32 : wi ≤ 32 := by omega
    have hH6 : H ≤ 6 := by omega
    have hsq : wi * wi ≤ 32 * 32 := Nat.mul_le_mul hw32 hw32
    have hhw : H * wi ≤ 6 * 32 := Nat.mul_le_mul hH6 hw32
    have b2 : 16 * wi * wi ≤ 16384 := by rw [Nat.mul_assoc]; omega
    have e3 : (16 : Int) * (wi : Int) * (wi : Int) = ((16 * wi * wi : Nat) : Int) := by push_cast; rfl
    have e4 : (H : Int) * (wi : Int) = ((H * wi : Nat) : Int) := by push_cast; rfl
    have e5 : (16 : Int) * (wi : Int) = ((16 * wi : Nat) : Int) := by omega
    rw [e3, e4]
    have q0 : IntKind.i64.wrap (16 * (wi : Int)) = ((16 * wi : Nat) : Int) := by rw [IntKind.wrap_i64]; omega
    have q3 : IntKind.i64.wrap (((16 * wi : Nat) : Int) * (wi : Int)) = ((16 * wi * wi : Nat) : Int) := by rw [← e5, e3, IntKind.wrap_i64]; omega
    have q1 : IntKind.i64.wrap ((H : Int) * (wi : Int)) = ((H * wi : Nat) : Int) := by rw [e4, IntKind.wrap_i64]; omega
    have q2 : IntKind.i64.wrap (((16 * wi * wi : Nat) : Int) + ((H * wi : Nat) : Int)) = ((16 * wi * wi : Nat) : Int) + ((H * wi : Nat) : Int) := by rw [IntKind.wrap_i64]; omega
    have HM := hide hm
    clear hm hc hsz hsq hhw b2 e3 e4 e5
    generalize 16 * wi * wi = S at *
    generalize 16 * wi = D at *
    generalize H * wi = T at *
    go_enter Tryd.func18, Tryd.ntmps18
    go_wp2_with fail
    refine (unhide HM).mono ?_
    rintro e w0 ⟨rfl, rfl⟩
    go_wp2_with fail
    go_ret
    exact ⟨rfl, rfl⟩
  · rw [decide_eq_false hc] at hm
    have hsz : szF j h = 0 := by rw [szF, if_neg hc]
    rw [hsz]
    have HM := hide hm
    clear hm hc hsz
    go_enter Tryd.func18, Tryd.ntmps18
    go_wp2_with fail
    refine (unhide HM).mono ?_
    rintro e w0 ⟨rfl, rfl⟩
    go_wp2_with fail
    go_ret
    exact ⟨rfl, rfl⟩
end Go.Proofs.YtjokmlnghpnlbaaDoor

namespace Go.Proofs.YtjokmlnghpnlbaaDoor
open Go.RowKit

theorem cells8 (K J V : Nat) (hK : K < 64) (hJ : J < 256) (hV : V < 2) : (#[Value.int .u8 2, .int .u8 0, .int .u8 0, .int .u8 0, .int .u8 (K : Int), .int .u8 ((J : Int) / 256), .int .u8 ((J : Int) % 256), .int .u8 (V : Int)] : Array Value).toList = cellsOf (scm K J V []) := by
  have h1 : (J : Int) / 256 = 0 := by omega
  have h2 : (J : Int) % 256 = (J : Int) := by omega
  have h3 : J / 256 = 0 := by omega
  rw [h1, h2]
  simp [cellsOf, B, scm, h3, Nat.mod_eq_of_lt hJ, Nat.mod_eq_of_lt (show K < 256 by omega), Nat.mod_eq_of_lt (show V < 256 by omega)]
theorem ob_lit8 (w : World) (cs : Array Value) (l : List Nat) (hc : cs.size = 8) (h : cs.toList = cellsOf l) (hl : l.length = 8) : OB w (w.alloc (.cells cs 5)) (some ⟨w.heap.size, 0, none⟩) 8 l := by
  refine ⟨?_, (Fr.refl _ _).alloc _⟩
  have := World.ownsRow_lit (e := 5) (size := 1) (base := w.heap.size) w cs 8 (Nat.le_refl _) (by simp only [maxLen]; omega) (by omega)
  rw [hl, ← h]
  exact this
theorem scm_nil (K J V : Nat) (seed : List Nat) : scm K J V seed = scm K J V [] ++ seed := by simp [scm]
set_option maxRecDepth 100000 in
set_option maxHeartbeats 2000000 in
/-- The document's Secret, of what may be. -/
theorem g5secret_in (wi K J V : Nat) (hw1 : 1 ≤ wi) (hw32 : wi ≤ 32) (hK : K < 64) (hJ : J < 8 * wi) (hV : V < 2) (x : Value) (seed : List Nat) (w : World) (hg : GR w) (hx : Sl w x seed) (hs : seed.length ≤ 15000000) :
    Calls Tryd.prog 17 #[.int .i64 wi, x, .int .i64 K, .int .i64 J, .int .i64 V] w fun e w' => ∃ yo yc, e = .returned (.slice yo wi yc) ∧ OB w w' yo yc (sm wi (scm K J V seed)) := by
  have hmy := hide (may_yes wi w (by omega) (by omega))
  obtain ⟨xo, xc, rfl⟩ := hx.form
  have HC := hide (And.intro hg (And.intro hx hs))
  have hJ9 : J < 256 := by omega
  have q2 : ¬ (8 * (wi : Int)) ≤ (J : Int) := by omega
  have q4 : ¬ (63 : Int) < (K : Int) := by omega
  have q5 : ¬ (1 : Int) < (V : Int) := by omega
  have h8 := cells8 K J V hK hJ9 hV
  have hl8 : (scm K J V []).length = 8 := by simp [scm]
  have hbs : ∀ v ∈ scm K J V [], v < 256 := by simp [scm]; omega
  rw [scm_nil K J V seed]
  generalize scm K J V [] = M0 at *
  have H8 := hide h8
  have HM := hide (And.intro hl8 hbs)
  clear h8 hl8 hbs
  clear hx hg hs
  generalize hSN : seed.length = SN at *
  go_enter Tryd.func17, Tryd.ntmps17
  go_wp2_with fail
  refine (unhide hmy).mono ?_
  rintro e w0 ⟨rfl, rfl⟩
  go_wp2_with fail
  have hO0 := ob_lit8 w0 _ _ rfl (unhide H8) (unhide HM).1
  have HO := hide (And.intro hO0 (unhide HM))
  clear hO0 HM
  go_loopw [11, 12] (fun v iv wr => ∃ (k : Nat) (ao : Option Addr) (cp n : Nat), k ≤ SN ∧ iv = .int .i64 (k : Nat) ∧ v = .slice ao n cp ∧ n = (M0 ++ seed.take k).length ∧ OB w0 wr ao cp (M0 ++ seed.take k)) (fun _ iv _ => SN - (intOf iv).toNat)
  case atStart => exact ⟨0, _, _, 8, Nat.zero_le _, rfl, rfl, by rw [List.take_zero, List.append_nil]; exact (unhide HO).2.1.symm, by rw [List.take_zero, List.append_nil]; exact (unhide HO).1⟩
  case round =>
    obtain ⟨k, ao, cp, n, hk, rfl, rfl, hn, hO⟩ := hrel
    have hs9 := (unhide HC).2.2
    by_cases hlt : k < SN
    · have hlt' : (k : Int) < (SN : Int) := by omega
      obtain ⟨g, o, rfl, hc⟩ := src_cell ((unhide HC).2.1.fr0 hO.fr).s k (by omega) (unhide HC).2.1.b
      have hv : seed.getD k 0 < 256 := by
        rw [List.getD_eq_getElem?_getD, List.getElem?_eq_getElem (by omega)]; exact (unhide HC).2.1.b _ (List.getElem_mem _)
      have hll : (M0 ++ seed.take k).length = 8 + k := by rw [List.length_append, (unhide HO).2.1, List.length_take]; omega
      obtain ⟨a4, c4, w4, hr4, hO4⟩ := hO.app1 (seed.getD k 0) hv (by omega)
      have htk : M0 ++ seed.take k ++ [seed.getD k 0] = M0 ++ seed.take (k + 1) := by
        rw [List.append_assoc, List.take_add_one, List.getElem?_eq_getElem (by omega), Option.toList_some, List.getD_eq_getElem?_getD, List.getElem?_eq_getElem (by omega)]; rfl
      rw [htk] at hr4 hO4
      rw [← hn] at hr4
      have HR4 := hide (And.intro hr4 hO4)
      generalize seed.getD k 0 = v at *
      clear hr4 hO4 hO hn htk hll
      go_wp2_with (at_builtin; refine wpList_app rfl _ _ 24 24 rfl _ _ _ rfl rfl (unhide HR4).1 ?_)
      exact ⟨⟨k + 1, _, _, _, by omega, by go_num, rfl, by rw [List.length_append, List.length_take, hSN], (unhide HR4).2⟩, by simp [intOf]; omega⟩
    · have hlt' : ¬ (k : Int) < (SN : Int) := by omega
      have htk : seed.take k = seed := List.take_of_length_le (by omega)
      rw [htk] at hO hn
      have hll : (M0 ++ seed).length = 8 + SN := by rw [List.length_append, (unhide HO).2.1]; omega
      have hbb : ∀ v ∈ M0 ++ seed, v < 256 := fun v hv => (List.mem_append.1 hv).elim ((unhide HO).2.2 v) ((unhide HC).2.1.b v)
      have hsrc := hO.src
      rw [← hn] at hsrc
      have hsm := gsum_in wi _ (M0 ++ seed) wr ((unhide HC).1.fr0 hO.fr) hsrc hbb (by omega) hw1 hw32
      have HS := hide (And.intro hsm hO.fr)
      clear hsm hO hsrc hbb hll hn htk
      go_wp2_with fail
      refine (unhide HS).1.mono ?_
      rintro e w5 ⟨yo, yc, rfl, hO5⟩
      have H5 := hide (hO5.base (unhide HS).2)
      clear hO5
      go_wp2_with fail
      go_ret
      refine ⟨_, _, rfl, ?_⟩
      rw [sm, if_pos ⟨by omega, by omega⟩, Int.toNat_natCast]
      exact unhide H5
end Go.Proofs.YtjokmlnghpnlbaaDoor

namespace Go.Proofs.YtjokmlnghpnlbaaDoor
open Go.RowKit

/-- The cells of steps. -/
def scells (L : List (Value × Value × Bool)) : List Value := (L.map fun p => [p.1, p.2.1, .bool p.2.2]).flatten
theorem scells_len (L : List (Value × Value × Bool)) : (scells L).length = L.length * 3 := by
  induction L with
  | nil => rfl
  | cons a r ih => simp only [scells, List.map_cons, List.flatten_cons, List.length_append, List.length_cons, List.length_nil] at ih ⊢; omega
theorem scells_cons (a : Value × Value × Bool) (r : List (Value × Value × Bool)) : scells (a :: r) = [a.1, a.2.1, .bool a.2.2] ++ scells r := rfl
theorem scells_app (a b : List (Value × Value × Bool)) : scells (a ++ b) = scells a ++ scells b := by simp [scells]
theorem scells_at (L : List (Value × Value × Bool)) : ∀ (k : Nat) (hk : k < L.length), (scells L)[k * 3]? = some L[k].1 ∧ (scells L)[k * 3 + 1]? = some L[k].2.1 ∧ (scells L)[k * 3 + 2]? = some (.bool L[k].2.2) := by
  induction L with
  | nil => intro k hk; simp at hk
  | cons a r ih =>
    intro k hk
    match k, hk with
    | 0, _ => exact ⟨rfl, rfl, rfl⟩
    | k + 1, hk =>
      obtain ⟨h1, h2, h3⟩ := ih k (by simpa using hk)
      have e : ∀ j, (scells (a :: r))[(k + 1) * 3 + j]? = (scells r)[k * 3 + j]? := fun j => by
        rw [scells_cons, List.getElem?_append_right (by simp; omega)]
        congr 1
        simp
        omega
      have e0 := e 0
      simp only [Nat.add_zero] at e0
      refine ⟨e0.trans h1, (e 1).trans h2, (e 2).trans h3⟩
theorem Tryd.infoStep : (Tryd.prog.info? 121).map (fun i => (i.zero, i.size, i.bytes)) = some (some (.agg #[.slice none 0 0, .slice none 0 0, .bool false]), 3, 56) := by kernel_rfl
/-- One more step. -/
theorem app_step (w : World) (base : Nat) (v : Value) (L : List (Value × Value × Bool)) (la : Option Addr) (ln lc : Nat) (ra : Option Addr) (rn rc : Nat) (b : Bool) (hown : w.ownsRow base 121 3 v L.length (scells L)) (hb : L.length + 1 ≤ 16777216) (hbase : base ≤ w.heap.size) :
    ∃ ao cap w', (Builtin.append_ #[105, 105] 105 #[v, .slice (some ⟨w.heap.size, 0, none⟩) 1 1]).run Tryd.prog (w.alloc (.cells #[.slice la ln lc, .slice ra rn rc, .bool b] 121)) = .ok (.slice ao (L.length + 1) cap) w' ∧
      w'.ownsRow base 121 3 (.slice ao (L.length + 1) cap) (L.length + 1) (scells (L ++ [(.slice la ln lc, .slice ra rn rc, b)])) ∧ (w.alloc (.cells #[.slice la ln lc, .slice ra rn rc, .bool b] 121)).grownBy w' v.ownBlock := by
  obtain ⟨i0, hi, hz0, hz1, hz2⟩ := info_parts Tryd.infoStep
  have h1 : (w.alloc (.cells #[.slice la ln lc, .slice ra rn rc, .bool b] 121)).ownsRow base 121 3 v L.length (scells L) := ownsRow_of_block hown (fun g hg => Below.heap_alloc _ _ _ (hown.lt g hg).2)
  obtain ⟨v', w', hr, h2, h3, _, _⟩ := run_append_own_at (P := Tryd.prog) (w.alloc (.cells #[.slice la ln lc, .slice ra rn rc, .bool b] 121)) base 105 105 121 i0 (.agg #[.slice none 0 0, .slice none 0 0, .bool false]) 3 56 Tryd.underlying105 hi hz0 hz1 hz2 rfl (by decide) v L.length _ h1 ⟨w.heap.size, 0, none⟩ 1 1 [.slice la ln lc, .slice ra rn rc, .bool b] rfl (fun j u hu => by
      match j, hu with
      | 0, hu => simp at hu; subst hu; simp [Addr.add]
      | 1, hu => simp at hu; subst hu; simp [Addr.add]
      | 2, hu => simp at hu; subst hu; simp [Addr.add]) (fun u hu => by simp at hu; rcases hu with rfl | rfl | rfl <;> rfl) (by simp only [maxLen]; omega) (by omega) (by simp; omega)
  have hf : ∃ ao cap, v' = .slice ao (L.length + 1) cap := by
    rcases h2.2 with ⟨_, e⟩ | ⟨g, cap, cur, rfl, _⟩
    · omega
    · exact ⟨_, _, rfl⟩
  obtain ⟨ao, cap, rfl⟩ := hf
  refine ⟨ao, cap, w', hr, ?_, h3⟩
  rw [scells_app]
  exact h2
/-- Steps in memory of one's own. -/
structure OT (w wr : World) (v : Value) (ss : List (Value × Value × Bool)) : Prop where
  own : wr.ownsRow w.heap.size 121 3 v ss.length (scells ss)
  fr : Fr (fun _ => False) w wr
theorem OT.nil (w : World) : OT w w (.slice none 0 0) [] := ⟨⟨rfl, .inl ⟨rfl, rfl⟩⟩, Fr.refl _ _⟩
theorem OT.fr0 {w wr wq : World} {v : Value} {ss : List (Value × Value × Bool)} (h : OT w wr v ss) (hf : Fr (fun _ => False) wr wq) : OT w wq v ss :=
  ⟨ownsRow_of_block h.own (fun g hg => hf.block g (h.own.lt g hg).2 (fun h => h)), h.fr.trans hf (fun _ _ h => h)⟩
theorem OT.base {w wA wr : World} {v : Value} {ss : List (Value × Value × Bool)} (h : OT wA wr v ss) (hf : Fr (fun _ => False) w wA) : OT w wr v ss := by
  refine ⟨⟨h.own.1, ?_⟩, hf.trans h.fr (fun _ _ h => h)⟩
  rcases h.own.2 with h0 | ⟨g, cap, cur, e1, e2, e3⟩
  · exact .inl h0
  · exact .inr ⟨g, cap, cur, e1, Nat.le_trans hf.size e2, e3⟩
theorem OT.form {w wr : World} {v : Value} {ss : List (Value × Value × Bool)} (h : OT w wr v ss) : ∃ ao cap, v = .slice ao ss.length cap := by
  rcases h.own.2 with ⟨e, e0⟩ | ⟨g, cap, cur, e, _⟩
  · exact ⟨none, 0, by rw [e, e0]⟩
  · exact ⟨_, _, e⟩
/-- The cells of one step, in a later world. -/
theorem OT.cell {w wr wq : World} {so : Option Addr} {n sc : Nat} {ss : List (Value × Value × Bool)} (h : OT w wr (.slice so n sc) ss) (hf : Fr (fun _ => False) wr wq) (k : Nat) (hk : k < ss.length) : ∃ g, so = some ⟨g, 0, none⟩ ∧ wq.cell? ⟨g, k * 3, none⟩ = some ss[k].1 ∧ wq.cell? ⟨g, k * 3 + 1, none⟩ = some ss[k].2.1 ∧ wq.cell? ⟨g, k * 3 + 2, none⟩ = some (.bool ss[k].2.2) := by
  rcases h.own.2 with ⟨_, e0⟩ | ⟨g, cap, cur, e, _⟩
  · omega
  · simp only [Value.slice.injEq] at e
    obtain ⟨rfl, rfl, rfl⟩ := e
    have hl := (h.own.lt g rfl).2
    obtain ⟨s1, s2, s3⟩ := scells_at ss k hk
    exact ⟨g, rfl, (hf.cell (p := ⟨g, k * 3, none⟩) hl (fun h => h)).trans ((h.own.cellAt (k * 3) (by omega)).trans s1), (hf.cell (p := ⟨g, k * 3 + 1, none⟩) hl (fun h => h)).trans ((h.own.cellAt (k * 3 + 1) (by omega)).trans s2), (hf.cell (p := ⟨g, k * 3 + 2, none⟩) hl (fun h => h)).trans ((h.own.cellAt (k * 3 + 2) (by omega)).trans s3)⟩
theorem OT.lit {w w1 : World} (hF0 : Fr (fun _ => False) w w1) (la : Option Addr) (ln lc : Nat) (ra : Option Addr) (rn rc : Nat) (b : Bool) (W : World) (hW : w1.alloc (.cells #[.slice la ln lc, .slice ra rn rc, .bool b] 121) = W) : OT w W (.slice (some ⟨w1.heap.size, 0, none⟩) 1 1) [(.slice la ln lc, .slice ra rn rc, b)] := by
  have hF : Fr (fun _ => False) w1 W := by rw [← hW]; exact (Fr.refl _ _).alloc _
  refine ⟨?_, hF0.trans hF (fun _ _ h => h)⟩
  have := World.ownsRow_lit (e := 121) (size := 3) w1 #[.slice la ln lc, .slice ra rn rc, .bool b] 1 (Nat.le_refl _) (by simp only [maxLen]; omega) rfl
  rw [hW] at this
  refine ⟨this.1, ?_⟩
  rcases this.2 with h0 | ⟨g, cap, cur, e1, e2, e3⟩
  · exact .inl h0
  · exact .inr ⟨g, cap, cur, e1, Nat.le_trans hF0.size e2, e3⟩
end Go.Proofs.YtjokmlnghpnlbaaDoor

namespace Go.Proofs.YtjokmlnghpnlbaaDoor
open Go.RowKit

set_option maxRecDepth 100000 in
set_option maxHeartbeats 1000000 in
/-- The document's wide. -/
theorem gwide_any (j : Int) (x : Value) (vs : List Value) (ps : List (List Nat)) (w : World) (hp : Pcs w x vs ps) (hn : ps.length < 4611686018427387904) :
    Calls Tryd.prog 81 #[.int .i64 j, x] w fun e w' => e = .returned (.bool (wdq j ps)) ∧ w' = w := by
  obtain ⟨xo, xc, rfl⟩ := hp.form
  have HG := hide (And.intro hp hn)
  clear hp hn
  generalize hN : ps.length = N at *
  go_enter Tryd.func81, Tryd.ntmps81
  go_wp2_with fail
  go_loopw [5] (fun iv wr => ∃ (k : Nat), k ≤ N ∧ iv = .int .i64 (k : Nat) ∧ wr = w ∧ wdq j (ps.take k) = true) (fun iv _ => N - (intOf iv).toNat)
  case atStart => exact ⟨0, Nat.zero_le _, rfl, rfl, by simp [wdq]⟩
  case round =>
    obtain ⟨k, hk, rfl, rfl, hw⟩ := hrel
    have hN8 := (unhide HG).2
    by_cases hlt : k < N
    · have hlt' : (k : Int) < (N : Int) := by omega
      have hke : k < ps.length := by omega
      obtain ⟨g, o, vo, vc, rfl, hcell, -⟩ := (unhide HG).1.nth (Fr.refl _ _) k hke
      by_cases he : (ps[k].length : Int) = j
      · have hw2 : wdq j (ps.take (k + 1)) = true := by rw [wdq_take j ps k hke, hw, decide_eq_true he]; rfl
        have HW := hide hw2
        clear hw2 hw
        have w1 : IntKind.i64.wrap ((k : Int) + 1) = (k : Int) + 1 := by rw [IntKind.wrap_i64]; omega
        have hee : ((ps[k].length : Int) == j) = true := by rw [he]; simp
        subst he
        generalize ps[k].length = EL at *
        go_wp2_with fail
        exact ⟨⟨k + 1, by omega, by go_num, by first | rfl | trivial, unhide HW⟩, by simp [intOf]; omega⟩
      · have hf := wdq_false j ps k hke he
        have HW := hide hf
        clear hf hw
        have hee : ((ps[k].length : Int) == j) = false := beq_false_of_ne he
        generalize ps[k].length = EL at *
        go_wp2_with fail
        go_ret
        exact ⟨by rw [unhide HW]; rfl, rfl⟩
    · have hkN : k = N := by omega
      have hlt' : ¬ (k : Int) < (N : Int) := by omega
      have htk : ps.take k = ps := List.take_of_length_le (by omega)
      rw [htk] at hw
      have HW := hide hw
      clear hw htk hkN
      go_wp2_with fail
      go_ret
      exact ⟨by rw [unhide HW]; rfl, rfl⟩
/-- The steps from the top down to an entry. -/
def stpv (wi : Nat) (leaf : List Nat) (f n i : Nat) (ps : List (List Nat)) : List (List Nat × List Nat × Bool) :=
  if _h : n < 2 then []
  else if i < f + hf n then (topv wi leaf f (hf n) i 1 ps.dropLast, ps.getLastD [], true) :: stpv wi leaf f (hf n) i ps.dropLast
  else (ps.getLastD [], topv wi leaf (f + hf n) (n - hf n) i 1 ps.dropLast, false) :: stpv wi leaf (f + hf n) (n - hf n) i ps.dropLast
termination_by n
decreasing_by
  · exact hf_lt n (by omega)
  · have := hf_pos n; omega
def StOk (w : World) (ss : List (Value × Value × Bool)) (ts : List (List Nat × List Nat × Bool)) : Prop :=
  ss.length = ts.length ∧ ∀ (j : Nat) s t, ss[j]? = some s → ts[j]? = some t → Sl w s.1 t.1 ∧ Sl w s.2.1 t.2.1 ∧ s.2.2 = t.2.2
theorem StOk.nil (w : World) : StOk w [] [] := ⟨rfl, fun j s t h => by simp at h⟩
theorem StOk.fr0 {w w' : World} {ss : List (Value × Value × Bool)} {ts : List (List Nat × List Nat × Bool)} (h : StOk w ss ts) (hf : Fr (fun _ => False) w w') : StOk w' ss ts :=
  ⟨h.1, fun j s t hs ht => ⟨(h.2 j s t hs ht).1.fr0 hf, (h.2 j s t hs ht).2.1.fr0 hf, (h.2 j s t hs ht).2.2⟩⟩
theorem StOk.cons {w : World} {s : Value × Value × Bool} {t : List Nat × List Nat × Bool} {ss : List (Value × Value × Bool)} {ts : List (List Nat × List Nat × Bool)} (h1 : Sl w s.1 t.1) (h2 : Sl w s.2.1 t.2.1) (h3 : s.2.2 = t.2.2) (h : StOk w ss ts) : StOk w (s :: ss) (t :: ts) :=
  ⟨by simp [h.1], fun j s' t' hs ht => by
    match j with
    | 0 => simp at hs ht; subst hs ht; exact ⟨h1, h2, h3⟩
    | j + 1 => simp at hs ht; exact h.2 j s' t' hs ht⟩
theorem StOk.form {w : World} {ss : List (Value × Value × Bool)} {ts : List (List Nat × List Nat × Bool)} (h : StOk w ss ts) (k : Nat) (hk : k < ss.length) : ∃ la ln lc ra rn rc, ss[k] = (.slice la ln lc, .slice ra rn rc, ss[k].2.2) := by
  obtain ⟨h1, h2, _⟩ := h.2 k ss[k] (ts[k]'(by rw [← h.1]; exact hk)) (List.getElem?_eq_getElem hk) (List.getElem?_eq_getElem _)
  obtain ⟨a, c, e1⟩ := h1.form
  obtain ⟨b, d, e2⟩ := h2.form
  exact ⟨a, _, c, b, _, d, by rw [← e1, ← e2]⟩
def ClSays (wi : Nat) (leaf : List Nat) (lv : Value) (f n i : Nat) (ps : List (List Nat)) (x : Value) (w : World) : Prop :=
  Calls Tryd.prog 82 #[.int .i64 wi, lv, .int .i64 ((i - f : Nat) : Int), .int .i64 n, x] w fun e w' =>
    (ps.length = dep f n i 1 → ∃ ho hn hc so sc ss, e = .returned (.tuple #[.slice ho hn hc, .slice so ss.length sc, .bool true]) ∧ Sl w' (.slice ho hn hc) (topv wi leaf f n i 1 ps) ∧ OT w w' (.slice so ss.length sc) ss ∧ StOk w' ss (stpv wi leaf f n i ps)) ∧
    (¬ ps.length = dep f n i 1 → ∃ ho hn hc, e = .returned (.tuple #[.slice ho hn hc, .slice none 0 0, .bool false])) ∧ Fr (fun _ => False) w w'
set_option maxRecDepth 100000 in
set_option maxHeartbeats 1000000 in
theorem climb_one (wi : Nat) (leaf : List Nat) (lv : Value) (f i : Nat) (ps : List (List Nat)) (vs : List Value) (x : Value) (w : World) (hl : Sl w lv leaf) (hp : Pcs w x vs ps) (hi : f = i) : ClSays wi leaf lv f 1 i ps x w := by
  unfold ClSays
  subst hi
  rw [dep_eq, topv_eq]
  have hst : stpv wi leaf f 1 f ps = [] := by rw [stpv, dif_pos (by decide)]
  rw [hst, Nat.sub_self]
  obtain ⟨lo, lc, rfl⟩ := hl.form
  obtain ⟨xo, xc, rfl⟩ := hp.form
  have HL := hide hl
  clear hl hp hst
  have e0 : ((0 : Nat) : Int) = 0 := rfl
  have e1 : ((1 : Nat) : Int) = 1 := rfl
  simp only [e0, e1]
  clear e0 e1
  generalize leaf.length = LN at *
  by_cases h0 : ps.length = 0
  · rw [h0]
    go_enter Tryd.func82, Tryd.ntmps82
    go_wp2_with fail
    go_returns
    exact ⟨fun _ => ⟨lo, LN, lc, none, 0, [], rfl, unhide HL, OT.nil _, StOk.nil _⟩, fun h => by first | exact absurd rfl h | exact absurd trivial h, Fr.refl _ _⟩
  · have q1 : ((ps.length : Int) == 0) = false := beq_false_of_ne (by omega)
    generalize ps.length = PN at *
    go_enter Tryd.func82, Tryd.ntmps82
    go_wp2_with fail
    go_returns
    exact ⟨fun h => absurd h h0, fun _ => ⟨lo, LN, lc, rfl⟩, Fr.refl _ _⟩
set_option maxRecDepth 100000 in
set_option maxHeartbeats 1000000 in
theorem climb_short (wi : Nat) (leaf : List Nat) (lv : Value) (f n i : Nat) (vs : List Value) (x : Value) (w : World) (hl : Sl w lv leaf) (hp : Pcs w x vs []) (h2 : 2 ≤ n) (hd : ¬ 0 = dep f n i 1) : ClSays wi leaf lv f n i [] x w := by
  unfold ClSays
  obtain ⟨lo, lc, rfl⟩ := hl.form
  obtain ⟨xo, xc, rfl⟩ := hp.form
  clear hl hp
  simp only [List.length_nil]
  have q1 : ((n : Int) == 1) = false := beq_false_of_ne (by omega)
  have q2 : ¬ n = 1 := by omega
  generalize leaf.length = LN at *
  generalize i - f = I at *
  go_enter Tryd.func82, Tryd.ntmps82
  go_wp2_with fail
  go_returns
  exact ⟨fun h => absurd h hd, fun _ => ⟨none, 0, 0, rfl⟩, Fr.refl _ _⟩
end Go.Proofs.YtjokmlnghpnlbaaDoor

namespace Go.Proofs.YtjokmlnghpnlbaaDoor
open Go.RowKit

theorem box3s (w : World) (a b c : Value) (ty : Nat) (W : World) (hW : w.alloc (.cells #[a, b, c] ty) = W) : W.cell? ⟨w.heap.size, 0, none⟩ = some a ∧ W.cell? ⟨w.heap.size, 1, none⟩ = some b ∧ W.cell? ⟨w.heap.size, 2, none⟩ = some c ∧ Fr (fun _ => False) w W := by
  subst hW
  have hc : ∀ j, (w.alloc (.cells #[a, b, c] ty)).cell? ⟨w.heap.size, j, none⟩ = (#[a, b, c] : Array Value)[j]? := fun j => World.cell?_alloc_at _ _ _ _ rfl
  exact ⟨hc 0, hc 1, hc 2, (Fr.refl _ _).alloc _⟩
theorem stpv_len (wi : Nat) (leaf : List Nat) (m : Nat) : ∀ f n i (ps : List (List Nat)), n ≤ m → (stpv wi leaf f n i ps).length = dep f n i 1 := by
  induction m with
  | zero => intro f n i ps h; rw [stpv, dif_pos (by omega), dep, dif_pos (by omega)]; rfl
  | succ m ih =>
    intro f n i ps h
    by_cases h2 : n < 2
    · rw [stpv, dif_pos h2, dep, dif_pos (by omega)]; rfl
    · have hlt := hf_lt n (by omega)
      have hpos := hf_pos n
      by_cases hi : i < f + hf n
      · rw [stpv, dif_neg h2, if_pos hi, dep_l (by omega) (by omega) hi, List.length_cons, ih _ _ _ _ (by omega)]
      · rw [stpv, dif_neg h2, if_neg hi, dep_r (by omega) (by omega) hi, List.length_cons, ih _ _ _ _ (by omega)]
set_option maxRecDepth 100000 in
set_option maxHeartbeats 4000000 in
/-- A step down to the left. -/
theorem climb_left (wi : Nat) (hw1 : 1 ≤ wi) (hw32 : wi ≤ 32) (leaf : List Nat) (lo : Option Addr) (ln lc : Nat) (f n i D : Nat) (ps : List (List Nat)) (vs : List Value) (g o xc : Nat) (w : World) (hr : GR w) (hp : Pcs w (.slice (some ⟨g, o, none⟩) (D + 1) xc) vs ps) (hcap : D + 1 ≤ xc) (hlen : ps.length = D + 1) (hD8 : D < 8000000) (h2 : 2 ≤ n) (hn : n < 9223372036854775808) (hfi : f ≤ i) (hi : i < f + hf n) (hll : leaf.length = wi) (hpw : ∀ p ∈ ps, p.length = wi)
    (ih : ∀ w', Fr (fun _ => False) w w' → ClSays wi leaf (.slice lo ln lc) f (hf n) i (ps.take D) (.slice (some ⟨g, o, none⟩) D xc) w') : ClSays wi leaf (.slice lo ln lc) f n i ps (.slice (some ⟨g, o, none⟩) (D + 1) xc) w := by
  have hlt := hf_lt n h2
  have hpos := hf_pos n
  obtain ⟨g', o', vo, vc, eg, hcell, hsl⟩ := hp.nth (Fr.refl _ _) D (by omega)
  cases eg
  have hdl : ps.dropLast = ps.take D := by rw [List.dropLast_eq_take, hlen]; rfl
  have hgl : ps.getLastD [] = ps[D] := getLastD_at ps D hlen
  have hne : ¬ (f = i ∧ n = 1) := by omega
  have hdp := dep_l h2 hne hi
  have htv := topv_l (wi := wi) (r := leaf) (p := ps) h2 hne hi
  have hst : stpv wi leaf f n i ps = (topv wi leaf f (hf n) i 1 ps.dropLast, ps.getLastD [], true) :: stpv wi leaf f (hf n) i ps.dropLast := by
    conv => lhs; rw [stpv, dif_neg (by omega), if_pos hi]
  rw [hdl, hgl] at htv hst
  have hTw := topv_wid wi hw1 hw32 leaf hll _ f (hf n) i 1 (ps.take D) (Nat.le_refl _)
  have hAw := hpw ps[D] (List.getElem_mem _)
  have htl : (ps.take D).length = D := by rw [List.length_take]; omega
  have hha := half_any n w hn h2
  have hI : i - f < hf n := by omega
  have hSL := stpv_len wi leaf _ f (hf n) i (ps.take D) (Nat.le_refl _)
  unfold ClSays at ih ⊢
  rw [hdp, htv, hst]
  rw [htl] at ih
  rw [hAw] at hcell hsl
  generalize topv wi leaf f (hf n) i 1 (ps.take D) = T at *
  generalize ps[D] = A at *
  generalize stpv wi leaf f (hf n) i (ps.take D) = SS at *
  generalize dep f (hf n) i 1 = DD at *
  rw [hlen]
  have hnd := nd_len wi hw1 hw32 T A
  have hnode : ∀ w' x y, GR w' → Sl w' x T → Sl w' y A → Calls Tryd.prog 52 #[.int .i64 wi, x, y] w' fun e w'' => ∃ yo yc, e = .returned (.slice yo wi yc) ∧ Sl w'' (.slice yo wi yc) (nd wi T A) ∧ Fr (fun _ => False) w' w'' := fun w' x y h1 h2 h3 => by
    refine (gnode_any (wi : Int) x y T A w' h1 h2.s h3.s h2.b h3.b (by omega) (by omega)).mono ?_
    rintro e w'' ⟨yo, yc, rfl, hO⟩
    have hs := hO.sl (nd_lt _ _ _)
    rw [hnd] at hs ⊢
    exact ⟨yo, yc, rfl, hs, hO.fr⟩
  have q1 : ((n : Int) == 1) = false := beq_false_of_ne (by omega)
  have q2 : ¬ n = 1 := by omega
  have q3 : (((D : Int) + 1) == 0) = false := beq_false_of_ne (by omega)
  have q4 : ¬ (D : Int) + 1 = 0 := by omega
  have q5 : IntKind.i64.wrap ((D : Int) + 1 - 1) = (D : Int) := by rw [IntKind.wrap_i64]; omega
  have q6 : (D : Int) < (D : Int) + 1 := by omega
  have q7 : (D : Int) ≤ (xc : Int) := by omega
  have q8 : ((i - f : Nat) : Int) < ((hf n : Nat) : Int) := by omega
  have HC := hide (And.intro hha (And.intro ih (And.intro hnode (And.intro hr (And.intro hsl hSL)))))
  clear hha ih hnode hr hsl hSL hp hTw hAw htl hnd hdp htv hst hdl hgl hpw hll hlen hne hi hfi hlt hpos h2 hn
  generalize i - f = I at *
  generalize hf n = K at *
  go_enter Tryd.func82, Tryd.ntmps82
  go_wp2_with fail
  refine (unhide HC).1.mono ?_
  rintro e w0 ⟨rfl, rfl⟩
  go_wp2_with fail
  refine ((unhide HC).2.1 _ (by first | exact Fr.refl _ _ | exact (Fr.refl _ _).drew)).mono ?_
  rintro e w1 ⟨hA, hB, hF⟩
  by_cases hd : D = DD
  · obtain ⟨ho, hn, hc, so, sc, ss, rfl, hS, hO, hK⟩ := hA hd
    have hsl' : ss.length = SS.length := hK.1
    have H1 := hide (And.intro hS (And.intro hO (And.intro hK (And.intro hF (And.intro hd hsl')))))
    clear hA hB hS hO hK hF hd hsl'
    go_wp2_with fail
    obtain ⟨W2, hW2⟩ : ∃ W2, w1.alloc (.cells #[.slice ho hn hc, .slice vo wi vc, .bool true] 121) = W2 := ⟨_, rfl⟩
    rw [hW2]
    obtain ⟨z0, z1, z2, hF2⟩ := box3s w1 _ _ _ _ W2 hW2
    obtain ⟨W3, hW3⟩ : ∃ W3, W2.alloc (.cells #[.slice ho hn hc, .slice vo wi vc, .bool true] 121) = W3 := ⟨_, rfl⟩
    rw [hW3]
    have hsz : w1.heap.size + 1 = W2.heap.size := by rw [← hW2]; simp
    rw [hsz]
    have hT0 := OT.lit (Fr.refl _ W2) ho hn hc vo wi vc true W3 hW3
    have HZ := hide (And.intro z0 (And.intro z1 (And.intro z2 (And.intro hF2 hT0))))
    clear z0 z1 z2 hF2 hT0 hW2 hW3 hsz
    generalize w1.heap.size = P at *
    generalize hSN : ss.length = SN at *
    go_loopw [22, 23] (fun dv iv wr => ∃ (k : Nat), k ≤ SN ∧ iv = .int .i64 (k : Nat) ∧ OT W2 wr dv ((.slice ho hn hc, .slice vo wi vc, true) :: ss.take k)) (fun _ iv _ => SN - (intOf iv).toNat)
    case atStart => exact ⟨0, Nat.zero_le _, rfl, (unhide HZ).2.2.2.2⟩
    case round =>
      obtain ⟨k, hk, rfl, hT⟩ := hrel
      have hSD : SN = D := by have h1 := (unhide H1).2.2.2.2.2; have h2 := (unhide HC).2.2.2.2.2; have h3 := (unhide H1).2.2.2.2.1; omega
      have htl : (((Value.slice ho hn hc, Value.slice vo wi vc, true) :: ss.take k) : List (Value × Value × Bool)).length = k + 1 := by rw [List.length_cons, List.length_take]; omega
      by_cases hlt : k < SN
      · have hlt' : (k : Int) < (SN : Int) := by omega
        have hks : k < ss.length := by omega
        have hF1r : Fr (fun _ => False) w1 wr := (unhide HZ).2.2.2.1.trans hT.fr (fun _ _ h => h)
        obtain ⟨g2, rfl, e0, e1, e2⟩ := (unhide H1).2.1.cell hF1r k hks
        obtain ⟨la, ln', lc', ra, rn, rc, es⟩ := (unhide H1).2.2.1.form k hks
        have htk : ss.take (k + 1) = ss.take k ++ [ss[k]] := by rw [List.take_add_one, List.getElem?_eq_getElem hks]; rfl
        generalize ss[k].2.2 = b at *
        rw [es] at e0 e1 htk
        simp only at e0 e1
        obtain ⟨ao, cap, w', hr, hown, hgrow⟩ := app_step wr W2.heap.size _ _ la ln' lc' ra rn rc b hT.own (by rw [htl]; omega) hT.fr.size
        obtain ⟨da, dc, rfl⟩ := hT.form
        rw [htl] at hr hown
        have hT2 : OT W2 w' (.slice ao (k + 1 + 1) cap) ((.slice ho hn hc, .slice vo wi vc, true) :: ss.take (k + 1)) := by
          refine ⟨?_, (hT.fr.alloc _).grown hgrow (fun g hg => .inr (hT.own.lt g hg).1)⟩
          have e : (((Value.slice ho hn hc, Value.slice vo wi vc, true) :: ss.take (k + 1)) : List (Value × Value × Bool)).length = k + 1 + 1 := by rw [List.length_cons, List.length_take]; omega
          rw [e, htk, ← List.cons_append]
          exact hown
        have w1' : IntKind.i64.wrap ((k : Int) + 1) = (k : Int) + 1 := by rw [IntKind.wrap_i64]; omega
        have HR := hide hr
        have HT := hide hT2
        have hk8 : k < 8000000 := by omega
        clear hr hown hgrow hT hT2 htk es hF1r hSD
        rw [htl]
        clear htl
        go_wp2_with (at_builtin; refine wpList_app rfl (.tmp 86) (.tmp 91) 105 105 rfl _ _ _ rfl rfl (unhide HR) ?_)
        exact ⟨⟨k + 1, by omega, by go_num, unhide HT⟩, by simp [intOf]; omega⟩
      · have hlt' : ¬ (k : Int) < (SN : Int) := by omega
        rw [List.take_of_length_le (by omega)] at hT htl
        have c0 := (hT.fr.cell (lt_of_cell (unhide HZ).1) (fun h => h)).trans (unhide HZ).1
        have c1 := (hT.fr.cell (lt_of_cell (unhide HZ).2.1) (fun h => h)).trans (unhide HZ).2.1
        obtain ⟨da, dc, rfl⟩ := hT.form
        have hFw : Fr (fun _ => False) w1 wr := (unhide HZ).2.2.2.1.trans hT.fr (fun _ _ h => h)
        have HT := hide (And.intro hT (And.intro hFw htl))
        rw [htl]
        clear hT htl hFw hSD
        go_wp2_with fail
        refine ((unhide HC).2.2.1 wr _ _ ((unhide HC).2.2.2.1.fr0 ((unhide H1).2.2.2.1.trans (unhide HT).2.1 (fun _ _ h => h))) ((unhide H1).1.fr0 (unhide HT).2.1) ((unhide HC).2.2.2.2.1.fr0 ((unhide H1).2.2.2.1.trans (unhide HT).2.1 (fun _ _ h => h)))).mono ?_
        rintro e w5 ⟨yo, yc, rfl, hS5, hF5⟩
        have H5 := hide (And.intro hS5 hF5)
        clear hS5 hF5
        go_wp2_with fail
        go_returns
        have hF15 := (unhide HT).2.1.trans (unhide H5).2 (fun _ _ h => h)
        have hF05 := (unhide H1).2.2.2.1.trans hF15 (fun _ _ h => h)
        refine ⟨fun _ => ⟨yo, wi, yc, da, dc, (.slice ho hn hc, .slice vo wi vc, true) :: ss, by rw [(unhide HT).2.2]; rfl, (unhide H5).1, ?_, ?_⟩, fun h => absurd (by have := (unhide H1).2.2.2.2.1; omega) h, hF05⟩
        · exact ((unhide HT).1.fr0 (unhide H5).2).base ((unhide H1).2.2.2.1.trans (unhide HZ).2.2.2.1 (fun _ _ h => h))
        · exact StOk.cons ((unhide H1).1.fr0 hF15) ((unhide HC).2.2.2.2.1.fr0 hF05) rfl ((unhide H1).2.2.1.fr0 hF15)
  · obtain ⟨ho, hn, hc, rfl⟩ := hB hd
    have H1 := hide (And.intro hF hd)
    clear hA hB hF hd
    go_wp2_with fail
    go_returns
    exact ⟨fun h => absurd (by omega) (unhide H1).2, fun _ => ⟨none, 0, 0, rfl⟩, (unhide H1).1⟩
end Go.Proofs.YtjokmlnghpnlbaaDoor

namespace Go.Proofs.YtjokmlnghpnlbaaDoor
open Go.RowKit

set_option maxRecDepth 100000 in
set_option maxHeartbeats 4000000 in
/-- A step down to the right. -/
theorem climb_right (wi : Nat) (hw1 : 1 ≤ wi) (hw32 : wi ≤ 32) (leaf : List Nat) (lo : Option Addr) (ln lc : Nat) (f n i D : Nat) (ps : List (List Nat)) (vs : List Value) (g o xc : Nat) (w : World) (hr : GR w) (hp : Pcs w (.slice (some ⟨g, o, none⟩) (D + 1) xc) vs ps) (hcap : D + 1 ≤ xc) (hlen : ps.length = D + 1) (hD8 : D < 8000000) (h2 : 2 ≤ n) (hn : n < 9223372036854775808) (hin : i < f + n) (hi : ¬ i < f + hf n) (hll : leaf.length = wi) (hpw : ∀ p ∈ ps, p.length = wi)
    (ih : ∀ w', Fr (fun _ => False) w w' → ClSays wi leaf (.slice lo ln lc) (f + hf n) (n - hf n) i (ps.take D) (.slice (some ⟨g, o, none⟩) D xc) w') : ClSays wi leaf (.slice lo ln lc) f n i ps (.slice (some ⟨g, o, none⟩) (D + 1) xc) w := by
  have hlt := hf_lt n h2
  have hpos := hf_pos n
  obtain ⟨g', o', vo, vc, eg, hcell, hsl⟩ := hp.nth (Fr.refl _ _) D (by omega)
  cases eg
  have hdl : ps.dropLast = ps.take D := by rw [List.dropLast_eq_take, hlen]; rfl
  have hgl : ps.getLastD [] = ps[D] := getLastD_at ps D hlen
  have hne : ¬ (f = i ∧ n = 1) := by omega
  have hdp := dep_r h2 hne hi
  have htv := topv_r (wi := wi) (r := leaf) (p := ps) h2 hne hi
  have hst : stpv wi leaf f n i ps = (ps.getLastD [], topv wi leaf (f + hf n) (n - hf n) i 1 ps.dropLast, false) :: stpv wi leaf (f + hf n) (n - hf n) i ps.dropLast := by
    conv => lhs; rw [stpv, dif_neg (by omega), if_neg hi]
  rw [hdl, hgl] at htv hst
  have hTw := topv_wid wi hw1 hw32 leaf hll _ (f + hf n) (n - hf n) i 1 (ps.take D) (Nat.le_refl _)
  have hAw := hpw ps[D] (List.getElem_mem _)
  have htl : (ps.take D).length = D := by rw [List.length_take]; omega
  have hha := half_any n w hn h2
  have hI : i - (f + hf n) = (i - f) - hf n := by omega
  have hI2 : hf n ≤ i - f := by omega
  have hI3 : i - f < n := by omega
  have hSL := stpv_len wi leaf _ (f + hf n) (n - hf n) i (ps.take D) (Nat.le_refl _)
  unfold ClSays at ih ⊢
  rw [hdp, htv, hst]
  rw [htl, hI] at ih
  rw [hAw] at hcell hsl
  generalize topv wi leaf (f + hf n) (n - hf n) i 1 (ps.take D) = T at *
  generalize ps[D] = A at *
  generalize stpv wi leaf (f + hf n) (n - hf n) i (ps.take D) = SS at *
  generalize dep (f + hf n) (n - hf n) i 1 = DD at *
  rw [hlen]
  have hnd := nd_len wi hw1 hw32 A T
  have hnode : ∀ w' x y, GR w' → Sl w' x A → Sl w' y T → Calls Tryd.prog 52 #[.int .i64 wi, x, y] w' fun e w'' => ∃ yo yc, e = .returned (.slice yo wi yc) ∧ Sl w'' (.slice yo wi yc) (nd wi A T) ∧ Fr (fun _ => False) w' w'' := fun w' x y h1 h2 h3 => by
    refine (gnode_any (wi : Int) x y A T w' h1 h2.s h3.s h2.b h3.b (by omega) (by omega)).mono ?_
    rintro e w'' ⟨yo, yc, rfl, hO⟩
    have hs := hO.sl (nd_lt _ _ _)
    rw [hnd] at hs ⊢
    exact ⟨yo, yc, rfl, hs, hO.fr⟩
  have q1 : ((n : Int) == 1) = false := beq_false_of_ne (by omega)
  have q2 : ¬ n = 1 := by omega
  have q3 : (((D : Int) + 1) == 0) = false := beq_false_of_ne (by omega)
  have q4 : ¬ (D : Int) + 1 = 0 := by omega
  have q5 : IntKind.i64.wrap ((D : Int) + 1 - 1) = (D : Int) := by rw [IntKind.wrap_i64]; omega
  have q6 : (D : Int) < (D : Int) + 1 := by omega
  have q7 : (D : Int) ≤ (xc : Int) := by omega
  have q8 : ¬ ((i - f : Nat) : Int) < ((hf n : Nat) : Int) := by omega
  have q9 : ¬ i - f < hf n := by omega
  have q10 : IntKind.i64.wrap (((i - f : Nat) : Int) - ((hf n : Nat) : Int)) = (((i - f) - hf n : Nat) : Int) := by rw [IntKind.wrap_i64]; omega
  have q11 : IntKind.i64.wrap ((n : Int) - ((hf n : Nat) : Int)) = ((n - hf n : Nat) : Int) := by rw [IntKind.wrap_i64]; omega
  have HC := hide (And.intro hha (And.intro ih (And.intro hnode (And.intro hr (And.intro hsl hSL)))))
  clear hha ih hnode hr hsl hSL hp hTw hAw htl hnd hdp htv hst hdl hgl hpw hll hlen hne hi hin hlt hpos h2 hn hI hI2 hI3
  generalize (i - f) - hf n = IK at *
  generalize n - hf n = NK at *
  generalize i - f = I at *
  generalize hf n = K at *
  go_enter Tryd.func82, Tryd.ntmps82
  go_wp2_with fail
  refine (unhide HC).1.mono ?_
  rintro e w0 ⟨rfl, rfl⟩
  go_wp2_with fail
  refine ((unhide HC).2.1 _ (by first | exact Fr.refl _ _ | exact (Fr.refl _ _).drew)).mono ?_
  rintro e w1 ⟨hA, hB, hF⟩
  by_cases hd : D = DD
  · obtain ⟨ho, hn, hc, so, sc, ss, rfl, hS, hO, hK⟩ := hA hd
    have hsl' : ss.length = SS.length := hK.1
    have H1 := hide (And.intro hS (And.intro hO (And.intro hK (And.intro hF (And.intro hd hsl')))))
    clear hA hB hS hO hK hF hd hsl'
    go_wp2_with fail
    obtain ⟨W2, hW2⟩ : ∃ W2, w1.alloc (.cells #[.slice vo wi vc, .slice ho hn hc, .bool false] 121) = W2 := ⟨_, rfl⟩
    rw [hW2]
    obtain ⟨z0, z1, z2, hF2⟩ := box3s w1 _ _ _ _ W2 hW2
    obtain ⟨W3, hW3⟩ : ∃ W3, W2.alloc (.cells #[.slice vo wi vc, .slice ho hn hc, .bool false] 121) = W3 := ⟨_, rfl⟩
    rw [hW3]
    have hsz : w1.heap.size + 1 = W2.heap.size := by rw [← hW2]; simp
    rw [hsz]
    have hT0 := OT.lit (Fr.refl _ W2) vo wi vc ho hn hc false W3 hW3
    have HZ := hide (And.intro z0 (And.intro z1 (And.intro z2 (And.intro hF2 hT0))))
    clear z0 z1 z2 hF2 hT0 hW2 hW3 hsz
    generalize w1.heap.size = P at *
    generalize hSN : ss.length = SN at *
    go_loopw [22, 23] (fun dv iv wr => ∃ (k : Nat), k ≤ SN ∧ iv = .int .i64 (k : Nat) ∧ OT W2 wr dv ((.slice vo wi vc, .slice ho hn hc, false) :: ss.take k)) (fun _ iv _ => SN - (intOf iv).toNat)
    case atStart => exact ⟨0, Nat.zero_le _, rfl, (unhide HZ).2.2.2.2⟩
    case round =>
      obtain ⟨k, hk, rfl, hT⟩ := hrel
      have hSD : SN = D := by have h1 := (unhide H1).2.2.2.2.2; have h2 := (unhide HC).2.2.2.2.2; have h3 := (unhide H1).2.2.2.2.1; omega
      have htl : (((Value.slice vo wi vc, Value.slice ho hn hc, false) :: ss.take k) : List (Value × Value × Bool)).length = k + 1 := by rw [List.length_cons, List.length_take]; omega
      by_cases hlt : k < SN
      · have hlt' : (k : Int) < (SN : Int) := by omega
        have hks : k < ss.length := by omega
        have hF1r : Fr (fun _ => False) w1 wr := (unhide HZ).2.2.2.1.trans hT.fr (fun _ _ h => h)
        obtain ⟨g2, rfl, e0, e1, e2⟩ := (unhide H1).2.1.cell hF1r k hks
        obtain ⟨la, ln', lc', ra, rn, rc, es⟩ := (unhide H1).2.2.1.form k hks
        have htk : ss.take (k + 1) = ss.take k ++ [ss[k]] := by rw [List.take_add_one, List.getElem?_eq_getElem hks]; rfl
        generalize ss[k].2.2 = b at *
        rw [es] at e0 e1 htk
        simp only at e0 e1
        obtain ⟨ao, cap, w', hr, hown, hgrow⟩ := app_step wr W2.heap.size _ _ la ln' lc' ra rn rc b hT.own (by rw [htl]; omega) hT.fr.size
        obtain ⟨da, dc, rfl⟩ := hT.form
        rw [htl] at hr hown
        have hT2 : OT W2 w' (.slice ao (k + 1 + 1) cap) ((.slice vo wi vc, .slice ho hn hc, false) :: ss.take (k + 1)) := by
          refine ⟨?_, (hT.fr.alloc _).grown hgrow (fun g hg => .inr (hT.own.lt g hg).1)⟩
          have e : (((Value.slice vo wi vc, Value.slice ho hn hc, false) :: ss.take (k + 1)) : List (Value × Value × Bool)).length = k + 1 + 1 := by rw [List.length_cons, List.length_take]; omega
          rw [e, htk, ← List.cons_append]
          exact hown
        have w1' : IntKind.i64.wrap ((k : Int) + 1) = (k : Int) + 1 := by rw [IntKind.wrap_i64]; omega
        have HR := hide hr
        have HT := hide hT2
        have hk8 : k < 8000000 := by omega
        clear hr hown hgrow hT hT2 htk es hF1r hSD
        rw [htl]
        clear htl
        go_wp2_with (at_builtin; refine wpList_app rfl (.tmp 86) (.tmp 91) 105 105 rfl _ _ _ rfl rfl (unhide HR) ?_)
        exact ⟨⟨k + 1, by omega, by go_num, unhide HT⟩, by simp [intOf]; omega⟩
      · have hlt' : ¬ (k : Int) < (SN : Int) := by omega
        rw [List.take_of_length_le (by omega)] at hT htl
        have c0 := (hT.fr.cell (lt_of_cell (unhide HZ).1) (fun h => h)).trans (unhide HZ).1
        have c1 := (hT.fr.cell (lt_of_cell (unhide HZ).2.1) (fun h => h)).trans (unhide HZ).2.1
        obtain ⟨da, dc, rfl⟩ := hT.form
        have hFw : Fr (fun _ => False) w1 wr := (unhide HZ).2.2.2.1.trans hT.fr (fun _ _ h => h)
        have HT := hide (And.intro hT (And.intro hFw htl))
        rw [htl]
        clear hT htl hFw hSD
        go_wp2_with fail
        refine ((unhide HC).2.2.1 wr _ _ ((unhide HC).2.2.2.1.fr0 ((unhide H1).2.2.2.1.trans (unhide HT).2.1 (fun _ _ h => h))) ((unhide HC).2.2.2.2.1.fr0 ((unhide H1).2.2.2.1.trans (unhide HT).2.1 (fun _ _ h => h))) ((unhide H1).1.fr0 (unhide HT).2.1)).mono ?_
        rintro e w5 ⟨yo, yc, rfl, hS5, hF5⟩
        have H5 := hide (And.intro hS5 hF5)
        clear hS5 hF5
        go_wp2_with fail
        go_returns
        have hF15 := (unhide HT).2.1.trans (unhide H5).2 (fun _ _ h => h)
        have hF05 := (unhide H1).2.2.2.1.trans hF15 (fun _ _ h => h)
        refine ⟨fun _ => ⟨yo, wi, yc, da, dc, (.slice vo wi vc, .slice ho hn hc, false) :: ss, by rw [(unhide HT).2.2]; rfl, (unhide H5).1, ?_, ?_⟩, fun h => absurd (by have := (unhide H1).2.2.2.2.1; omega) h, hF05⟩
        · exact ((unhide HT).1.fr0 (unhide H5).2).base ((unhide H1).2.2.2.1.trans (unhide HZ).2.2.2.1 (fun _ _ h => h))
        · exact StOk.cons ((unhide HC).2.2.2.2.1.fr0 hF05) ((unhide H1).1.fr0 hF15) rfl ((unhide H1).2.2.1.fr0 hF15)
  · obtain ⟨ho, hn, hc, rfl⟩ := hB hd
    have H1 := hide (And.intro hF hd)
    clear hA hB hF hd
    go_wp2_with fail
    go_returns
    exact ⟨fun h => absurd (by omega) (unhide H1).2, fun _ => ⟨none, 0, 0, rfl⟩, (unhide H1).1⟩
/-- The document's climb. -/
theorem climb_any (wi : Nat) (hw1 : 1 ≤ wi) (hw32 : wi ≤ 32) (leaf : List Nat) (hll : leaf.length = wi) (lo : Option Addr) (ln lc : Nat) (m : Nat) : ∀ (f n i : Nat) (ps : List (List Nat)) (vs : List Value) (x : Value) (w : World), n ≤ m → 1 ≤ n → n < 9223372036854775808 → f ≤ i → i < f + n → GR w → Sl w (.slice lo ln lc) leaf → Pcs w x vs ps → Cp x → ps.length ≤ 8000000 → (∀ p ∈ ps, p.length = wi) → ClSays wi leaf (.slice lo ln lc) f n i ps x w := by
  induction m with
  | zero => intro f n i ps vs x w h h1; omega
  | succ m ih =>
    intro f n i ps vs x w h h1 hn hfi hin hr hl hp hcx hps hpw
    by_cases h2 : n = 1
    · subst h2
      exact climb_one wi leaf _ f i ps vs x w hl hp (by omega)
    · have hlt := hf_lt n (by omega)
      have hpos := hf_pos n
      by_cases h0 : ps = []
      · subst h0
        refine climb_short wi leaf _ f n i vs x w hl hp (by omega) ?_
        by_cases hi : i < f + hf n
        · rw [dep_l (by omega) (by omega) hi]; omega
        · rw [dep_r (by omega) (by omega) hi]; omega
      · obtain ⟨D, hD⟩ : ∃ D, ps.length = D + 1 := ⟨ps.length - 1, by have := List.length_pos_iff.2 h0; omega⟩
        obtain ⟨xo, xc, rfl⟩ := hp.form
        obtain ⟨g, o, v, rfl, -⟩ := hp.cell (Fr.refl _ _) 0 (by omega)
        have hcap : ps.length ≤ xc := hcx _ _ _ rfl
        rw [hD] at hp hcx hcap ⊢
        have hp' := hp.take D (by omega)
        have hcx' : Cp (.slice (some ⟨g, o, none⟩) D xc) := fun _ _ _ e => by cases e; omega
        have htl : (ps.take D).length ≤ 8000000 := by rw [List.length_take]; omega
        have hpw' : ∀ p ∈ ps.take D, p.length = wi := fun p h => hpw p (List.mem_of_mem_take h)
        by_cases hi : i < f + hf n
        · exact climb_left wi hw1 hw32 leaf lo ln lc f n i D ps vs g o xc w hr hp hcap hD (by omega) (by omega) hn hfi hi hll hpw (fun w' hf' => ih f (hf n) i _ _ _ w' (by omega) (by omega) (by omega) hfi hi (hr.fr0 hf') (hl.fr0 hf') (hp'.fr0 hf') hcx' htl hpw')
        · exact climb_right wi hw1 hw32 leaf lo ln lc f n i D ps vs g o xc w hr hp hcap hD (by omega) (by omega) hn hin hi hll hpw (fun w' hf' => ih (f + hf n) (n - hf n) i _ _ _ w' (by omega) (by omega) (by omega) (by omega) (by omega) (hr.fr0 hf') (hl.fr0 hf') (hp'.fr0 hf') hcx' htl hpw')
end Go.Proofs.YtjokmlnghpnlbaaDoor

namespace Go.Proofs.YtjokmlnghpnlbaaDoor
open Go.RowKit

theorem norm_id {a : List Nat} (h : ∀ v ∈ a, v < 256) : norm a = a := by
  rw [norm]
  conv => rhs; rw [← List.map_id a]
  exact List.map_congr_left (fun v hv => Nat.mod_eq_of_lt (h v hv))
theorem gsame_D {w : World} {x y : Value} {a b : List Nat} (hx : Sl w x a) (hy : Sl w y b) (ha : a.length ≤ 140737488355328) : Calls Tryd.prog 19 #[x, y] w fun e w' => e = .returned (.bool (decide (a = b))) ∧ Fr (fun _ => False) w w' := by
  refine (same_any x y a b w hx.s hy.s ha).mono ?_
  rintro e w' ⟨rfl, hn⟩
  refine ⟨?_, Fr.of_drewN hn⟩
  rw [sameB, norm_id hx.b, norm_id hy.b]
set_option maxRecDepth 100000 in
set_option maxHeartbeats 2000000 in
/-- The document's CheckPath. -/
theorem gcheckPath_any (j i n : Int) (lv rv x : Value) (leaf root : List Nat) (vs : List Value) (ps : List (List Nat)) (w : World) (hg_ : GR w) (hl : Sl w lv leaf) (hr : Sl w rv root) (hp : Pcs w x vs ps) (hcx : Cp x) (hn : n < 9223372036854775808) (hps : ps.length ≤ 8000000) :
    Calls Tryd.prog 56 #[.int .i64 j, lv, .int .i64 i, .int .i64 n, x, rv] w fun e w' => e = .returned (.bool (chkP j leaf i n ps root)) ∧ Fr (fun _ => False) w w' := by
  obtain ⟨lo, lc, rfl⟩ := hl.form
  obtain ⟨rr, rc, rfl⟩ := hr.form
  obtain ⟨xo, xc, rfl⟩ := hp.form
  by_cases h1o : j < 1 ∨ 32 < j
  · have h1 : ¬ (1 ≤ j ∧ j ≤ 32) := by omega
    have hB : chkP j leaf i n ps root = false := by rw [chkP, decide_eq_false h1]; rfl
    rw [hB]
    have HM := hide h1o
    clear hg_ hl hr hp hcx hn hps hB h1 h1o
    generalize leaf.length = LL at *
    generalize root.length = RL at *
    generalize ps.length = PL at *
    go_enter Tryd.func56, Tryd.ntmps56
    go_wp2_with fail
    refine (may_no j _ (unhide HM)).mono ?_
    rintro e' w0 ⟨rfl, rfl⟩
    go_wp2_with fail
    go_ret
    exact ⟨rfl, Fr.refl _ _⟩
  · have h1 : 1 ≤ j ∧ j ≤ 32 := by omega
    clear h1o
    have HM := hide h1
    by_cases h2' : i < 0
    · have h2 : ¬ 0 ≤ i := by omega
      have hB : chkP j leaf i n ps root = false := by rw [chkP, decide_eq_true h1, decide_eq_false h2]; rfl
      rw [hB]
      clear hg_ hl hr hp hcx hn hps hB h1
      generalize leaf.length = LL at *
      generalize root.length = RL at *
      generalize ps.length = PL at *
      go_enter Tryd.func56, Tryd.ntmps56
      go_wp2_with fail
      refine (may_yes j _ (unhide HM).1 (unhide HM).2).mono ?_
      rintro e' w0 ⟨rfl, rfl⟩
      go_wp2_with fail
      go_ret
      exact ⟨rfl, Fr.refl _ _⟩
    · have h2 : 0 ≤ i := by omega
      by_cases h3' : n ≤ i
      · have h3 : ¬ i < n := by omega
        have hB : chkP j leaf i n ps root = false := by rw [chkP, decide_eq_true h1, decide_eq_true h2, decide_eq_false h3]; rfl
        rw [hB]
        clear hg_ hl hr hp hcx hn hps hB h1
        generalize leaf.length = LL at *
        generalize root.length = RL at *
        generalize ps.length = PL at *
        go_enter Tryd.func56, Tryd.ntmps56
        go_wp2_with fail
        refine (may_yes j _ (unhide HM).1 (unhide HM).2).mono ?_
        rintro e' w0 ⟨rfl, rfl⟩
        go_wp2_with fail
        go_ret
        exact ⟨rfl, Fr.refl _ _⟩
      · have h3 : i < n := by omega
        have hce : chkP j leaf i n ps root = (wdq j [leaf, root] && (wdq j ps && (decide (ps.length = dep 0 n.toNat i.toNat 1) && decide (topv j.toNat leaf 0 n.toNat i.toNat 1 ps = root)))) := by
          rw [chkP, decide_eq_true h1, decide_eq_true h2, decide_eq_true h3]; rfl
        by_cases h4 : (leaf.length : Int) = j
        · by_cases h5 : (root.length : Int) = j
          · have hq1 : wdq j [leaf, root] = true := by simp [wdq, h4, h5]
            clear hce
            have hwd := gwide_any j _ vs ps w hp (by omega)
            obtain ⟨wi, rfl⟩ : ∃ k : Nat, j = (k : Int) := ⟨j.toNat, by omega⟩
            obtain ⟨I, rfl⟩ : ∃ k : Nat, i = (k : Int) := ⟨i.toNat, by omega⟩
            obtain ⟨N, rfl⟩ : ∃ k : Nat, n = (k : Int) := ⟨n.toNat, by omega⟩
            have hce : chkP wi leaf I N ps root = (wdq wi [leaf, root] && (wdq wi ps && (decide (ps.length = dep 0 N I 1) && decide (topv wi leaf 0 N I 1 ps = root)))) := by
              rw [chkP, decide_eq_true h1, decide_eq_true h2, decide_eq_true h3]; rfl
            rw [hce, hq1, Bool.true_and]
            clear hce hq1
            have h2'' : ¬ (I : Int) < 0 := by omega
            have h3'' : ¬ (N : Int) ≤ (I : Int) := by omega
            have h6 : ¬ N ≤ I := by omega
            have hlw : leaf.length = wi := by omega
            have hrw : root.length = wi := by omega
            rw [hlw] at hl ⊢
            rw [hrw] at hr ⊢
            cases hq2 : wdq wi ps with
            | false =>
              rw [hq2] at hwd
              rw [Bool.false_and]
              have HC := hide hwd
              clear hg_ hl hr hp hcx hn hps h1 h2 h3 hwd hq2 h4 h5 h2' h3' hlw hrw
              generalize ps.length = PL at *
              go_enter Tryd.func56, Tryd.ntmps56
              go_wp2_with fail
              refine (may_yes wi _ (unhide HM).1 (unhide HM).2).mono ?_
              rintro e' w0 ⟨rfl, rfl⟩
              go_wp2_with fail
              refine (unhide HC).mono ?_
              rintro e' w1 ⟨rfl, rfl⟩
              go_wp2_with fail
              go_ret
              exact ⟨rfl, Fr.refl _ _⟩
            | true =>
              rw [hq2] at hwd
              rw [Bool.true_and]
              have hpw : ∀ p ∈ ps, p.length = wi := fun p hp => by have := wdq_true hq2 p hp; omega
              have hcl := climb_any wi (by omega) (by omega) leaf hlw lo wi lc N 0 N I ps vs _ w (Nat.le_refl _) (by omega) (by omega) (by omega) (by omega) hg_ hl hp hcx hps hpw
              unfold ClSays at hcl
              rw [Nat.sub_zero] at hcl
              have hTw := topv_wid wi (by omega) (by omega) leaf hlw _ 0 N I 1 ps (Nat.le_refl _)
              generalize topv wi leaf 0 N I 1 ps = T at *
              generalize stpv wi leaf 0 N I ps = SS at *
              by_cases hd : ps.length = dep 0 N I 1
              · rw [decide_eq_true hd, Bool.true_and]
                obtain ⟨BB, hBB⟩ : ∃ BB, decide (T = root) = BB := ⟨_, rfl⟩
                rw [hBB]
                have HC := hide (And.intro hwd (And.intro hcl (And.intro hd (And.intro hr (And.intro hBB hTw)))))
                clear hg_ hl hr hp hcx hn hps h1 h2 h3 hwd hq2 h4 h5 h2' h3' hlw hrw hpw hcl hTw hBB hd
                generalize ps.length = PL at *
                go_enter Tryd.func56, Tryd.ntmps56
                go_wp2_with fail
                refine (may_yes wi _ (unhide HM).1 (unhide HM).2).mono ?_
                rintro e' w0 ⟨rfl, rfl⟩
                go_wp2_with fail
                refine (unhide HC).1.mono ?_
                rintro e' w1 ⟨rfl, rfl⟩
                go_wp2_with fail
                refine (unhide HC).2.1.mono ?_
                rintro e' w2 ⟨hA, -, hF⟩
                obtain ⟨ho, hn, hc, so, sc, ss, rfl, hS, -, -⟩ := hA (unhide HC).2.2.1
                have H1 := hide (And.intro hS hF)
                clear hA hS hF
                generalize ss.length = SN at *
                go_wp2_with fail
                refine (gsame_D (unhide H1).1 ((unhide HC).2.2.2.1.fr0 (unhide H1).2) (by have h1 := (unhide HC).2.2.2.2.2; have h2 := (unhide HM).2; omega)).mono ?_
                rintro e' w3 ⟨rfl, hF⟩
                rw [(unhide HC).2.2.2.2.1]
                have H2 := hide ((unhide H1).2.trans hF (fun _ _ h => h))
                clear hF
                go_wp2_with fail
                go_ret
                exact ⟨rfl, unhide H2⟩
              · rw [decide_eq_false hd, Bool.false_and]
                have HC := hide (And.intro hwd (And.intro hcl hd))
                clear hg_ hl hr hp hcx hn hps h1 h2 h3 hwd hq2 h4 h5 h2' h3' hlw hrw hpw hcl hTw hd
                generalize ps.length = PL at *
                go_enter Tryd.func56, Tryd.ntmps56
                go_wp2_with fail
                refine (may_yes wi _ (unhide HM).1 (unhide HM).2).mono ?_
                rintro e' w0 ⟨rfl, rfl⟩
                go_wp2_with fail
                refine (unhide HC).1.mono ?_
                rintro e' w1 ⟨rfl, rfl⟩
                go_wp2_with fail
                refine (unhide HC).2.1.mono ?_
                rintro e' w2 ⟨-, hB, hF⟩
                obtain ⟨ho, hn, hc, rfl⟩ := hB (unhide HC).2.2
                have H1 := hide hF
                clear hB hF
                go_wp2_with fail
                go_ret
                exact ⟨rfl, unhide H1⟩
          · have hB : chkP j leaf i n ps root = false := by
              rw [hce, wdq_false j [leaf, root] 1 (by simp) (by simpa using h5)]; rfl
            rw [hB]
            have q5 : ((root.length : Int) == j) = false := beq_false_of_ne h5
            have q4 : ((leaf.length : Int) == j) = true := by rw [h4]; simp
            clear hce
            clear hg_ hl hr hp hcx hn hps hB h1
            generalize leaf.length = LL at *
            generalize root.length = RL at *
            generalize ps.length = PL at *
            go_enter Tryd.func56, Tryd.ntmps56
            go_wp2_with fail
            refine (may_yes j _ (unhide HM).1 (unhide HM).2).mono ?_
            rintro e' w0 ⟨rfl, rfl⟩
            go_wp2_with fail
            go_ret
            exact ⟨rfl, Fr.refl _ _⟩
        · have hB : chkP j leaf i n ps root = false := by
            rw [hce, wdq_false j [leaf, root] 0 (by simp) (by simpa using h4)]; rfl
          rw [hB]
          have q4 : ((leaf.length : Int) == j) = false := beq_false_of_ne h4
          clear hce
          clear hg_ hl hr hp hcx hn hps hB h1
          generalize leaf.length = LL at *
          generalize root.length = RL at *
          generalize ps.length = PL at *
          go_enter Tryd.func56, Tryd.ntmps56
          go_wp2_with fail
          refine (may_yes j _ (unhide HM).1 (unhide HM).2).mono ?_
          rintro e' w0 ⟨rfl, rfl⟩
          go_wp2_with fail
          go_ret
          exact ⟨rfl, Fr.refl _ _⟩
end Go.Proofs.YtjokmlnghpnlbaaDoor

namespace Go.Proofs.YtjokmlnghpnlbaaDoor
open Go.RowKit

/-- May a secret be? -/
def okS (j K J V : Int) : Prop := (1 ≤ j ∧ j ≤ 32) ∧ (0 ≤ K ∧ K < 64) ∧ (0 ≤ J ∧ J < 8 * j) ∧ 0 ≤ V ∧ V < 2
instance (j K J V : Int) : Decidable (okS j K J V) := by unfold okS; infer_instance
def scF (j K J V : Int) (seed : List Nat) : List Nat := if okS j K J V then sm j (scm K.toNat J.toNat V.toNat seed) else []
theorem scF_lt (j K J V : Int) (seed : List Nat) : ∀ v ∈ scF j K J V seed, v < 256 := by
  unfold scF
  split
  · exact sm_lt _ _
  · intro v hv; cases hv
theorem scF_len (j K J V : Int) (seed : List Nat) : (scF j K J V seed).length ≤ 32 := by
  unfold scF
  split
  · rename_i h
    rw [sm_len h.1]; have := h.1; omega
  · exact Nat.zero_le _
/-- lamport.Secret. -/
theorem lsecret_any (j K J V : Int) (x : Value) (seed : List Nat) (w : World) (hg : GS w) (hx : Sl w x seed) (hs : seed.length ≤ 15000000) :
    Calls Tryd.prog 10 #[.int .i64 j, x, .int .i64 K, .int .i64 J, .int .i64 V] w fun e w' => ∃ yo yc, e = .returned (.slice yo (scF j K J V seed).length yc) ∧ OB w w' yo yc (scF j K J V seed) := by
  by_cases h : okS j K J V
  · have e : scF j K J V seed = sm j (scm K.toNat J.toNat V.toNat seed) := by rw [scF, if_pos h]
    obtain ⟨h1, h2, h3, h4⟩ := h
    obtain ⟨wi, rfl⟩ : ∃ n : Nat, j = (n : Int) := ⟨j.toNat, by omega⟩
    obtain ⟨k, rfl⟩ : ∃ n : Nat, K = (n : Int) := ⟨K.toNat, by omega⟩
    obtain ⟨b, rfl⟩ : ∃ n : Nat, J = (n : Int) := ⟨J.toNat, by omega⟩
    obtain ⟨v, rfl⟩ : ∃ n : Nat, V = (n : Int) := ⟨V.toNat, by omega⟩
    simp only [Int.toNat_natCast] at e
    have hl : (scF (wi : Int) k b v seed).length = wi := by rw [e, sm_len ⟨by omega, by omega⟩, Int.toNat_natCast]
    rw [hl]
    refine (lsecret_in wi k b v (by omega) (by omega) (by omega) (by omega) (by omega) x seed w hg hx (by omega)).mono ?_
    rintro e' w' ⟨yo, rfl, hO⟩
    exact ⟨yo, wi, rfl, by rw [e]; exact hO⟩
  · have e : scF j K J V seed = [] := by rw [scF, if_neg h]
    rw [e]
    refine (lsecret_no j K J V h x w).mono ?_
    rintro e' w' ⟨rfl, rfl⟩
    exact ⟨none, 0, rfl, own_nil _ _, Fr.refl _ _⟩
set_option maxRecDepth 100000 in
set_option maxHeartbeats 2000000 in
/-- The document's Secret, of what may not be. -/
theorem g5secret_no (j K J V : Int) (h : ¬ okS j K J V) (x : Value) (w : World) :
    Calls Tryd.prog 17 #[.int .i64 j, x, .int .i64 K, .int .i64 J, .int .i64 V] w fun e w' => e = .returned (.slice none 0 0) ∧ w' = w := by
  unfold okS at h
  by_cases h1 : 1 ≤ j ∧ j ≤ 32
  · have hmy := hide (may_yes j w h1.1 h1.2)
    by_cases a1 : K < 0
    · clear h
      go_enter Tryd.func17, Tryd.ntmps17
      go_wp2_with fail
      refine (unhide hmy).mono ?_
      rintro e w0 ⟨rfl, rfl⟩
      go_wp2_with fail
      go_ret
      exact ⟨rfl, rfl⟩
    · by_cases a2 : 63 < K
      · clear h
        go_enter Tryd.func17, Tryd.ntmps17
        go_wp2_with fail
        refine (unhide hmy).mono ?_
        rintro e w0 ⟨rfl, rfl⟩
        go_wp2_with fail
        go_ret
        exact ⟨rfl, rfl⟩
      · by_cases a3 : J < 0
        · clear h
          go_enter Tryd.func17, Tryd.ntmps17
          go_wp2_with fail
          refine (unhide hmy).mono ?_
          rintro e w0 ⟨rfl, rfl⟩
          go_wp2_with fail
          go_ret
          exact ⟨rfl, rfl⟩
        · have b1 := h1.1
          have b2 := h1.2
          by_cases a4 : 8 * j ≤ J
          · clear h h1
            go_enter Tryd.func17, Tryd.ntmps17
            go_wp2_with fail
            refine (unhide hmy).mono ?_
            rintro e w0 ⟨rfl, rfl⟩
            go_wp2_with fail
            go_ret
            exact ⟨rfl, rfl⟩
          · by_cases a5 : V < 0
            · clear h h1
              go_enter Tryd.func17, Tryd.ntmps17
              go_wp2_with fail
              refine (unhide hmy).mono ?_
              rintro e w0 ⟨rfl, rfl⟩
              go_wp2_with fail
              go_ret
              exact ⟨rfl, rfl⟩
            · have a6 : 1 < V := by omega
              clear h h1
              go_enter Tryd.func17, Tryd.ntmps17
              go_wp2_with fail
              refine (unhide hmy).mono ?_
              rintro e w0 ⟨rfl, rfl⟩
              go_wp2_with fail
              go_ret
              exact ⟨rfl, rfl⟩
  · have hmy := hide (may_no j w (by omega))
    clear h
    go_enter Tryd.func17, Tryd.ntmps17
    go_wp2_with fail
    refine (unhide hmy).mono ?_
    rintro e w0 ⟨rfl, rfl⟩
    go_wp2_with fail
    go_ret
    exact ⟨rfl, rfl⟩
/-- The document's Secret. -/
theorem g5secret_any (j K J V : Int) (x : Value) (seed : List Nat) (w : World) (hg : GR w) (hx : Sl w x seed) (hs : seed.length ≤ 15000000) :
    Calls Tryd.prog 17 #[.int .i64 j, x, .int .i64 K, .int .i64 J, .int .i64 V] w fun e w' => ∃ yo yc, e = .returned (.slice yo (scF j K J V seed).length yc) ∧ OB w w' yo yc (scF j K J V seed) := by
  by_cases h : okS j K J V
  · have e : scF j K J V seed = sm j (scm K.toNat J.toNat V.toNat seed) := by rw [scF, if_pos h]
    obtain ⟨h1, h2, h3, h4⟩ := h
    obtain ⟨wi, rfl⟩ : ∃ n : Nat, j = (n : Int) := ⟨j.toNat, by omega⟩
    obtain ⟨k, rfl⟩ : ∃ n : Nat, K = (n : Int) := ⟨K.toNat, by omega⟩
    obtain ⟨b, rfl⟩ : ∃ n : Nat, J = (n : Int) := ⟨J.toNat, by omega⟩
    obtain ⟨v, rfl⟩ : ∃ n : Nat, V = (n : Int) := ⟨V.toNat, by omega⟩
    simp only [Int.toNat_natCast] at e
    have hl : (scF (wi : Int) k b v seed).length = wi := by rw [e, sm_len ⟨by omega, by omega⟩, Int.toNat_natCast]
    rw [hl]
    refine (g5secret_in wi k b v (by omega) (by omega) (by omega) (by omega) (by omega) x seed w hg hx hs).mono ?_
    rintro e' w' ⟨yo, yc, rfl, hO⟩
    exact ⟨yo, yc, rfl, by rw [e]; exact hO⟩
  · have e : scF j K J V seed = [] := by rw [scF, if_neg h]
    rw [e]
    refine (g5secret_no j K J V h x w).mono ?_
    rintro e' w' ⟨rfl, rfl⟩
    exact ⟨none, 0, rfl, own_nil _ _, Fr.refl _ _⟩
end Go.Proofs.YtjokmlnghpnlbaaDoor

namespace Go.Proofs.YtjokmlnghpnlbaaDoor
open Go.RowKit

set_option maxRecDepth 100000 in
/-- The document's Lock. -/
theorem g5lock_in (wi : Nat) (hw1 : 1 ≤ wi) (hw32 : wi ≤ 32) (x : Value) (m : List Nat) (w : World) (hg : GR w) (hx : Sl w x m) (hm : m.length ≤ 16000000) :
    Calls Tryd.prog 54 #[.int .i64 wi, x] w fun e w' => ∃ yo yc, e = .returned (.slice yo wi yc) ∧ OB w w' yo yc (sm wi m) := by
  have h := gsum_T wi x m w hg hx.s hx.b hm
  have hl : (sm (wi : Int) m).length = wi := by rw [sm_len ⟨by omega, by omega⟩, Int.toNat_natCast]
  rw [hl] at h
  have HC := hide h
  clear h hx hg
  go_enter Tryd.func54, Tryd.ntmps54
  go_wp2_with fail
  refine (unhide HC).mono ?_
  rintro e w1 ⟨yo, yc, rfl, hO⟩
  have H1 := hide hO
  clear hO
  go_wp2_with fail
  go_ret
  exact ⟨yo, yc, rfl, unhide H1⟩
/-- Is a slice apart from an own one? -/
def Apt (lv ov : Value) : Prop := ∀ g o n c, lv = .slice (some ⟨g, o, none⟩) n c → ∀ g', ov.ownBlock = some g' → ¬ g = g'
/-- One byte more, beside bytes that lie apart. -/
theorem OB.app1A {w wr : World} {xo : Option Addr} {cp : Nat} {l : List Nat} (h : OB w wr xo cp l) (V : Nat) (hV : V < 256) (hb : l.length + 1 ≤ 140737488355328) (lv : Value) (L : List Nat) (hs : Sl wr lv L) (hL : 0 < L.length) (hap : Apt lv (.slice xo l.length cp)) :
    ∃ ao cp' w2, (Builtin.append_ #[24, 24] 24 #[.slice xo l.length cp, .slice (some ⟨wr.heap.size, 0, none⟩) 1 1]).run Tryd.prog (wr.alloc (.cells #[.int .u8 (V : Int)] 5)) = .ok (.slice ao (l ++ [V]).length cp') w2 ∧ OB w w2 ao cp' (l ++ [V]) ∧ Sl w2 lv L ∧ Apt lv (.slice ao (l ++ [V]).length cp') := by
  have hFa : Fr (fun _ => False) wr (wr.alloc (.cells #[.int .u8 (V : Int)] 5)) := (Fr.refl _ _).alloc _
  have h2 : OB w (wr.alloc (.cells #[.int .u8 (V : Int)] 5)) xo cp l := ⟨ownsRow_of_block h.own (fun g hg => Below.heap_alloc _ _ _ (h.own.lt g hg).2), h.fr.alloc _⟩
  obtain ⟨ao, cp', w2, hr, hown, hgrow, hat⟩ := run_app_sl (wr.alloc (.cells #[.int .u8 (V : Int)] 5)) 24 w.heap.size l.length _ _ _ [V] h2.own (lit_src wr [V] #[.int .u8 (V : Int)] 1 1 rfl (by simp [cellsOf, B, Nat.mod_eq_of_lt hV])) hb h2.fr.size
  have hF : Fr (fun k => (Value.slice xo l.length cp).ownBlock = some k) wr w2 := hFa.mono (fun _ _ h => h.elim) |>.grown hgrow (fun g hg => .inl hg)
  have hlt : ∀ g o n c, lv = .slice (some ⟨g, o, none⟩) n c → g < wr.heap.size := by
    rcases hs.lt with h0 | h0
    · rw [h0] at hL; simp at hL
    · exact h0
  have e : l.length + [V].length = (l ++ [V]).length := by rw [List.length_append]
  rw [e] at hr hown hat
  refine ⟨ao, cp', w2, hr, ⟨by rw [cellsOf_append]; exact hown, h2.fr.grown hgrow (fun g hg => .inr (h2.own.lt g hg).1)⟩, hs.frD hF (.inr (fun g o n c e hg => hap g o n c e g hg rfl)), fun g o n c e2 g' hg' e3 => ?_⟩
  rcases hat with h3 | h3
  · rw [h3] at hg'; exact hap g o n c e2 g' hg' e3
  · rw [h3] at hg'
    have h4 := hlt g o n c e2
    simp only [Option.some.injEq] at hg'
    simp at hg'
    omega
set_option maxRecDepth 100000 in
set_option maxHeartbeats 4000000 in
/-- The document's Entry. -/
theorem g5entry_in (wi K : Nat) (hw1 : 1 ≤ wi) (hw32 : wi ≤ 32) (hK : K < 64) (x : Value) (seed : List Nat) (w : World) (hg : GR w) (hx : Sl w x seed) (hs : seed.length ≤ 15000000) :
    Calls Tryd.prog 50 #[.int .i64 wi, x, .int .i64 K] w fun e w' => ∃ yo yc, e = .returned (.slice yo (16 * wi * wi) yc) ∧ OB w w' yo yc (eN wi seed K) := by
  obtain ⟨xo, xc, rfl⟩ := hx.form
  have hsec := fun J V w' (hf : Fr (fun _ => False) w w') (hJ : J < 8 * wi) (hV : V < 2) => g5secret_in wi K J V hw1 hw32 hK hJ hV _ seed w' (hg.fr0 hf) (hx.fr0 hf) hs
  have hlk := fun y m w' (hf : Fr (fun _ => False) w w') (h : Sl w' y m) (hm : m.length ≤ 16000000) => g5lock_in wi hw1 hw32 y m w' (hg.fr0 hf) h hm
  have hlen : ∀ J v, J < 8 * wi → v ≤ 2 → (entv (lk wi K seed) J v).length = (2 * J + v) * wi := fun J v _ h2 => entv_len _ wi J v h2 (fun J' V' _ _ => lk_len wi K hw1 hw32 seed J' V')
  have hlast : (ent (lk wi K seed) (8 * wi)).length = 16 * wi * wi := eN_len wi hw1 hw32 seed K
  have HC := hide (And.intro hsec (And.intro hlk (And.intro hlen hlast)))
  clear hsec hlk hlen hlast hx hg
  generalize seed.length = SN at *
  have hE8 : 8 * wi ≤ 256 := by omega
  unfold eN
  obtain ⟨R, hR⟩ : ∃ R, R = 16 * wi * wi := ⟨_, rfl⟩
  rw [← hR]
  have HR := hide hR
  clear hR
  generalize hE : 8 * wi = E at *
  go_enter Tryd.func50, Tryd.ntmps50
  go_wp2_with fail
  go_loopw [7, 8] (fun v iv wr => ∃ (k : Nat) (ao : Option Addr) (cp n : Nat), k ≤ E ∧ iv = .int .i64 (k : Nat) ∧ v = .slice ao n cp ∧ n = (ent (lk wi K seed) k).length ∧ OB w wr ao cp (ent (lk wi K seed) k)) (fun _ iv _ => E - (intOf iv).toNat)
  case atStart => exact ⟨0, none, 0, 0, Nat.zero_le _, rfl, rfl, rfl, ⟨own_nil _ _, Fr.refl _ _⟩⟩
  case round =>
    obtain ⟨k, ao, cp, n, hk, rfl, rfl, hn, hO⟩ := hrel
    by_cases hlt : k < E
    · have hlt' : (k : Int) < 8 * (wi : Int) := by omega
      have HO := hide (And.intro hn hO)
      clear hn hO
      go_wp2_with fail
      go_loopw [7, 9] (fun v iv wq => ∃ (u : Nat) (bo : Option Addr) (bc m : Nat), u ≤ 2 ∧ iv = .int .i64 (u : Nat) ∧ v = .slice bo m bc ∧ m = (entv (lk wi K seed) k u).length ∧ OB w wq bo bc (entv (lk wi K seed) k u)) (fun _ iv _ => 2 - (intOf iv).toNat)
      case atStart => exact ⟨0, _, _, _, by omega, rfl, rfl, by rw [entv_zero]; exact (unhide HO).1, by rw [entv_zero]; exact (unhide HO).2⟩
      case round =>
        obtain ⟨u, bo, bc, m, hu, rfl, rfl, hm, hP⟩ := hrel
        by_cases hu2 : u < 2
        · have hu' : (u : Int) < 2 := by omega
          have hsl : (sm (wi : Int) (scm K k u seed)).length = wi := by rw [sm_len ⟨by omega, by omega⟩, Int.toNat_natCast]
          have hse := (unhide HC).1 k u _ hP.fr (by omega) hu2
          have hslt := sm_lt (wi : Int) (scm K k u seed)
          have hfin : sm (wi : Int) (sm (wi : Int) (scm K k u seed)) = lk wi K seed k u := rfl
          generalize sm (wi : Int) (scm K k u seed) = SC at *
          have HP := hide (And.intro hm (And.intro hP (And.intro hse (And.intro hsl (And.intro hslt hfin)))))
          clear hm hP hse hsl hslt hfin
          go_wp2_with fail
          refine (unhide HP).2.2.1.mono ?_
          rintro e w1 ⟨so, sc, rfl, hO1⟩
          have H1 := hide (And.intro hO1 ((unhide HP).2.1.fr.trans hO1.fr (fun _ _ h => h)))
          clear hO1
          go_wp2_with fail
          refine ((unhide HC).2.1 _ _ _ (unhide H1).2 ((unhide HP).2.2.2.1 ▸ (unhide H1).1.sl (unhide HP).2.2.2.2.1) (by rw [(unhide HP).2.2.2.1]; omega)).mono ?_
          rintro e w2 ⟨lo, lc, rfl, hO2⟩
          rw [(unhide HP).2.2.2.2.2] at hO2
          have hll := lk_len wi K hw1 hw32 seed k u
          have hlb := lk_lt wi K seed k u
          have hent := entv_succ (lk wi K seed) k u hu2
          have hel := (unhide HC).2.2.1 k u (by omega) (by omega)
          have heb : (2 * k + u) * wi ≤ 514 * 32 := Nat.mul_le_mul (by omega) hw32
          generalize lk wi K seed k u = LK at *
          generalize entv (lk wi K seed) k u = EV at *
          have hB2 : OB w w2 bo bc EV := ((unhide HP).2.1.ow.fr0 ((unhide H1).1.fr.trans hO2.fr (fun _ _ h => h))).ob ((unhide H1).2.trans hO2.fr (fun _ _ h => h))
          have H2 := hide (And.intro hO2 (And.intro hB2 (And.intro hll (And.intro hlb (And.intro hent (And.intro hel heb))))))
          clear hO2 hB2 hll hlb hent hel heb
          go_wp2_with fail
          go_loopw [7, 11] (fun v iv wq => ∃ (i : Nat) (co : Option Addr) (cc p : Nat), i ≤ wi ∧ iv = .int .i64 (i : Nat) ∧ v = .slice co p cc ∧ p = (EV ++ LK.take i).length ∧ OB w wq co cc (EV ++ LK.take i) ∧ Sl wq (.slice lo wi lc) LK ∧ Apt (.slice lo wi lc) (.slice co (EV ++ LK.take i).length cc)) (fun _ iv _ => wi - (intOf iv).toNat)
          case atStart =>
            refine ⟨0, bo, bc, m, by omega, rfl, rfl, by simpa using (unhide HP).1, by simpa using (unhide H2).2.1, (unhide H2).2.2.1 ▸ (unhide H2).1.sl (unhide H2).2.2.2.1, fun g o n c e g' hg' e2 => ?_⟩
            have h1 := World.ownsRow.lt (unhide H2).1.own g (by cases e; rfl)
            have h2 := World.ownsRow.lt (unhide HP).2.1.own g' (by simpa using hg')
            have h3 := (unhide H1).1.fr.size
            omega
          case round =>
            obtain ⟨i, co, cc, p, hi, rfl, rfl, hp, hQ, hS, hap⟩ := hrel
            by_cases hi2 : i < wi
            · have hi' : (i : Int) < (wi : Int) := by omega
              have hll := (unhide H2).2.2.1
              obtain ⟨lg, lq, rfl, hcl⟩ := src_cell hS.s i (by omega) hS.b
              have hVb : LK.getD i 0 < 256 := by
                rw [List.getD_eq_getElem?_getD, List.getElem?_eq_getElem (by omega)]; exact hS.b _ (List.getElem_mem _)
              have hel := (unhide H2).2.2.2.2.2.1
              have heb := (unhide H2).2.2.2.2.2.2
              have htk : LK.take (i + 1) = LK.take i ++ [LK.getD i 0] := by
                rw [List.take_add_one, List.getD_eq_getElem?_getD, List.getElem?_eq_getElem (by omega)]; rfl
              obtain ⟨a2, c2, w3, hr3, hO3, hS3, hA3⟩ := hQ.app1A (LK.getD i 0) hVb (by rw [List.length_append, List.length_take]; omega) _ LK hS (by omega) hap
              rw [List.append_assoc, ← htk] at hr3 hO3 hA3
              rw [← hp] at hr3
              generalize LK.getD i 0 = V at *
              have HQ := hide (And.intro hr3 (And.intro hO3 (And.intro hS3 hA3)))
              clear hr3 hO3 hS3 hA3 hQ hS hap hp htk hel heb hll
              go_wp2_with (at_builtin; refine wpList_app rfl _ _ 24 24 rfl _ _ _ rfl rfl (unhide HQ).1 ?_)
              exact ⟨⟨i + 1, _, _, _, by omega, by go_num, rfl, by simp, (unhide HQ).2.1, (unhide HQ).2.2.1, (unhide HQ).2.2.2⟩, by simp [intOf]; omega⟩
            · have hi' : ¬ (i : Int) < (wi : Int) := by omega
              have htk : LK.take i = LK := List.take_of_length_le (by rw [(unhide H2).2.2.1]; omega)
              rw [htk, (unhide H2).2.2.2.2.1] at hp hQ
              have HQ := hide (And.intro hp hQ)
              clear hp hQ hS hap htk
              go_wp2_with fail
              exact ⟨⟨u + 1, _, _, _, by omega, by go_num, rfl, (unhide HQ).1, (unhide HQ).2⟩, by simp [intOf]; omega⟩
        · have hu' : ¬ (u : Int) < 2 := by omega
          have hu3 : u = 2 := by omega
          subst hu3
          rw [entv_two] at hm hP
          have HP := hide (And.intro hm hP)
          clear hm hP
          go_wp2_with fail
          exact ⟨⟨k + 1, _, _, _, by omega, by go_num, rfl, (unhide HP).1, (unhide HP).2⟩, by simp [intOf]; omega⟩
    · have hlt' : ¬ (k : Int) < 8 * (wi : Int) := by omega
      have hkE : k = E := by omega
      rw [hkE, (unhide HC).2.2.2, ← unhide HR] at hn
      rw [hkE] at hO
      subst hn
      have HO := hide hO
      clear hO hkE
      go_wp2_with fail
      go_ret
      exact ⟨_, _, rfl, unhide HO⟩
end Go.Proofs.YtjokmlnghpnlbaaDoor

namespace Go.Proofs.YtjokmlnghpnlbaaDoor
open Go.RowKit

theorem wrap_pow (H : Nat) (hH : H ≤ 6) : wrap64 (2 ^ H) = ((2 ^ H : Nat) : Int) := by
  match H, hH with
  | 0, _ | 1, _ | 2, _ | 3, _ | 4, _ | 5, _ | 6, _ => decide +kernel
set_option maxRecDepth 100000 in
set_option maxHeartbeats 4000000 in
/-- The document's Leaves. -/
theorem g5leaves_in (wi H : Nat) (hw1 : 1 ≤ wi) (hw32 : wi ≤ 32) (hH : H ≤ 6) (x : Value) (seed : List Nat) (w : World) (hg : GR w) (hx : Sl w x seed) (hs : seed.length ≤ 15000000) :
    Calls Tryd.prog 21 #[.int .i64 wi, .int .i64 H, x] w fun e w' => ∃ ao cp us, e = .returned (.slice ao (2 ^ H) cp) ∧ LV w w' ao cp us (lvs wi seed (2 ^ H)) := by
  obtain ⟨xo, xc, rfl⟩ := hx.form
  have hN64 : 2 ^ H ≤ 64 := Nat.pow_le_pow_right (n := 2) (by decide) hH
  have hps9 : 16 * wi * wi ≤ 16384 := Nat.mul_le_mul (show 16 * wi ≤ 512 by omega) hw32
  have hen := fun k w' (hf : Fr (fun _ => False) w w') (hk : k < 64) => g5entry_in wi k hw1 hw32 hk _ seed w' (hg.fr0 hf) (hx.fr0 hf) hs
  have hlf := fun k y w' (hf : Fr (fun _ => False) w w') (h : Sl w' y (eN wi seed k)) => gleaf_any wi y _ w' (hg.fr0 hf) h.s h.b (by rw [eN_len wi hw1 hw32]; omega)
  have hll : ∀ k, (lf (wi : Int) (eN wi seed k)).length = wi := fun k => lf_len5 wi hw1 hw32 _
  have hel : ∀ k, (eN wi seed k).length = 16 * wi * wi := fun k => eN_len wi hw1 hw32 seed k
  generalize 16 * wi * wi = PS at *
  have HC := hide (And.intro hen (And.intro hlf (And.intro hll hel)))
  clear hen hlf hll hx hg hel
  generalize seed.length = SN at *
  have hW := wrap_pow H hH
  generalize 2 ^ H = N at *
  go_enter Tryd.func21, Tryd.ntmps21
  go_wp2_with fail
  go_loopw [7, 8] (fun v iv wr => ∃ (k : Nat) (ao : Option Addr) (cp : Nat) (us : List Value), k ≤ N ∧ iv = .int .i64 (k : Nat) ∧ v = .slice ao k cp ∧ us.length = k ∧ LV w wr ao cp us (lvs wi seed k)) (fun _ iv _ => N - (intOf iv).toNat)
  case atStart => exact ⟨0, none, 0, [], Nat.zero_le _, rfl, rfl, rfl, LV.nil w⟩
  case round =>
    obtain ⟨k, ao, cp, us, hk, rfl, rfl, hus, hI⟩ := hrel
    by_cases hlt : k < N
    · have hlt' : (k : Int) < (N : Int) := by omega
      have HI := hide (And.intro hI hus)
      clear hI hus
      go_wp2_with fail
      refine ((unhide HC).1 k _ (unhide HI).1.own.fr (by omega)).mono ?_
      rintro e w1 ⟨eo, ec, rfl, hO1⟩
      have hs1 : Sl w1 (.slice eo PS ec) (eN wi seed k) := (unhide HC).2.2.2 k ▸ hO1.sl (eN_lt wi seed k)
      have H1 := hide (And.intro hs1 hO1.fr)
      clear hs1 hO1
      go_wp2_with fail
      refine ((unhide HC).2.1 k _ _ ((unhide HI).1.own.fr.trans (unhide H1).2 (fun _ _ h => h)) (unhide H1).1).mono ?_
      rintro e w2 ⟨yo, yc, rfl, hO2⟩
      obtain ⟨ao', cp', w3, hr3, hL3⟩ := (unhide HI).1.step (lf wi (eN wi seed k)) yo yc (hO2.base (unhide H1).2) (lf_lt _ _) (by rw [(unhide HI).2]; omega)
      rw [← lvs_succ] at hL3
      rw [(unhide HI).2] at hr3
      have HL := hide (And.intro hL3 hr3)
      clear hL3 hr3 hO2
      generalize lf (wi : Int) (eN wi seed k) = LF at *
      generalize LF.length = LN at *
      go_wp2_with (at_builtin; refine wpList_app rfl _ _ 40 40 rfl _ _ _ rfl rfl (unhide HL).2 ?_)
      exact ⟨⟨k + 1, ao', cp', _, by omega, by go_num, rfl, by rw [List.length_append, (unhide HI).2]; rfl, (unhide HL).1⟩, by simp [intOf]; omega⟩
    · have hlt' : ¬ (k : Int) < (N : Int) := by omega
      have hkN : k = N := by omega
      subst hkN
      have HI := hide hI
      clear hI hus
      go_wp2_with fail
      go_ret
      exact ⟨ao, cp, rfl, us, unhide HI⟩
end Go.Proofs.YtjokmlnghpnlbaaDoor

namespace Go.Proofs.YtjokmlnghpnlbaaDoor
open Go.RowKit

set_option maxRecDepth 100000 in
set_option maxHeartbeats 2000000 in
/-- The document's Bit. -/
theorem gbit2_in (ho : Option Addr) (wi hc9 J : Nat) (hw32 : wi ≤ 32) (hJ : J < 8 * wi) (h : List Nat) (w : World) (hB : Sl w (.slice ho wi hc9) h) (hl : h.length = wi) :
    Calls Tryd.prog 53 #[.slice ho wi hc9, .int .i64 J] w fun e w' => e = .returned (.int .i64 (bitv h J)) ∧ w' = w := by
  obtain ⟨A, r, hr, hJr, hA, hR⟩ : ∃ A r, r < 8 ∧ J = 8 * A + r ∧ J / 8 = A ∧ J % 8 = r := ⟨J / 8, J % 8, by omega, by omega, rfl, rfl⟩
  unfold bitv
  rw [hA, hR]
  have hAw : A < wi := by omega
  have hA9 : A ≤ 32 := by omega
  obtain ⟨g, o, rfl, hc⟩ := src_cell hB.s A (by omega) hB.b
  have hlt : h.getD A 0 < 256 := by
    rw [List.getD_eq_getElem?_getD, List.getElem?_eq_getElem (by omega)]; exact hB.b _ (List.getElem_mem _)
  generalize h.getD A 0 = B at *
  have q2 : (A : Int) < (wi : Int) := by omega
  have hJ9 : J < 256 := by omega
  have hbt := hide (gbit_tab r hr B hlt)
  clear hB hJ hJr
  go_enter Tryd.func53, Tryd.ntmps53
  go_wp2_with fail
  go_ret
  rw [unhide hbt]
  exact ⟨rfl, rfl⟩
set_option maxRecDepth 100000 in
set_option maxHeartbeats 4000000 in
/-- The document's With. -/
theorem g5with_in (wi K : Nat) (hw1 : 1 ≤ wi) (hw32 : wi ≤ 32) (hK : K < 64) (x mv pv : Value) (seed m : List Nat) (vs : List Value) (ps : List (List Nat)) (w : World) (hg : GR w) (hx : Sl w x seed) (hs : seed.length ≤ 15000000) (hm : Sl w mv m) (hml : m.length ≤ 16000000) (hp : Pcs w pv vs ps) (hpw : ∀ p ∈ ps, p.length = wi) (hpl : ps.length ≤ 64) :
    Calls Tryd.prog 23 #[.int .i64 wi, x, .int .i64 K, mv, pv] w fun e w' => ∃ yo n yc, e = .returned (.slice yo n yc) ∧ n = (sgn wi K seed (sm wi m) (8 * wi) ++ ps.flatten).length ∧ OB w w' yo yc (sgn wi K seed (sm wi m) (8 * wi) ++ ps.flatten) := by
  obtain ⟨xo, xc, rfl⟩ := hx.form
  obtain ⟨mo, mc, rfl⟩ := hm.form
  obtain ⟨po, pc, rfl⟩ := hp.form
  have hsec := fun J V w' (hf : Fr (fun _ => False) w w') (hJ : J < 8 * wi) (hV : V < 2) => g5secret_in wi K J V hw1 hw32 hK hJ hV _ seed w' (hg.fr0 hf) (hx.fr0 hf) hs
  have hlk := fun y m w' (hf : Fr (fun _ => False) w w') (h : Sl w' y m) (hm : m.length ≤ 16000000) => g5lock_in wi hw1 hw32 y m w' (hg.fr0 hf) h hm
  have hsum := gsum_T wi _ m w hg hm.s hm.b hml
  have hsl : (sm (wi : Int) m).length = wi := by rw [sm_len ⟨by omega, by omega⟩, Int.toNat_natCast]
  have hsb := sm_lt (wi : Int) m
  rw [hsl] at hsum
  have hbit := fun (ho : Option Addr) (hc J : Nat) (w' : World) (hJ : J < 8 * wi) (h : Sl w' (.slice ho wi hc) (sm wi m)) => gbit2_in ho wi hc J hw32 hJ _ w' h hsl
  have hps9 : 16 * wi * wi ≤ 16384 := Nat.mul_le_mul (show 16 * wi ≤ 512 by omega) hw32
  have hmul : 16 * (wi : Int) * (wi : Int) = ((16 * wi * wi : Nat) : Int) := by simp
  generalize hPS : 16 * wi * wi = PS at *
  generalize hHS : sm (wi : Int) m = HS at *
  have HC := hide (And.intro hsec (And.intro hlk (And.intro hsum (And.intro hbit (And.intro hp (And.intro hpw hpl))))))
  have HB := hide (And.intro hsl hsb)
  clear hsec hlk hsum hbit hp hpw hpl hx hm hg hsl hsb
  generalize seed.length = SN at *
  generalize m.length = ML at *
  generalize hPL : ps.length = PL at *
  go_enter Tryd.func23, Tryd.ntmps23
  go_wp2_with fail
  refine (unhide HC).2.2.1.mono ?_
  rintro e w1 ⟨ho, hc, rfl, hO1⟩
  obtain ⟨wE, hrE, hoE, hFE⟩ := make0 PS w1 (by omega)
  have hS1 : Sl w1 (.slice ho wi hc) HS := (unhide HB).1 ▸ hO1.sl (unhide HB).2
  have hOE : OB w1 wE (some ⟨w1.heap.size, 0, none⟩) PS [] := ⟨hoE, hFE⟩
  have H1 := hide (And.intro hS1 (And.intro hOE (hO1.fr.trans hFE (fun _ _ h => h))))
  have HF1 := hide hO1.fr
  clear hS1 hOE hoE hFE hO1
  go_wp2_with fail
  generalize hE : 8 * wi = E at *
  go_loopw [12, 13] (fun v iv wr => ∃ (k : Nat) (zo : Option Addr) (zc n : Nat), k ≤ E ∧ iv = .int .i64 (k : Nat) ∧ v = .slice zo n zc ∧ n = (sgn wi K seed HS k).length ∧ OB w1 wr zo zc (sgn wi K seed HS k)) (fun _ iv _ => E - (intOf iv).toNat)
  case atStart => exact ⟨0, _, _, 0, Nat.zero_le _, rfl, rfl, rfl, (unhide H1).2.1⟩
  case round =>
    obtain ⟨k, zo, zc, n, hk, rfl, rfl, hn, hI⟩ := hrel
    by_cases hlt : k < E
    · have hlt' : (k : Int) < 8 * (wi : Int) := by omega
      have hF : Fr (fun _ => False) w wr := (unhide HF1).trans hI.fr (fun _ _ h => h)
      have hval := (unhide HC).2.2.2.1 ho hc k wr (by omega) ((unhide H1).1.fr0 hI.fr)
      have hbv := bitv_lt HS k
      have hsg : sgn wi K seed HS (k + 1) = sgn wi K seed HS k ++ sm wi (scm K k (bitv HS k) seed) ++ lk wi K seed k (1 - bitv HS k) := rfl
      have e1 : (1 : Int) - ((bitv HS k : Nat) : Int) = ((1 - bitv HS k : Nat) : Int) := by omega
      have hsec1 := fun w' (hf : Fr (fun _ => False) w w') => (unhide HC).1 k (bitv HS k) w' hf (by omega) hbv
      have hsec2 := fun w' (hf : Fr (fun _ => False) w w') => (unhide HC).1 k (1 - bitv HS k) w' hf (by omega) (by omega)
      generalize bitv HS k = V at *
      have hb3 : 2 * k * wi ≤ 512 * 32 := Nat.mul_le_mul (by omega) hw32
      have hll := sgn_len wi K hw1 hw32 seed HS k
      have hsl0 : (sm (wi : Int) (scm K k V seed)).length = wi := by rw [sm_len ⟨by omega, by omega⟩, Int.toNat_natCast]
      have hsl1 : (sm (wi : Int) (scm K k (1 - V) seed)).length = wi := by rw [sm_len ⟨by omega, by omega⟩, Int.toNat_natCast]
      have hlk0 := lk_len wi K hw1 hw32 seed k (1 - V)
      have hfin : sm (wi : Int) (sm (wi : Int) (scm K k (1 - V) seed)) = lk wi K seed k (1 - V) := rfl
      have hslt := sm_lt (wi : Int) (scm K k (1 - V) seed)
      generalize sgn wi K seed HS k = S0 at *
      generalize sm (wi : Int) (scm K k V seed) = S1 at *
      generalize sm (wi : Int) (scm K k (1 - V) seed) = S2 at *
      generalize lk wi K seed k (1 - V) = S3 at *
      have HQ := hide (And.intro hval (And.intro hsec1 (And.intro hsec2 (And.intro hsg (And.intro hn (And.intro hI hF))))))
      have HL := hide (And.intro hb3 (And.intro hll (And.intro hsl0 (And.intro hsl1 (And.intro hlk0 (And.intro hfin hslt))))))
      clear hval hsec1 hsec2 hsg hn hI hF hb3 hll hsl0 hsl1 hlk0 hfin hslt
      go_wp2_with fail
      refine (unhide HQ).1.mono ?_
      rintro e w2 ⟨rfl, rfl⟩
      go_wp2_with fail
      refine ((unhide HQ).2.1 _ (unhide HQ).2.2.2.2.2.2).mono ?_
      rintro e w3 ⟨so, sc, rfl, hO3⟩
      have oZ : OB w1 w3 zo zc S0 := ((unhide HQ).2.2.2.2.2.1.ow.fr0 hO3.fr).ob ((unhide HQ).2.2.2.2.2.1.fr.trans hO3.fr (fun _ _ h => h))
      obtain ⟨a2, c2, w4, hr4, oT⟩ := oZ.app _ S1 hO3.src (by have := (unhide HL).1; have := (unhide HL).2.1; have := (unhide HL).2.2.1; omega)
      obtain ⟨n2, hn2⟩ : ∃ n2, (S0 ++ S1).length = n2 := ⟨_, rfl⟩
      rw [(unhide HL).2.2.1, ← (unhide HQ).2.2.2.2.1, hn2] at hr4
      have HN2 := hide hn2
      clear hn2
      have H4 := hide (And.intro hr4 (And.intro oT ((unhide HF1).trans oT.fr (fun _ _ h => h))))
      clear hr4 oT oZ hO3
      go_wp2_with (at_builtin; refine wpList_app rfl _ _ 24 24 rfl _ _ _ rfl rfl (unhide H4).1 ?_)
      refine ((unhide HQ).2.2.1 _ (unhide H4).2.2).mono ?_
      rintro e w5 ⟨so5, sc5, rfl, hO5⟩
      have hs5 : Sl w5 (.slice so5 wi sc5) S2 := (unhide HL).2.2.2.1 ▸ hO5.sl (unhide HL).2.2.2.2.2.2
      have H5 := hide (And.intro hs5 (And.intro hO5.fr ((unhide H4).2.2.trans hO5.fr (fun _ _ h => h))))
      clear hs5 hO5
      go_wp2_with fail
      refine ((unhide HC).2.1 _ _ _ (unhide H5).2.2 (unhide H5).1 (by rw [(unhide HL).2.2.2.1]; omega)).mono ?_
      rintro e w6 ⟨lo, lc, rfl, hO6⟩
      rw [(unhide HL).2.2.2.2.2.1] at hO6
      have oZ2 : OB w1 w6 a2 c2 (S0 ++ S1) := ((unhide H4).2.1.ow.fr0 ((unhide H5).2.1.trans hO6.fr (fun _ _ h => h))).ob ((unhide H4).2.1.fr.trans ((unhide H5).2.1.trans hO6.fr (fun _ _ h => h)) (fun _ _ h => h))
      obtain ⟨a7, c7, w7, hr7, oV⟩ := oZ2.app _ S3 hO6.src (by have := (unhide HL).1; have := (unhide HL).2.1; have := (unhide HL).2.2.1; have := (unhide HL).2.2.2.2.1; rw [List.length_append]; omega)
      obtain ⟨n3, hn3⟩ : ∃ n3, (S0 ++ S1 ++ S3).length = n3 := ⟨_, rfl⟩
      rw [(unhide HL).2.2.2.2.1, unhide HN2, hn3] at hr7
      have HN3 := hide hn3
      clear hn3
      have H7 := hide (And.intro hr7 oV)
      clear hr7 oV oZ2 hO6
      go_wp2_with (at_builtin; refine wpList_app rfl _ _ 24 24 rfl _ _ _ rfl rfl (unhide H7).1 ?_)
      exact ⟨⟨k + 1, _, _, _, by omega, by go_num, rfl, by rw [(unhide HQ).2.2.2.1]; exact (unhide HN3).symm, by rw [(unhide HQ).2.2.2.1]; exact (unhide H7).2⟩, by simp [intOf]; omega⟩
    · have hlt' : ¬ (k : Int) < 8 * (wi : Int) := by omega
      have hkE : k = E := by omega
      subst hkE
      have hgl := sgn_len wi K hw1 hw32 seed HS k
      have hb3 : 2 * k * wi ≤ 512 * 32 := Nat.mul_le_mul (by omega) hw32
      generalize hSG : sgn wi K seed HS k = S0 at *
      have hPc := (unhide HC).2.2.2.2.1
      have hfb : ∀ j, j ≤ PL → (fl ps j).length ≤ 32 * j := fun j => by
        induction j with
        | zero => intro _; simp [fl]
        | succ j ih =>
          intro hj
          have h1 := ih (by omega)
          have h2 := (unhide HC).2.2.2.2.2.1 (ps[j]'(by omega)) (List.getElem_mem _)
          rw [fl_succ ps j (by omega), List.length_append]
          omega
      have HQ := hide (And.intro hn (And.intro hI (And.intro hPc (And.intro hgl (And.intro hb3 hfb)))))
      clear hn hI hPc hgl hb3 hfb
      have HSG := hide (And.intro hSG hE)
      clear hSG
      go_wp2_with fail
      go_loopw [12, 15] (fun v iv wq => ∃ (j : Nat) (qo : Option Addr) (qc n' : Nat), j ≤ PL ∧ iv = .int .i64 (j : Nat) ∧ v = .slice qo n' qc ∧ n' = (S0 ++ fl ps j).length ∧ OB w1 wq qo qc (S0 ++ fl ps j)) (fun _ iv _ => PL - (intOf iv).toNat)
      case atStart => exact ⟨0, _, _, _, Nat.zero_le _, rfl, rfl, by simp [fl, (unhide HQ).1], by simpa [fl] using (unhide HQ).2.1⟩
      case round =>
        obtain ⟨j, qo, qc, n', hj, rfl, rfl, hn', hO⟩ := hrel
        have hPL2 := (unhide HC).2.2.2.2.2.2
        by_cases hjl : j < PL
        · have hjl' : (j : Int) < (PL : Int) := by omega
          have hkp : j < ps.length := by omega
          obtain ⟨g, o, v, rfl, hcell, hsrc, hcap, _, _⟩ := (unhide HQ).2.2.1.cell ((unhide HF1).trans hO.fr (fun _ _ h => h)) j hkp
          obtain ⟨vo, vc, rfl⟩ := hsrc.form
          have hb1 := (unhide HC).2.2.2.2.2.1 ps[j] (List.getElem_mem hkp)
          have hb2 := (unhide HQ).2.2.2.2.2 j hj
          have hb4 := (unhide HQ).2.2.2.1
          have hb5 := (unhide HQ).2.2.2.2.1
          obtain ⟨a2, c2, w2, hr2, hO2⟩ := hO.app _ ps[j] hsrc (by rw [List.length_append]; omega)
          rw [← hn'] at hr2
          have e2 : (S0 ++ fl ps j) ++ ps[j] = S0 ++ fl ps (j + 1) := by rw [fl_succ ps j hkp, List.append_assoc]
          rw [e2] at hr2 hO2
          have HR2 := hide (And.intro hr2 hO2)
          clear hr2 hO2 e2 hO hsrc hcap hn' hb1 hb2 hb4 hb5
          go_wp2_with (at_builtin; refine wpList_app rfl _ _ 24 24 rfl _ _ _ rfl rfl (unhide HR2).1 ?_)
          exact ⟨⟨j + 1, _, _, _, by omega, by go_num, rfl, by simp, (unhide HR2).2⟩, by simp [intOf]; omega⟩
        · have hjl' : ¬ (j : Int) < (PL : Int) := by omega
          have hjV : j = PL := by omega
          have e : fl ps j = ps.flatten := by rw [hjV, ← hPL, fl_all]
          rw [e] at hO hn'
          have HO2 := hide (And.intro hn' (hO.base (unhide HF1)))
          clear hO hn' e hjV
          go_wp2_with fail
          go_ret
          rw [(unhide HSG).1]
          exact ⟨qo, n', qc, rfl, by simpa using (unhide HO2).1, (unhide HO2).2⟩
end Go.Proofs.YtjokmlnghpnlbaaDoor

namespace Go.Proofs.YtjokmlnghpnlbaaDoor
open Go.RowKit

theorem take_sub (s : List Nat) (n a k : Nat) (h : a + k ≤ n) : ((s.take n).drop a).take k = (s.drop a).take k := by
  rw [List.drop_take, List.take_take]
  congr 1
  omega
theorem small64 (N : Nat) (h : N ≤ 64) : (N : Int) < 9223372036854775808 := by omega
/-- Bytes more, beside bytes that lie apart. -/
theorem OB.appA {w wr : World} {xo : Option Addr} {cp : Nat} {l : List Nat} (h : OB w wr xo cp l) (x : Value) (c : List Nat) (hx : Src wr x c) (hb : l.length + c.length ≤ 140737488355328) (lv : Value) (L : List Nat) (hs : Sl wr lv L) (hap : Apt lv (.slice xo l.length cp)) :
    ∃ ao cp' w2, (Builtin.append_ #[24, 24] 24 #[.slice xo l.length cp, x]).run Tryd.prog wr = .ok (.slice ao (l ++ c).length cp') w2 ∧ OB w w2 ao cp' (l ++ c) ∧ Sl w2 lv L := by
  obtain ⟨ao, cp', w2, hr, hown, hgrow, _⟩ := run_app_sl wr 24 w.heap.size l.length _ x _ c h.own hx hb h.fr.size
  rw [← List.length_append] at hr hown
  have hF : Fr (fun k => (Value.slice xo l.length cp).ownBlock = some k) wr w2 := (Fr.refl _ _).grown hgrow (fun g hg => .inl hg)
  exact ⟨ao, cp', w2, hr, ⟨by rw [cellsOf_append]; exact hown, h.fr.grown hgrow (fun g hg => .inr (h.own.lt g hg).1)⟩, hs.frD hF (.inr (fun g o n c e hg => hap g o n c e g hg rfl))⟩
set_option maxRecDepth 100000 in
set_option maxHeartbeats 400000 in
/-- The document's Check, of what may be. -/
theorem g5check_in (wi H K : Nat) (hw1 : 1 ≤ wi) (hw32 : wi ≤ 32) (hH : H ≤ 6) (hK : K < 2 ^ H) (pv mv sv : Value) (pub m s : List Nat) (w : World) (hg : GR w) (hp : Sl w pv pub) (hm : Sl w mv m) (hs : Sl w sv s) (hpl : pub.length = wi) (hml : m.length ≤ 16000000) (hsl : s.length = 16 * wi * wi + H * wi) :
    Calls Tryd.prog 25 #[.int .i64 wi, .int .i64 H, pv, .int .i64 K, mv, sv] w fun e w' => e = .returned (.bool (chk5 wi H pub K m s)) ∧ Fr (fun _ => False) w w' := by
  obtain ⟨po, pc, rfl⟩ := hp.form
  obtain ⟨so, sc, rfl⟩ := hs.form
  obtain ⟨mo, mc, rfl⟩ := hm.form
  have hps1 : 1 ≤ 16 * wi * wi := by
    have : 1 * 1 ≤ 16 * wi * wi := Nat.mul_le_mul (by omega) hw1
    exact this
  have hps9 : 16 * wi * wi ≤ 16384 := Nat.mul_le_mul (show 16 * wi ≤ 512 by omega) hw32
  have hhw9 : H * wi ≤ 192 := Nat.mul_le_mul hH hw32
  have hN64 : 2 ^ H ≤ 64 := Nat.pow_le_pow_right (n := 2) (by decide) hH
  obtain ⟨g, o, rfl, _⟩ := src_cell hs.s 0 (by omega) hs.b
  have hsc : s.length ≤ sc := hs.cap _ _ _ rfl
  have hmay := fun w' => g5may_any wi H w'
  rw [decide_eq_true (by omega)] at hmay
  have hsz := fun w' => g5size_any wi H w'
  rw [szF_nat wi H hw1 hw32 hH] at hsz
  have hsum := gsum_T wi _ m w hg hm.s hm.b hml
  have hhl : (sm (wi : Int) m).length = wi := by rw [sm_len ⟨by omega, by omega⟩, Int.toNat_natCast]
  have hhb := sm_lt (wi : Int) m
  rw [hhl] at hsum
  have hbit := fun (ho : Option Addr) (hc J : Nat) (w' : World) (hJ : J < 8 * wi) (h : Sl w' (.slice ho wi hc) (sm wi m)) => gbit2_in ho wi hc J hw32 hJ _ w' h hhl
  have hlk := fun y m w' (hf : Fr (fun _ => False) w w') (h : Sl w' y m) (hm : m.length ≤ 16000000) => g5lock_in wi hw1 hw32 y m w' (hg.fr0 hf) h hm
  have hmul : 16 * (wi : Int) * (wi : Int) = ((16 * wi * wi : Nat) : Int) := by simp
  have hW := wrap_pow H hH
  have hNi : ((2 ^ H : Nat) : Int) < 9223372036854775808 := small64 _ hN64
  have hpt : (s.take (16 * wi * wi)).length = 16 * wi * wi := by rw [List.length_take]; omega
  have hcp := fun lv x leaf vs w' (hf : Fr (fun _ => False) w w') (h1 : Sl w' lv leaf) (h2 : Pcs w' x vs (cuts wi (s.drop (16 * wi * wi)) H)) (h3 : Cp x) => gcheckPath_any wi K ((2 ^ H : Nat) : Int) lv _ x leaf pub vs _ w' (hg.fr0 hf) h1 (hp.fr0 hf) h2 h3 hNi (by simp [cuts]; omega)
  have hlf := fun y w' l (hf : Fr (fun _ => False) w w') (h : Sl w' y l) (hl : l.length ≤ 4000000) => gleaf_any wi y l w' (hg.fr0 hf) h.s h.b hl
  have hsub := fun a k (h : a + k ≤ 16 * wi * wi + H * wi) => hs.sub a k (by omega)
  have hres : chk5 wi H pub K m s = chkP wi (lf wi (ent (lt5 wi (sm wi m) (s.take (16 * wi * wi))) (8 * wi))) K ((2 ^ H : Nat) : Int) (cuts wi (s.drop (16 * wi * wi)) H) pub := rfl
  rw [hres]
  have hent : ∀ k, k ≤ 8 * wi → (ent (lt5 wi (sm wi m) (s.take (16 * wi * wi))) k).length = 2 * k * wi := fun k hk => ent_len _ wi k (fun J V h1 _ => lt5_len wi hw1 hw32 _ _ J V (by omega) hpt)
  have hlt5 : ∀ J V, J < 8 * wi → lt5 wi (sm wi m) (s.take (16 * wi * wi)) J V = if V = bitv (sm wi m) J then sm wi ((s.drop (2 * J * wi)).take wi) else (s.drop (2 * J * wi + wi)).take wi := fun J V hJ => by
    have : (2 * J + 2) * wi ≤ 16 * wi * wi := Nat.mul_le_mul_right wi (by omega)
    rw [Nat.add_mul] at this
    rw [lt5, take_sub _ _ _ _ (by omega), take_sub _ _ _ _ (by omega)]
  have hsub2 : ∀ J, J < 8 * wi → 2 * J * wi + 2 * wi ≤ 16 * wi * wi := fun J hJ => by
    have : (2 * J + 2) * wi ≤ 16 * wi * wi := Nat.mul_le_mul_right wi (by omega)
    rw [Nat.add_mul] at this
    exact this
  have hsb := hs.b
  have HFB := hide (fun n => ent_lt _ (lt5_lt wi (sm wi m) (s.take (16 * wi * wi)) (fun v hv => hs.b v (List.mem_of_mem_take hv))) n)
  have HHW := hide (fun (j : Nat) (hj : j ≤ H) => Nat.mul_le_mul_right wi hj)
  generalize hPS : 16 * wi * wi = PS at *
  generalize hHW : H * wi = HWI at *
  generalize hN : 2 ^ H = N at *
  generalize hHS : sm (wi : Int) m = HS at *
  generalize hF5 : lt5 wi HS (s.take PS) = F at *
  subst hpl
  have HC := hide (And.intro hmay (And.intro hsz (And.intro hsum (And.intro hbit (And.intro hlk (And.intro hcp hlf))))))
  clear hNi
  have HD := hide (And.intro hhl (And.intro hhb (And.intro hsub (And.intro hent (And.intro hlt5 (And.intro hsub2 (And.intro hs hsb)))))))
  clear hmay hsz hsum hbit hlk hcp hlf hhl hhb hsub hent hlt5 hsub2 hp hm hs hg hpt hsb hres hF5 hHS hHW hN
  generalize hSN : s.length = SN at *
  generalize m.length = ML at *
  generalize pub.length = wi at *
  subst hsl
  go_enter Tryd.func25, Tryd.ntmps25
  go_wp2_with fail
  refine ((unhide HC).1 _).mono ?_
  rintro e w1 ⟨rfl, rfl⟩
  go_wp2_with fail
  refine ((unhide HC).2.1 _).mono ?_
  rintro e w2 ⟨rfl, rfl⟩
  go_wp2_with fail
  refine (unhide HC).2.2.1.mono ?_
  rintro e w3 ⟨ho, hc, rfl, hO3⟩
  obtain ⟨wE, hrE, hoE, hFE⟩ := make0 PS w3 (by omega)
  have hS3 : Sl w3 (.slice ho wi hc) HS := (unhide HD).1 ▸ hO3.sl (unhide HD).2.1
  have H3 := hide (And.intro hS3 (And.intro (⟨hoE, hFE⟩ : OB w3 wE (some ⟨w3.heap.size, 0, none⟩) PS []) hO3.fr))
  clear hS3 hoE hFE hO3
  go_wp2_with fail
  generalize hE : 8 * wi = E at *
  go_loopw [14, 15] (fun v iv wr => ∃ (k : Nat) (zo : Option Addr) (zc n : Nat), k ≤ E ∧ iv = .int .i64 (k : Nat) ∧ v = .slice zo n zc ∧ n = (ent F k).length ∧ OB w3 wr zo zc (ent F k)) (fun _ iv _ => E - (intOf iv).toNat)
  case atStart => exact ⟨0, _, _, 0, Nat.zero_le _, rfl, rfl, rfl, (unhide H3).2.1⟩
  case round =>
    obtain ⟨k, zo, zc, n, hk, rfl, rfl, hn, hI⟩ := hrel
    by_cases hlt : k < E
    · have hlt' : (k : Int) < 8 * (wi : Int) := by omega
      have hF : Fr (fun _ => False) w2 wr := (unhide H3).2.2.trans hI.fr (fun _ _ h => h)
      have hb2 := (unhide HD).2.2.2.2.2.1 k hlt
      have hs1 := (unhide HD).2.2.1 (2 * k * wi) wi (by omega)
      have hs2 := (unhide HD).2.2.1 (2 * k * wi + wi) wi (by omega)
      have hm1 : 2 * (k : Int) * (wi : Int) = ((2 * k * wi : Nat) : Int) := by simp
      generalize hP : 2 * k * wi = P at *
      have hp9 : P ≤ 16384 := by omega
      have q0 : (0 : Int) ≤ (P : Int) := by omega
      have q1 : (P : Int) ≤ (P : Int) + (wi : Int) := by omega
      have q2 : (P : Int) + (wi : Int) ≤ (sc : Int) := by omega
      have q3 : (P : Int) + (wi : Int) ≤ (P : Int) + 2 * (wi : Int) := by omega
      have q4 : (P : Int) + 2 * (wi : Int) ≤ (sc : Int) := by omega
      have e3 : P + 2 * wi - (P + wi) = wi := by omega
      have hll : (sm (wi : Int) ((s.drop P).take wi)).length = wi := by rw [sm_len ⟨by omega, by omega⟩, Int.toNat_natCast]
      have hol : ((s.drop (P + wi)).take wi).length = wi := by rw [List.length_take, List.length_drop]; omega
      have hf0 := (unhide HD).2.2.2.2.1 k 0 hlt
      have hf1 := (unhide HD).2.2.2.2.1 k 1 hlt
      rw [hP] at hf0 hf1
      have hl1 : ((s.drop P).take wi).length ≤ 16000000 := by rw [List.length_take]; omega
      have hen : ent F (k + 1) = ent F k ++ F k 0 ++ F k 1 := rfl
      have hel := (unhide HD).2.2.2.1 k hk
      rw [hP] at hel
      have hbv := bitv_lt HS k
      have hval := (unhide HC).2.2.2.1 ho hc k
      have hlo1 := fun w' (hf : Fr (fun _ => False) w2 w') => (unhide HC).2.2.2.2.1 _ _ w' hf (hs1.fr0 hf) hl1
      have HLB := hide (sm_lt (wi : Int) ((s.drop P).take wi))
      generalize sm (wi : Int) ((s.drop P).take wi) = LK at *
      generalize (s.drop (P + wi)).take wi = OT at *
      generalize bitv HS k = V at *
      have HQ := hide (And.intro hn (And.intro hI (And.intro hF (And.intro hs2 (And.intro hll (And.intro hol (And.intro hf0 (And.intro hf1 (And.intro hen hel)))))))))
      have HV := hide (And.intro hval hlo1)
      clear hn hI hF hs1 hs2 hll hol hf0 hf1 hen hel hl1 hval hlo1
      go_wp2_with fail
      refine ((unhide HV).2 _ (unhide HQ).2.2.1).mono ?_
      rintro e w4 ⟨lo, lc, rfl, hO4⟩
      have H4 := hide (And.intro hO4 ((unhide HQ).2.1.fr.trans hO4.fr (fun _ _ h => h)))
      clear hO4
      go_wp2_with fail
      refine ((unhide HV).1 _ (by omega) ((unhide H3).1.fr0 (unhide H4).2)).mono ?_
      rintro e w5 ⟨rfl, rfl⟩
      have oZ : OB w3 w5 zo zc (ent F k) := ((unhide HQ).2.1.ow.fr0 (unhide H4).1.fr).ob (unhide H4).2
      have hLs : Sl w5 (.slice lo wi lc) LK := (unhide HQ).2.2.2.2.1 ▸ (unhide H4).1.sl (unhide HLB)
      have hap : Apt (.slice lo wi lc) (.slice zo (ent F k).length zc) := fun g o n c e g' hg' e2 => by
        have h1 := World.ownsRow.lt (unhide H4).1.own g (by cases e; rfl)
        have h2 := World.ownsRow.lt (unhide HQ).2.1.own g' hg'
        omega
      have hf5 : Fr (fun _ => False) w2 w5 := (unhide H3).2.2.trans (unhide H4).2 (fun _ _ h => h)
      have hOs := (unhide HQ).2.2.2.1.fr0 hf5
      have H5 := hide (And.intro oZ (And.intro hLs (And.intro hap hOs)))
      clear oZ hLs hap hf5 hOs
      rcases (by omega : V = 0 ∨ V = 1) with rfl | rfl
      · have hF9 : ent F (k + 1) = ent F k ++ LK ++ OT := by
          rw [(unhide HQ).2.2.2.2.2.2.2.2.1, (unhide HQ).2.2.2.2.2.2.1, (unhide HQ).2.2.2.2.2.2.2.1]; rfl
        obtain ⟨n1, hn1⟩ : ∃ n1, (ent F k ++ LK).length = n1 := ⟨_, rfl⟩
        obtain ⟨n2, hn2⟩ : ∃ n2, (ent F k ++ LK ++ OT).length = n2 := ⟨_, rfl⟩
        have hle := (unhide HQ).2.2.2.2.2.2.2.2.2
        have hLK := (unhide HQ).2.2.2.2.1
        have hOT := (unhide HQ).2.2.2.2.2.1
        obtain ⟨a6, c6, w6, hr6, oT⟩ := (unhide H5).1.app _ LK (unhide H5).2.1.s (by omega)
        rw [← (unhide HQ).1, hn1] at hr6
        obtain ⟨a7, c7, w7, hr7, oV⟩ := oT.app _ OT ((unhide HQ).2.2.2.1.fr0 ((unhide H3).2.2.trans oT.fr (fun _ _ h => h))).s (by rw [List.length_append]; omega)
        rw [hn1, hn2] at hr7
        have H6 := hide hr6
        have H7 := hide (And.intro hr7 (And.intro hn2 (And.intro hF9 oV)))
        clear hr6 hr7 hn1 hn2 hF9 oV oT hle hLK hOT
        go_wp2_with (at_builtin; first | (refine wpList_app rfl _ _ 24 24 rfl _ _ _ rfl rfl (unhide H6) ?_; clear H6) | (refine wpList_app rfl _ _ 24 24 rfl _ _ _ rfl rfl (unhide H7).1 ?_))
        exact ⟨⟨k + 1, _, _, _, by omega, by go_num, rfl, by rw [(unhide H7).2.2.1]; exact (unhide H7).2.1.symm, by rw [(unhide H7).2.2.1]; exact (unhide H7).2.2.2⟩, by simp [intOf]; omega⟩
      · have hF9 : ent F (k + 1) = ent F k ++ OT ++ LK := by
          rw [(unhide HQ).2.2.2.2.2.2.2.2.1, (unhide HQ).2.2.2.2.2.2.1, (unhide HQ).2.2.2.2.2.2.2.1]; rfl
        obtain ⟨n1, hn1⟩ : ∃ n1, (ent F k ++ OT).length = n1 := ⟨_, rfl⟩
        obtain ⟨n2, hn2⟩ : ∃ n2, (ent F k ++ OT ++ LK).length = n2 := ⟨_, rfl⟩
        have hle := (unhide HQ).2.2.2.2.2.2.2.2.2
        have hLK := (unhide HQ).2.2.2.2.1
        have hOT := (unhide HQ).2.2.2.2.2.1
        obtain ⟨a6, c6, w6, hr6, oT, hL6⟩ := (unhide H5).1.appA _ OT (unhide H5).2.2.2.s (by omega) _ LK (unhide H5).2.1 (unhide H5).2.2.1
        rw [← (unhide HQ).1, hn1] at hr6
        obtain ⟨a7, c7, w7, hr7, oV⟩ := oT.app _ LK hL6.s (by rw [List.length_append]; omega)
        rw [hn1, hn2] at hr7
        clear hL6
        have H6 := hide hr6
        have H7 := hide (And.intro hr7 (And.intro hn2 (And.intro hF9 oV)))
        clear hr6 hr7 hn1 hn2 hF9 oV oT hle hLK hOT
        go_wp2_with (at_builtin; first | (refine wpList_app rfl _ _ 24 24 rfl _ _ _ rfl rfl (unhide H6) ?_; clear H6) | (refine wpList_app rfl _ _ 24 24 rfl _ _ _ rfl rfl (unhide H7).1 ?_))
        exact ⟨⟨k + 1, _, _, _, by omega, by go_num, rfl, by rw [(unhide H7).2.2.1]; exact (unhide H7).2.1.symm, by rw [(unhide H7).2.2.1]; exact (unhide H7).2.2.2⟩, by simp [intOf]; omega⟩
    · have hlt' : ¬ (k : Int) < 8 * (wi : Int) := by omega
      have hkE : k = E := by omega
      have hel := (unhide HD).2.2.2.1 k hk
      have hPE : 2 * k * wi = PS := by rw [hkE, ← hE, ← hPS, ← Nat.mul_assoc]
      rw [hPE] at hel
      rw [hel] at hn
      rw [hkE] at hI hel
      have hn' := hn.symm
      subst hn'
      have hFw : Fr (fun _ => False) w2 wr := (unhide H3).2.2.trans hI.fr (fun _ _ h => h)
      have hEb : ∀ v ∈ ent F E, v < 256 := (unhide HFB) E
      have hEs : Sl wr (.slice zo PS zc) (ent F E) := hel ▸ hI.sl hEb
      have hpcs : ∀ w' ao cp, OS wr w' ao cp (cvs wi g (o + PS) (sc - PS) H) → Pcs w' (.slice ao H cp) (cvs wi g (o + PS) (sc - PS) H) (cuts wi (s.drop PS) H) ∧ Cp (.slice ao H cp) ∧ Fr (fun _ => False) wr w' := fun w' ao cp hO => by
        have hP := hO.pcs (ps := cuts wi (s.drop PS) H) (by simp [cvs, cuts]) (fun j v p hv hp => by
          have hj : j < H := by
            have := (List.getElem?_eq_some_iff.1 hv).1
            rwa [cvs_len] at this
          have e1 : v = .slice (some ⟨g, o + PS + j * wi, none⟩) wi (sc - PS - j * wi) := by
            simp [cvs, List.getElem?_range hj] at hv; exact hv.symm
          have e2 : p = ((s.drop PS).drop (j * wi)).take wi := by
            simp only [cuts, List.getElem?_map, List.getElem?_range hj, Option.map_some, Option.some.injEq] at hp; exact hp.symm
          have hjw : (j + 1) * wi ≤ HWI := (unhide HHW) (j + 1) (by omega)
          rw [Nat.add_mul, Nat.one_mul] at hjw
          have := (unhide HD).2.2.1 (PS + j * wi) wi (by omega)
          rw [e1, e2, List.drop_drop, Nat.add_assoc, Nat.sub_sub]
          exact this.fr0 (hFw.trans hO.fr (fun _ _ h => h)))
        rw [cvs_len] at hP
        refine ⟨hP, fun a m b e => ?_, hO.fr⟩
        cases e
        rcases hO.own.2 with ⟨e, e2⟩ | ⟨g, cap, cur, e, _, _, h3, _⟩
        · rw [cvs_len] at e2; omega
        · simp only [Value.slice.injEq, true_and] at e
          rw [cvs_len] at h3
          rw [e.2]; exact h3
      have hleaf := fun w' (hf : Fr (fun _ => False) wr w') => (unhide HC).2.2.2.2.2.2 _ w' _ (hFw.trans hf (fun _ _ h => h)) (hEs.fr0 hf) (by rw [hel]; omega)
      have hlfl := lf_len5 wi hw1 hw32 (ent F E)
      have hlfb := lf_lt (wi : Int) (ent F E)
      rw [hlfl] at hleaf
      have hcp := (unhide HC).2.2.2.2.2.1
      have hsubs := (unhide HHW)
      have HQ := hide (And.intro hpcs (And.intro hleaf (And.intro hlfl (And.intro hlfb (And.intro hcp hFw)))))
      clear hpcs hleaf hlfl hlfb hcp hFw hEs hEb hel hI hPE hkE
      generalize hLF : lf (wi : Int) (ent F E) = LF at *
      have HLF := hide hLF
      clear hLF
      go_wp2_with fail
      go_loopw [18, 19] (fun v iv wq => ∃ (i : Nat) (ao : Option Addr) (cp : Nat), i ≤ H ∧ iv = .int .i64 (i : Nat) ∧ v = .slice ao i cp ∧ OS wr wq ao cp (cvs wi g (o + PS) (sc - PS) i)) (fun _ iv _ => H - (intOf iv).toNat)
      case atStart => exact ⟨0, none, 0, Nat.zero_le _, rfl, rfl, OS.nil _⟩
      case round =>
        obtain ⟨i, ao, cp, hi, rfl, rfl, hO⟩ := hrel
        by_cases hil : i < H
        · have hil' : (i : Int) < (H : Int) := by omega
          have hjw : (i + 1) * wi ≤ HWI := hsubs (i + 1) (by omega)
          rw [Nat.add_mul, Nat.one_mul] at hjw
          have hm2 : (i : Int) * (wi : Int) = ((i * wi : Nat) : Int) := by simp
          obtain ⟨a2, c2, w5, hr5, hO5, _⟩ := hO.app1 (some ⟨g, o + (PS + i * wi), none⟩) wi (sc - (PS + i * wi)) (by rw [cvs_len]; omega)
          rw [cvs_len] at hr5
          have e5 : cvs wi g (o + PS) (sc - PS) i ++ [.slice (some ⟨g, o + (PS + i * wi), none⟩) wi (sc - (PS + i * wi))] = cvs wi g (o + PS) (sc - PS) (i + 1) := by rw [cvs_succ, Nat.add_assoc, Nat.sub_sub]
          rw [e5] at hO5
          generalize i * wi = Q at *
          have q1 : (0 : Int) ≤ (PS : Int) + (Q : Int) := by omega
          have q2 : (PS : Int) + (Q : Int) ≤ (PS : Int) + (Q : Int) + (wi : Int) := by omega
          have q3 : (PS : Int) + (Q : Int) + (wi : Int) ≤ (sc : Int) := by omega
          have e6 : PS + Q + wi - (PS + Q) = wi := by omega
          have HR := hide (And.intro hr5 hO5)
          clear hr5 hO5 hO e5
          go_wp2_with (at_builtin; refine wpList_app rfl _ _ 40 40 rfl _ _ _ rfl rfl (unhide HR).1 ?_)
          exact ⟨⟨i + 1, a2, c2, by omega, by go_num, rfl, (unhide HR).2⟩, by simp [intOf]; omega⟩
        · have hil' : ¬ (i : Int) < (H : Int) := by omega
          have hiH : i = H := by omega
          subst hiH
          obtain ⟨h1, h2, h3⟩ := (unhide HQ).1 _ _ _ hO
          have H6 := hide (And.intro h1 (And.intro h2 h3))
          clear h1 h2 h3 hO
          go_wp2_with fail
          refine ((unhide HQ).2.1 _ (unhide H6).2.2).mono ?_
          rintro e w7 ⟨lo, lc, rfl, hO7⟩
          have hl7 : Sl w7 (.slice lo wi lc) LF := (unhide HQ).2.2.1 ▸ hO7.sl (unhide HQ).2.2.2.1
          have H7 := hide (And.intro hl7 (And.intro ((unhide H6).1.fr0 hO7.fr) ((unhide HQ).2.2.2.2.2.trans ((unhide H6).2.2.trans hO7.fr (fun _ _ h => h)) (fun _ _ h => h))))
          clear hl7 hO7
          go_wp2_with fail
          refine ((unhide HQ).2.2.2.2.1 _ _ _ _ _ (unhide H7).2.2 (unhide H7).1 (unhide H7).2.1 (unhide H6).2.1).mono ?_
          rintro e w8 ⟨rfl, hF8⟩
          have H8 := hide ((unhide H7).2.2.trans hF8 (fun _ _ h => h))
          clear hF8
          go_wp2_with fail
          go_ret
          exact ⟨by rw [hE, unhide HLF]; rfl, unhide H8⟩
set_option maxRecDepth 100000 in
set_option maxHeartbeats 400000 in
/-- The document's Check, of what may not be. -/
theorem g5check_no (j h K : Int) (po so : Option Addr) (pc sc : Nat) (mv : Value) (pub s : List Nat) (w : World) (hn : ¬ okL j h K pub s) :
    Calls Tryd.prog 25 #[.int .i64 j, .int .i64 h, .slice po pub.length pc, .int .i64 K, mv, .slice so s.length sc] w fun e w' => e = .returned (.bool false) ∧ Fr (fun _ => False) w w' := by
  have hmay := hide (g5may_any j h w)
  unfold okL at hn
  by_cases h1 : (1 ≤ j ∧ j ≤ 32) ∧ 0 ≤ h ∧ h ≤ 6
  · rw [decide_eq_true h1] at hmay
    by_cases h2 : (pub.length : Int) = j
    · obtain ⟨H, rfl⟩ : ∃ H : Nat, h = (H : Int) := ⟨h.toNat, by omega⟩
      rw [Int.toNat_natCast] at hn
      have hW := wrap_pow H (by omega)
      generalize hN : ((2 ^ H : Nat) : Int) = N at *
      by_cases h3 : K < 0
      · generalize s.length = SN at *
        generalize pub.length = PN at *
        clear hn h1
        subst h2
        go_enter Tryd.func25, Tryd.ntmps25
        go_wp2_with fail
        refine (unhide hmay).mono ?_
        rintro e w0 ⟨rfl, rfl⟩
        go_wp2_with fail
        go_ret
        exact ⟨rfl, Fr.refl _ _⟩
      · have hH6 : H ≤ 6 := by omega
        by_cases h4 : N ≤ K
        · generalize s.length = SN at *
          generalize pub.length = PN at *
          clear hn h1
          subst h2
          go_enter Tryd.func25, Tryd.ntmps25
          go_wp2_with fail
          refine (unhide hmay).mono ?_
          rintro e w0 ⟨rfl, rfl⟩
          go_wp2_with fail
          go_ret
          exact ⟨rfl, Fr.refl _ _⟩
        · have hsz := hide (g5size_any j H w)
          have h5 : ¬ (s.length : Int) = szF j H := fun e => hn ⟨h1, h2, ⟨by omega, by omega⟩, e⟩
          generalize szF j H = SZ at *
          generalize s.length = SN at *
          generalize pub.length = PN at *
          clear hn h1
          subst h2
          have h6 : ((SN : Int) != SZ) = true := by simpa using h5
          go_enter Tryd.func25, Tryd.ntmps25
          go_wp2_with fail
          refine (unhide hmay).mono ?_
          rintro e w0 ⟨rfl, rfl⟩
          go_wp2_with fail
          refine (unhide hsz).mono ?_
          rintro e w0' ⟨rfl, rfl⟩
          go_wp2_with fail
          go_ret
          exact ⟨rfl, Fr.refl _ _⟩
    · generalize s.length = SN at *
      generalize pub.length = PN at *
      clear hn h1
      go_enter Tryd.func25, Tryd.ntmps25
      go_wp2_with fail
      refine (unhide hmay).mono ?_
      rintro e w0 ⟨rfl, rfl⟩
      go_wp2_with fail
      go_ret
      exact ⟨rfl, Fr.refl _ _⟩
  · rw [decide_eq_false h1] at hmay
    generalize s.length = SN at *
    generalize pub.length = PN at *
    clear hn h1
    go_enter Tryd.func25, Tryd.ntmps25
    go_wp2_with fail
    refine (unhide hmay).mono ?_
    rintro e w0 ⟨rfl, rfl⟩
    go_wp2_with fail
    go_ret
    exact ⟨rfl, Fr.refl _ _⟩
/-- The document's Check. -/
theorem g5check_any (j h K : Int) (pv mv sv : Value) (pub m s : List Nat) (w : World) (hg : GR w) (hp : Sl w pv pub) (hm : Sl w mv m) (hs : Sl w sv s) (hml : m.length ≤ 16000000) :
    Calls Tryd.prog 25 #[.int .i64 j, .int .i64 h, pv, .int .i64 K, mv, sv] w fun e w' => e = .returned (.bool (chkL j h pub K m s)) ∧ Fr (fun _ => False) w w' := by
  unfold chkL
  by_cases hok : okL j h K pub s
  · rw [if_pos hok]
    obtain ⟨h1, h2, h3, h4⟩ := hok
    obtain ⟨wi, rfl⟩ : ∃ wi : Nat, j = (wi : Int) := ⟨j.toNat, by omega⟩
    obtain ⟨H, rfl⟩ : ∃ H : Nat, h = (H : Int) := ⟨h.toNat, by omega⟩
    obtain ⟨k, rfl⟩ : ∃ k : Nat, K = (k : Int) := ⟨K.toNat, by omega⟩
    rw [Int.toNat_natCast] at h3
    rw [szF_nat wi H (by omega) (by omega) (by omega)] at h4
    rw [Int.toNat_natCast, Int.toNat_natCast]
    exact g5check_in wi H k (by omega) (by omega) (by omega) (Int.ofNat_lt.1 h3.2) pv mv sv pub m s w hg hp hm hs (by omega) hml (by omega)
  · rw [if_neg hok]
    obtain ⟨po, pc, rfl⟩ := hp.form
    obtain ⟨so, sc, rfl⟩ := hs.form
    exact g5check_no j h K po so pc sc mv pub s w hok
end Go.Proofs.YtjokmlnghpnlbaaDoor

