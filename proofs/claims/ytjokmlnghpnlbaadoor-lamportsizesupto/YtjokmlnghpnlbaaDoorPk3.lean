import Derived.Test.YtjokmlnghpnlbaaDoorPk2
import Derived.Lib.SlBytesConst
import Derived.Test.YtjokmlnghpnlbaaDoorPk1
import Derived.Test.YtjokmlnghpnlbaaDoorSre
import Derived.Test.YtjokmlnghpnlbaaDoorMae
import Derived.Test.YtjokmlnghpnlbaaDoorSbw
import Derived.Deep.RegionHeldLaw
namespace Go.Proofs.YtjokmlnghpnlbaaDoor
open Go.RowKit

set_option maxRecDepth 100000 in
set_option maxHeartbeats 1000000 in
theorem tpath_in (tb wi : Nat) (hw1 : 1 ≤ wi) (hw32 : wi ≤ 32) (L : List (List Nat)) (i n : Nat) (w : World) (hT : Tk w tb wi L) (hn : n ≤ L.length) (hi : i < n) :
    Calls Tryd.prog 42 #[.pointer (some ⟨tb, 0, none⟩), .int .i64 i, .int .i64 n] w fun e w' => ∃ ao cp vs, e = .returned (.tuple #[.slice ao vs.length cp, .int .i64 0]) ∧ OL w w' ao cp vs (bes wi L 0 n i 1) := by
  obtain ⟨c0, c1, htb⟩ := hT.c0
  have hhas : Calls Tryd.prog 69 #[.pointer (some ⟨tb, 0, none⟩), .int .i64 n] w fun e w' => e = .returned (.bool true) ∧ w' = w := by
    have := has_any tb L.length wi n w c0 c1
    rw [decide_eq_true (by omega)] at this
    exact this
  have hbes : ∀ w', Fr (fun _ => False) w w' → BesSays tb wi L 0 n i 1 w' := fun w' hf => beside_any tb wi hw1 hw32 L n 0 n i 1 w' (Nat.le_refl _) (hT.fr0 hf) (al_zero n) (by omega) (rch_one n 0 n i (Nat.le_refl _) (by omega) (by omega))
  unfold BesSays sv at hbes
  have HG := hide (And.intro hhas hbes)
  have q1 : ¬ (i : Int) < 0 := by omega
  have q2 : ¬ (n : Int) ≤ (i : Int) := by omega
  have q3 : ¬ n ≤ i := by omega
  clear hhas hbes hT c0 c1 htb hn
  go_enter Tryd.func42, Tryd.ntmps42
  go_wp2_with fail
  refine (unhide HG).1.mono ?_
  rintro e w0 ⟨rfl, rfl⟩
  go_wp2_with fail
  refine (first_any _ _ _).mono ?_
  rintro e w1 ⟨rfl, hF1⟩
  have H1 := hide hF1
  clear hF1
  go_wp2_with fail
  refine ((unhide HG).2 w1 (unhide H1)).mono ?_
  rintro e w2 ⟨ao, cp, vs, rfl, hO⟩
  have H2 := hide (hO.base (unhide H1))
  clear hO
  go_wp2_with fail
  go_returns
  exact ⟨ao, cp, vs, rfl, unhide H2⟩
set_option maxRecDepth 100000 in
theorem tpath_no (tb n : Nat) (wi i k : Int) (w : World) (c0 : w.cell? ⟨tb, 0, none⟩ = some (.int .i64 wi)) (c1 : w.cell? ⟨tb, 1, none⟩ = some (.int .i64 n)) (h : ¬ (1 ≤ wi ∧ wi ≤ 32 ∧ 0 ≤ k ∧ k ≤ n) ∨ i < 0 ∨ k ≤ i) :
    Calls Tryd.prog 42 #[.pointer (some ⟨tb, 0, none⟩), .int .i64 i, .int .i64 k] w fun e w' => e = .returned (.tuple #[.slice none 0 0, .int .i64 1]) ∧ w' = w := by
  have hhas := has_any tb n wi k w c0 c1
  by_cases hh : 1 ≤ wi ∧ wi ≤ 32 ∧ 0 ≤ k ∧ k ≤ n
  · rw [decide_eq_true hh] at hhas
    have HG := hide hhas
    have h' : i < 0 ∨ k ≤ i := by omega
    clear hhas h c0 c1
    by_cases hi : i < 0
    · clear h' hh
      go_enter Tryd.func42, Tryd.ntmps42
      go_wp2_with fail
      refine (unhide HG).mono ?_
      rintro e w0 ⟨rfl, rfl⟩
      go_wp2_with fail
      go_returns
      exact ⟨rfl, rfl⟩
    · have hk : k ≤ i := by omega
      clear h' hh
      go_enter Tryd.func42, Tryd.ntmps42
      go_wp2_with fail
      refine (unhide HG).mono ?_
      rintro e w0 ⟨rfl, rfl⟩
      go_wp2_with fail
      go_returns
      exact ⟨rfl, rfl⟩
  · rw [decide_eq_false hh] at hhas
    have HG := hide hhas
    clear hhas h hh c0 c1
    go_enter Tryd.func42, Tryd.ntmps42
    go_wp2_with fail
    refine (unhide HG).mono ?_
    rintro e w0 ⟨rfl, rfl⟩
    go_wp2_with fail
    go_returns
    exact ⟨rfl, rfl⟩
end Go.Proofs.YtjokmlnghpnlbaaDoor

namespace Go.Proofs.YtjokmlnghpnlbaaDoor
open Go.RowKit

/-- The pairs of a signature's first n bits. -/
def sgn (wi K : Nat) (seed h : List Nat) : Nat → List Nat
  | 0 => []
  | n + 1 => sgn wi K seed h n ++ sm wi (scm K n (bitv h n) seed) ++ lk wi K seed n (1 - bitv h n)
theorem sgn_len (wi K : Nat) (hw1 : 1 ≤ wi) (hw32 : wi ≤ 32) (seed h : List Nat) (n : Nat) : (sgn wi K seed h n).length = 2 * n * wi := by
  induction n with
  | zero => simp [sgn]
  | succ n ih =>
    rw [sgn, List.length_append, List.length_append, ih, lk_len wi K hw1 hw32, sm_len ⟨by omega, by omega⟩, Int.toNat_natCast, Nat.mul_succ, Nat.add_mul]
    omega
set_option maxRecDepth 100000 in
set_option maxHeartbeats 4000000 in
/-- Keys.Sign, of a key. -/
theorem lsign_in (wi H kb base tb K : Nat) (hw1 : 1 ≤ wi) (hw32 : wi ≤ 32) (hH : H ≤ 6) (hK : K < 2 ^ H) (yo : Option Addr) (SN yc : Nat) (seed : List Nat) (L : List (List Nat)) (w : World) (h : KyAt w kb base tb wi H (.slice yo SN yc) seed L) (hL : L.length = 2 ^ H) (hs : seed.length ≤ 1000000000) (x : Value) (m : List Nat) (hx : Sl w x m) (hm : m.length < 9223372036854775808) (hPB : ∀ p ∈ bes wi L 0 (2 ^ H) K 1, p.length = wi) (hPL : (bes wi L 0 (2 ^ H) K 1).length ≤ 64) :
    Calls Tryd.prog 14 #[.pointer (some ⟨kb, 0, none⟩), .int .i64 K, x] w fun e w' => ∃ zo n zc, e = .returned (.tuple #[.slice zo n zc, .int .i64 0]) ∧ n = (sgn wi K seed (sm wi m) (8 * wi) ++ (bes wi L 0 (2 ^ H) K 1).flatten).length ∧ OB w w' zo zc (sgn wi K seed (sm wi m) (8 * wi) ++ (bes wi L 0 (2 ^ H) K 1).flatten) := by
  obtain ⟨xo, xc, rfl⟩ := hx.form
  have hN64 : 2 ^ H ≤ 64 := Nat.pow_le_pow_right (n := 2) (by decide) hH
  have hlen := fun w' (hf : Fr (fun _ => False) w w') => lkeylen_any kb H hH w' (h.fr0 hf).c1
  have hpath := fun w' (hf : Fr (fun _ => False) w w') => tpath_in tb wi hw1 hw32 L K (2 ^ H) w' ((h.fr0 hf).tk (by omega)) (by omega) hK
  have hbits := fun w' (hf : Fr (fun _ => False) w w') => lbitsOf_in wi hw1 hw32 _ m w' (h.gs.fr0 hf) (hx.fr0 hf) hm
  have hlk := fun w' (hf : Fr (fun _ => False) w w') => llocks_any kb wi K _ seed w' (h.fr0 hf).c0 (h.fr0 hf).c2 (h.fr0 hf).sl
  have hcc : ∀ w', Fr (fun _ => False) w w' → w'.cell? ⟨kb, 0, none⟩ = some (.int .i64 (wi : Int)) ∧ w'.cell? ⟨kb, 1, none⟩ = some (.int .i64 (H : Int)) ∧ w'.cell? ⟨kb, 2, none⟩ = some (.slice yo SN yc) ∧ w'.cell? ⟨kb, 3, none⟩ = some (.pointer (some ⟨tb, 0, none⟩)) := fun w' hf => ⟨(h.fr0 hf).c0, (h.fr0 hf).c1, (h.fr0 hf).c2, (h.fr0 hf).c3⟩
  have hsz := fun w' => lsize_any wi H w'
  rw [szF_nat wi H hw1 hw32 hH] at hsz
  have hps9 : 16 * wi * wi ≤ 16384 := Nat.mul_le_mul (show 16 * wi ≤ 512 by omega) hw32
  have hhw9 : H * wi ≤ 192 := Nat.mul_le_mul hH hw32
  have hsz9 : 16 * wi * wi + H * wi ≤ 16777216 := by omega
  generalize hSZ : 16 * wi * wi + H * wi = SZ at *
  have hbc := fun w' => lbits_any wi hw32 w'
  generalize bes wi L 0 (2 ^ H) K 1 = PT at *
  generalize hN : 2 ^ H = N at *
  generalize m.length = ML at *
  have HC := hide (And.intro hlen (And.intro hpath (And.intro hbits (And.intro hlk (And.intro hcc (And.intro hsz hbc))))))
  clear hlen hpath hbits hlk hcc hsz hbc
  have HK := hide (And.intro h (And.intro hx hs))
  have HPB := hide (And.intro hPB hPL)
  clear h hx hPB hPL
  have T1 : True := trivial
  go_enter Tryd.func14, Tryd.ntmps14
  go_wp2_with fail
  go_region_held3 (fun w' => w'.cell? ⟨kb, 0, none⟩ = some (.int .i64 (wi : Int)) ∧ w'.cell? ⟨kb, 1, none⟩ = some (.int .i64 (H : Int)) ∧ w'.cell? ⟨kb, 2, none⟩ = some (.slice yo SN yc) ∧ w'.cell? ⟨kb, 3, none⟩ = some (.pointer (some ⟨tb, 0, none⟩)))
    (first | assumption | exact (unhide HC).2.2.2.2.1 _ (Fr.refl _ _).drew | exact (unhide HC).2.2.2.2.1 _ fB | exact (unhide HC).2.2.2.2.1 _ fA)
    (first
      | (go_at_call 12; clear T1; refine ((unhide HC).1 _ (Fr.refl _ _).drew).mono ?_; rintro e wA ⟨rfl, rfl⟩; have fA : Fr (fun _ => False) w w.drew := (Fr.refl _ _).drew)
      | (go_at_call 42; refine ((unhide HC).2.1 _ fA).mono ?_; rintro e wB ⟨ao, cp, vs, rfl, oB⟩; have fB : Fr (fun _ => False) w wB := fA.trans oB.own.fr (fun _ _ h => h)))
  have H1 := hide (And.intro (oB.base fA) fB)
  clear fA fB oB
  generalize hVL : vs.length = VL at *
  obtain ⟨d0, d1, d2, d3⟩ := (unhide HC).2.2.2.2.1 _ (unhide H1).2
  go_wp2_with fail
  refine ((unhide HC).2.2.1 _ (unhide H1).2).mono ?_
  rintro e wC ⟨hb, ho, rfl, bC, gC⟩
  have H2 := hide (And.intro bC (And.intro ((unhide H1).1.fr0 gC) ((unhide H1).2.trans gC (fun _ _ h => h))))
  clear bC gC d0 d1 d2 d3 H1
  go_wp2_with fail
  refine ((unhide HC).2.2.2.1 _ (unhide H2).2.2).mono ?_
  rintro e wD ⟨bk, bi, rfl, lD, gD⟩
  have H3 := hide (And.intro lD (And.intro ((unhide H2).1.fr0 gD) (And.intro ((unhide H2).2.1.fr0 gD) ((unhide H2).2.2.trans gD (fun _ _ h => h)))))
  clear lD gD H2
  obtain ⟨d0, d1, d2, d3⟩ := (unhide HC).2.2.2.2.1 _ (unhide H3).2.2.2
  obtain ⟨wE, hrE, hoE, hFE⟩ := make0 SZ wD.drew hsz9
  have HE := hide (And.intro hoE hFE)
  clear hoE hFE
  have fE : Fr (fun _ => False) w wE := (unhide H3).2.2.2.drew.trans (unhide HE).2 (fun _ _ h => h)
  have HFE := hide fE
  clear fE
  go_wp2_with fail
  go_region_held3 (fun w' => w'.cell? ⟨kb, 0, none⟩ = some (.int .i64 (wi : Int)) ∧ w'.cell? ⟨kb, 1, none⟩ = some (.int .i64 (H : Int)) ∧ w'.cell? ⟨kb, 2, none⟩ = some (.slice yo SN yc) ∧ w'.cell? ⟨kb, 3, none⟩ = some (.pointer (some ⟨tb, 0, none⟩)))
    (first | assumption | exact ⟨d0, d1, d2, d3⟩ | exact (unhide HC).2.2.2.2.1 _ (unhide HFE) | exact (unhide HC).2.2.2.2.1 _ (unhide H3).2.2.2.drew)
    (first
      | (go_at_call 9; refine ((unhide HC).2.2.2.2.2.1 _).mono ?_; rintro e wX ⟨rfl, rfl⟩))
  clear d0 d1 d2 d3
  obtain ⟨d0, d1, d2, d3⟩ := (unhide HC).2.2.2.2.1 _ (unhide HFE)
  go_wp2_with fail
  refine ((unhide HC).2.2.2.2.2.2 _).mono ?_
  rintro e wX ⟨rfl, rfl⟩
  generalize hE8 : 8 * wi = E at *
  go_wp2_with fail
  have hOE : OB wD wX (some ⟨wD.heap.size, 0, none⟩) SZ [] := OB.base (w := wD) ⟨(unhide HE).1, (unhide HE).2⟩ (Fr.refl _ _).drew
  have HO := hide hOE
  clear hOE d0 d1 d2 d3 hrE
  go_loopw [12, 55] (fun v iv wr => ∃ (k : Nat) (zo : Option Addr) (zc n : Nat), k ≤ E ∧ iv = .int .i64 (k : Nat) ∧ v = .slice zo n zc ∧ n = (sgn wi K seed (sm wi m) k).length ∧ OB wD wr zo zc (sgn wi K seed (sm wi m) k)) (fun _ iv _ => E - (intOf iv).toNat)
  case atStart => exact ⟨0, _, _, 0, Nat.zero_le _, rfl, rfl, rfl, unhide HO⟩
  case round =>
    obtain ⟨k, zo, zc, n, hk, rfl, rfl, hn, hI⟩ := hrel
    by_cases hlt : k < E
    · have hlt' : (k : Int) < (E : Int) := by omega
      have hF : Fr (fun _ => False) w wr := (unhide H3).2.2.2.trans hI.fr (fun _ _ h => h)
      have hsm : (sm (wi : Int) m).length = wi := by rw [sm_len ⟨by omega, by omega⟩, Int.toNat_natCast]
      have hval := fun w' (hf : Fr (fun _ => False) wD w') => lbitsOf1_in hb ho wi k hw32 (by omega) _ w' ((unhide H3).2.1.fr0 hf) hsm
      have hbv := bitv_lt (sm (wi : Int) m) k
      have hsec := fun w' (hf : Fr (fun _ => False) wD w') => lsecret_in wi K k (bitv (sm (wi : Int) m) k) hw1 hw32 (by omega) (by omega) hbv _ seed w' ((unhide HK).1.gs.fr0 ((unhide H3).2.2.2.trans hf (fun _ _ h => h))) ((unhide HK).1.sl.fr0 ((unhide H3).2.2.2.trans hf (fun _ _ h => h))) (by omega)
      have hlck := fun w' (hf : Fr (fun _ => False) wD w') => llocks1_in bk bi kb wi K k (1 - bitv (sm (wi : Int) m) k) hw1 hw32 (by omega) (by omega) (by omega) _ seed w' ((unhide HK).1.gs.fr0 ((unhide H3).2.2.2.trans hf (fun _ _ h => h))) ((unhide H3).1.fr0 hf) (by omega)
      obtain ⟨d0, d1, d2, d3⟩ := (unhide HC).2.2.2.2.1 _ hF
      have HQ := hide (And.intro hval (And.intro hsec (And.intro hlck (And.intro hn hI))))
      clear hval hsec hlck hn hI
      have hsg : sgn wi K seed (sm wi m) (k + 1) = sgn wi K seed (sm wi m) k ++ sm wi (scm K k (bitv (sm wi m) k) seed) ++ lk wi K seed k (1 - bitv (sm wi m) k) := rfl
      have HG := hide hsg
      clear hsg
      have e1 : (1 : Int) - ((bitv (sm (wi : Int) m) k : Nat) : Int) = ((1 - bitv (sm (wi : Int) m) k : Nat) : Int) := by omega
      generalize bitv (sm (wi : Int) m) k = V at *
      go_wp2_with fail
      refine ((unhide HQ).1 _ (unhide HQ).2.2.2.2.fr).mono ?_
      rintro e wY ⟨rfl, hFY⟩
      have HY := hide hFY
      clear hFY d0 d1 d2 d3
      have hsl0 : (sm (wi : Int) (scm K k V seed)).length = wi := by rw [sm_len ⟨by omega, by omega⟩, Int.toNat_natCast]
      have hlk0 := lk_len wi K hw1 hw32 seed k (1 - V)
      have hsb0 := sm_lt (wi : Int) (scm K k V seed)
      have hlb0 := lk_lt wi K seed k (1 - V)
      have hb3 : 2 * k * wi ≤ 512 * 32 := Nat.mul_le_mul (by omega) hw32
      have hll := sgn_len wi K hw1 hw32 seed (sm wi m) k
      generalize sgn wi K seed (sm wi m) k = S0 at *
      generalize sm (wi : Int) (scm K k V seed) = S1 at *
      generalize lk wi K seed k (1 - V) = S2 at *
      have HB := hide (And.intro hsl0 (And.intro hlk0 (And.intro hsb0 (And.intro hlb0 (And.intro hb3 hll)))))
      clear hsl0 hlk0 hsb0 hlb0 hb3 hll
      have T3 : True := trivial
      go_wp2_with fail
      go_region_held3 (fun w' => w'.cell? ⟨kb, 0, none⟩ = some (.int .i64 (wi : Int)) ∧ w'.cell? ⟨kb, 1, none⟩ = some (.int .i64 (H : Int)) ∧ w'.cell? ⟨kb, 2, none⟩ = some (.slice yo SN yc) ∧ w'.cell? ⟨kb, 3, none⟩ = some (.pointer (some ⟨tb, 0, none⟩)))
        (first | assumption | exact (unhide HC).2.2.2.2.1 _ ((hF.trans (unhide HY) (fun _ _ h => h)).drew) | exact (unhide HC).2.2.2.2.1 _ ((unhide H3).2.2.2.trans oT.fr (fun _ _ h => h)) | exact (unhide HC).2.2.2.2.1 _ ((unhide H3).2.2.2.trans fS (fun _ _ h => h)))
        (first
          | (go_at_call 10; clear T3; refine ((unhide HQ).2.1 _ (((unhide HQ).2.2.2.2.fr.trans (unhide HY) (fun _ _ h => h)).drew)).mono ?_; rintro e wS ⟨so, rfl, oS⟩; have fS : Fr (fun _ => False) wD wS := ((unhide HQ).2.2.2.2.fr.trans (unhide HY) (fun _ _ h => h)).drew.trans oS.fr (fun _ _ h => h); have oZ : OB wD wS zo zc S0 := ((unhide HQ).2.2.2.2.ow.fr0 ((unhide HY).drew.trans oS.fr (fun _ _ h => h))).ob fS; obtain ⟨a2, c2, w2, hr2, oT⟩ := oZ.app _ S1 oS.src (by have := (unhide HB).1; have := (unhide HB).2.2.2.2.1; have := (unhide HB).2.2.2.2.2; omega); rw [(unhide HB).1, ← (unhide HQ).2.2.2.1] at hr2)
          | (refine step_app rfl (.tmp 61) (.tmp 73) 24 24 rfl _ _ _ (by simp [Act.eval]) (by simp [Act.eval]) hr2 ?_))
      have HT := hide (And.intro oT (And.intro fS oS))
      clear oT oZ oS fS hr2
      generalize hn2 : (S0 ++ S1).length = n2 at *
      rw [List.length_append] at hn2
      rw [hn2]
      go_wp2_with fail
      refine ((unhide HQ).2.2.1 _ (unhide HT).1.fr).mono ?_
      rintro e wU ⟨uo, rfl, oU⟩
      have fU : Fr (fun _ => False) wD wU := (unhide HT).1.fr.trans oU.fr (fun _ _ h => h)
      have oZ2 : OB wD wU a2 c2 (S0 ++ S1) := ((unhide HT).1.ow.fr0 oU.fr).ob fU
      obtain ⟨a3, c3, w3, hr3, oV⟩ := oZ2.app _ S2 oU.src (by have := (unhide HB).1; have := (unhide HB).2.1; have := (unhide HB).2.2.2.2.1; have := (unhide HB).2.2.2.2.2; rw [List.length_append]; omega)
      rw [(unhide HB).2.1, List.length_append, hn2] at hr3
      have HV := hide (And.intro hr3 oV)
      clear hr3 oV oZ2 fU oU
      go_wp2_with (at_builtin; refine wpList_app rfl _ _ 24 24 rfl _ _ _ rfl rfl (unhide HV).1 ?_)
      exact ⟨⟨k + 1, _, _, _, by omega, by go_num, rfl, by rw [unhide HG]; simp, by rw [unhide HG]; exact (unhide HV).2⟩, by simp [intOf]; omega⟩
    · have hlt' : ¬ (k : Int) < (E : Int) := by omega
      have hkE : k = E := by omega
      subst hkE
      have hPc := (unhide H3).2.2.1.pcs
      have hPl : vs.length = PT.length := (unhide H3).2.2.1.len
      rw [hVL] at hPc hPl
      have hgl := sgn_len wi K hw1 hw32 seed (sm wi m) k
      have hb3 : 2 * k * wi ≤ 512 * 32 := Nat.mul_le_mul (by omega) hw32
      generalize hSG : sgn wi K seed (sm wi m) k = S0 at *
      have hfb : ∀ j, j ≤ VL → (fl PT j).length ≤ 32 * j := fun j => by
        induction j with
        | zero => intro _; simp [fl]
        | succ j ih =>
          intro hj
          have h1 := ih (by omega)
          have h2 := (unhide HPB).1 (PT[j]'(by omega)) (List.getElem_mem _)
          rw [fl_succ PT j (by omega), List.length_append]
          omega
      have HQ := hide (And.intro hn (And.intro hI (And.intro hPc (And.intro hgl (And.intro hb3 hfb)))))
      clear hn hI hPc hgl hb3 hfb
      have HSG := hide (And.intro hSG hE8)
      clear hSG hE8
      go_wp2_with fail
      go_loopw [12, 85] (fun v iv wq => ∃ (j : Nat) (qo : Option Addr) (qc n' : Nat), j ≤ VL ∧ iv = .int .i64 (j : Nat) ∧ v = .slice qo n' qc ∧ n' = (S0 ++ fl PT j).length ∧ OB wD wq qo qc (S0 ++ fl PT j)) (fun _ iv _ => VL - (intOf iv).toNat)
      case atStart => exact ⟨0, _, _, _, Nat.zero_le _, rfl, rfl, by simp [fl, (unhide HQ).1], by simpa [fl] using (unhide HQ).2.1⟩
      case round =>
        obtain ⟨j, qo, qc, n', hj, rfl, rfl, hn', hO⟩ := hrel
        have hPL := (unhide HPB).2
        by_cases hjl : j < VL
        · have hjl' : (j : Int) < (VL : Int) := by omega
          have hkp : j < PT.length := by omega
          obtain ⟨g, o, v, rfl, hcell, hsrc, hcap, _, _⟩ := (unhide HQ).2.2.1.cell hO.fr j hkp
          obtain ⟨vo, vc, rfl⟩ := hsrc.form
          have hb1 := (unhide HPB).1 PT[j] (List.getElem_mem hkp)
          have hb2 := (unhide HQ).2.2.2.2.2 j hj
          have hb4 := (unhide HQ).2.2.2.1
          have hb5 := (unhide HQ).2.2.2.2.1
          obtain ⟨a2, c2, w2, hr2, hO2⟩ := hO.app _ PT[j] hsrc (by rw [List.length_append]; omega)
          rw [← hn'] at hr2
          have e2 : (S0 ++ fl PT j) ++ PT[j] = S0 ++ fl PT (j + 1) := by rw [fl_succ PT j hkp, List.append_assoc]
          rw [e2] at hr2 hO2
          have HR2 := hide (And.intro hr2 hO2)
          clear hr2 hO2 e2 hO hsrc hcap hn' hb1 hb2 hb4 hb5
          go_wp2_with (at_builtin; refine wpList_app rfl _ _ 24 24 rfl _ _ _ rfl rfl (unhide HR2).1 ?_)
          exact ⟨⟨j + 1, _, _, _, by omega, by go_num, rfl, by simp, (unhide HR2).2⟩, by simp [intOf]; omega⟩
        · have hjl' : ¬ (j : Int) < (VL : Int) := by omega
          have hjV : j = VL := by omega
          have e : fl PT j = PT.flatten := by rw [hjV, hPl, fl_all]
          rw [e] at hO hn'
          have HO2 := hide (And.intro hn' (hO.base (unhide H3).2.2.2))
          clear hO hn' e hjV
          go_wp2_with fail
          refine bodyPost_ret (v := .tuple #[.slice qo n' qc, .int .i64 0]) (by simp [results, Tryd.results14, go_sem]) rfl ?_
          rw [(unhide HSG).2, (unhide HSG).1]
          exact ⟨qo, n', qc, rfl, by simpa using (unhide HO2).1, (unhide HO2).2⟩
end Go.Proofs.YtjokmlnghpnlbaaDoor

namespace Go.Proofs.YtjokmlnghpnlbaaDoor
open Go.RowKit

theorem bes_wid (wi : Nat) (hw1 : 1 ≤ wi) (hw32 : wi ≤ 32) (L : List (List Nat)) (hL : ∀ p ∈ L, p.length = wi) (m : Nat) : ∀ f n tf tn, n ≤ m → ∀ p ∈ bes wi L f n tf tn, p.length = wi := by
  induction m with
  | zero => intro f n tf tn h p hp; rw [bes, dif_pos (by omega)] at hp; cases hp
  | succ m ih =>
    intro f n tf tn h p hp
    by_cases e : (f = tf ∧ n = tn) ∨ n < 2
    · rw [bes, dif_pos e] at hp; cases hp
    · have hlt := hf_lt n (by omega)
      have hpos := hf_pos n
      by_cases hl : tf < f + hf n
      · rw [bes_l (by omega) (by omega) hl] at hp
        rcases List.mem_append.1 hp with hp | hp
        · exact ih _ _ _ _ (by omega) p hp
        · simp at hp; subst hp; exact mth_wid wi hw1 hw32 _ (fun p hp => hL p (blk_mem _ _ _ p hp))
      · rw [bes_r (by omega) (by omega) hl] at hp
        rcases List.mem_append.1 hp with hp | hp
        · exact ih _ _ _ _ (by omega) p hp
        · simp at hp; subst hp; exact mth_wid wi hw1 hw32 _ (fun p hp => hL p (blk_mem _ _ _ p hp))
theorem wdq_of {j : Int} {ps : List (List Nat)} (h : ∀ p ∈ ps, (p.length : Int) = j) : wdq j ps = true := by
  rw [wdq, List.all_eq_true]
  intro p hp
  simpa using h p hp
/-- A path that the tree tells is taken. -/
theorem chkP_bes (wi : Nat) (hw1 : 1 ≤ wi) (hw32 : wi ≤ 32) (L : List (List Nat)) (hL : ∀ p ∈ L, p.length = wi) (i : Nat) (hi : i < L.length) : chkP wi (L[i]) i L.length (bes wi L 0 L.length i 1) (mth wi L) = true := by
  have hb : blk L i 1 = [L[i]] := by
    rw [blk, List.drop_eq_getElem_cons hi]; rfl
  have ht := topv_bes wi L L.length 0 L.length i 1 (Nat.le_refl _) (by omega) (rch_one _ 0 L.length i (Nat.le_refl _) (by omega) (by omega))
  rw [hb, mth_one, blk_all] at ht
  rw [chkP, decide_eq_true (by omega), decide_eq_true (by omega), decide_eq_true (by omega), wdq_of (fun p hp => ?_), wdq_of (fun p hp => ?_), Int.toNat_natCast, Int.toNat_natCast, Int.toNat_natCast, bes_len _ _ _ _ _ _ _ (Nat.le_refl _), decide_eq_true rfl, ht, decide_eq_true rfl]
  · rfl
  · have := bes_wid wi hw1 hw32 L hL _ 0 L.length i 1 (Nat.le_refl _) p hp
    omega
  · simp at hp
    rcases hp with rfl | rfl
    · have := hL L[i] (List.getElem_mem _); omega
    · have := mth_wid wi hw1 hw32 L hL; omega
/-- In a whole tree every path has its height's length. -/
theorem dep_pow (H : Nat) : ∀ f i, f ≤ i → i < f + 2 ^ H → dep f (2 ^ H) i 1 = H := by
  induction H with
  | zero =>
    intro f i h1 h2
    obtain rfl : f = i := by rw [Nat.pow_zero] at h2; omega
    exact dep_eq _ _
  | succ H ih =>
    intro f i h1 h2
    have hp : 0 < 2 ^ H := Nat.pow_pos (by decide)
    have e : 2 ^ (H + 1) = 2 * 2 ^ H := by rw [Nat.pow_succ]; omega
    have hh : hf (2 ^ (H + 1)) = 2 ^ H := hf_uniq _ _ (by omega) (by omega)
    by_cases hl : i < f + hf (2 ^ (H + 1))
    · rw [dep_l (by omega) (by omega) hl, hh, ih f i h1 (by omega)]
    · rw [dep_r (by omega) (by omega) hl, hh, show 2 ^ (H + 1) - 2 ^ H = 2 ^ H by omega, ih _ i (by omega) (by omega)]
theorem besH_len (wi : Nat) (L : List (List Nat)) (H K : Nat) (hK : K < 2 ^ H) : (bes wi L 0 (2 ^ H) K 1).length = H := by
  rw [bes_len _ _ _ _ _ _ _ (Nat.le_refl _), dep_pow H 0 K (Nat.zero_le _) (by omega)]
theorem flat_drop (wi : Nat) (ps : List (List Nat)) (h : ∀ p ∈ ps, p.length = wi) : ∀ j, ps.flatten.drop (j * wi) = (ps.drop j).flatten := by
  induction ps with
  | nil => intro j; simp
  | cons p ps ih =>
    intro j
    cases j with
    | zero => simp
    | succ j =>
      have hp := h p (List.mem_cons_self ..)
      rw [List.flatten_cons, Nat.succ_mul, Nat.add_comm, ← List.drop_drop, List.drop_left' hp, List.drop_succ_cons]
      exact ih (fun q hq => h q (List.mem_cons_of_mem _ hq)) j
theorem flat_len (wi : Nat) (ps : List (List Nat)) (h : ∀ p ∈ ps, p.length = wi) : ps.flatten.length = ps.length * wi := by
  induction ps with
  | nil => simp
  | cons p ps ih =>
    rw [List.flatten_cons, List.length_append, ih (fun q hq => h q (List.mem_cons_of_mem _ hq)), h p (List.mem_cons_self ..), List.length_cons, Nat.succ_mul]
    omega
theorem cuts_flat (wi : Nat) (ps : List (List Nat)) (h : ∀ p ∈ ps, p.length = wi) : cuts wi ps.flatten ps.length = ps := by
  refine List.ext_getElem (by simp [cuts]) (fun j h1 h2 => ?_)
  have e : (cuts wi ps.flatten ps.length)[j] = (ps.flatten.drop (j * wi)).take wi := by simp [cuts]
  rw [e, flat_drop wi ps h, List.drop_eq_getElem_cons h2, List.flatten_cons, List.take_left' (h _ (List.getElem_mem _))]
theorem sgn_at (wi K : Nat) (seed h : List Nat) (J n : Nat) (hJ : J < n) : ∃ r, sgn wi K seed h n = sgn wi K seed h J ++ (sm wi (scm K J (bitv h J) seed) ++ (lk wi K seed J (1 - bitv h J) ++ r)) := by
  induction n with
  | zero => omega
  | succ n ih =>
    by_cases e : J = n
    · subst e; exact ⟨[], by simp [sgn]⟩
    · obtain ⟨r, hr⟩ := ih (by omega)
      refine ⟨r ++ sm wi (scm K n (bitv h n) seed) ++ lk wi K seed n (1 - bitv h n), ?_⟩
      rw [sgn, hr]; simp
theorem lt5_sgn (wi K : Nat) (hw1 : 1 ≤ wi) (hw32 : wi ≤ 32) (seed h : List Nat) (n J V : Nat) (hJ : J < n) (hV : V < 2) : lt5 wi h (sgn wi K seed h n) J V = lk wi K seed J V := by
  obtain ⟨r, hr⟩ := sgn_at wi K seed h J n hJ
  have h0 := sgn_len wi K hw1 hw32 seed h J
  have h1 : (sm (wi : Int) (scm K J (bitv h J) seed)).length = wi := by rw [sm_len ⟨by omega, by omega⟩, Int.toNat_natCast]
  have h2 := lk_len wi K hw1 hw32 seed J (1 - bitv h J)
  have hb := bitv_lt h J
  rw [hr]
  unfold lt5
  split
  · rename_i e
    rw [List.drop_left' h0, List.take_left' h1, e]; rfl
  · rename_i e
    rw [← List.drop_drop, List.drop_left' h0, List.drop_left' h1, List.take_left' h2]
    congr 1
    omega
theorem ent_congr (f g : Nat → Nat → List Nat) (n : Nat) (h : ∀ J V, J < n → V < 2 → f J V = g J V) : ent f n = ent g n := by
  induction n with
  | zero => rfl
  | succ n ih => rw [ent, ent, ih (fun J V h1 h2 => h J V (by omega) h2), h n 0 (by omega) (by decide), h n 1 (by omega) (by decide)]
theorem lvs_wid (wi : Nat) (hw1 : 1 ≤ wi) (hw32 : wi ≤ 32) (seed : List Nat) (n : Nat) : ∀ p ∈ lvs wi seed n, p.length = wi := by
  intro p hp
  obtain ⟨k, _, rfl⟩ := List.mem_map.1 hp
  exact lf_len5 wi hw1 hw32 _
theorem lvs_get (wi : Nat) (seed : List Nat) (n k : Nat) (h : k < (lvs wi seed n).length) : (lvs wi seed n)[k] = lf wi (eN wi seed k) := by simp [lvs]
/-- What Sign tells. -/
def sig (wi H K : Nat) (seed h : List Nat) : List Nat := sgn wi K seed h (8 * wi) ++ (bes wi (lvs wi seed (2 ^ H)) 0 (2 ^ H) K 1).flatten
theorem sig_len (wi H K : Nat) (hw1 : 1 ≤ wi) (hw32 : wi ≤ 32) (hK : K < 2 ^ H) (seed h : List Nat) : (sig wi H K seed h).length = 16 * wi * wi + H * wi := by
  rw [sig, List.length_append, sgn_len wi K hw1 hw32, flat_len wi _ (bes_wid wi hw1 hw32 _ (lvs_wid wi hw1 hw32 seed _) _ _ _ _ _ (Nat.le_refl _)), besH_len wi _ H K hK, ← Nat.mul_assoc]
/-- A signature is taken, for every message with that hash. -/
theorem chk5_sig (wi H K : Nat) (hw1 : 1 ≤ wi) (hw32 : wi ≤ 32) (hK : K < 2 ^ H) (seed m : List Nat) : chk5 wi H (mth wi (lvs wi seed (2 ^ H))) K m (sig wi H K seed (sm wi m)) = true := by
  have h0 : (sgn wi K seed (sm (wi : Int) m) (8 * wi)).length = 16 * wi * wi := by rw [sgn_len wi K hw1 hw32, ← Nat.mul_assoc]
  have hwd := bes_wid wi hw1 hw32 _ (lvs_wid wi hw1 hw32 seed (2 ^ H)) _ 0 (2 ^ H) K 1 (Nat.le_refl _)
  have hl := besH_len wi (lvs wi seed (2 ^ H)) H K hK
  have hc := cuts_flat wi _ hwd
  rw [hl] at hc
  rw [chk5, sig, List.take_left' h0, List.drop_left' h0, hc, ent_congr _ _ _ (fun J V h1 h2 => lt5_sgn wi K hw1 hw32 seed (sm wi m) (8 * wi) J V h1 h2)]
  have := chkP_bes wi hw1 hw32 (lvs wi seed (2 ^ H)) (lvs_wid wi hw1 hw32 seed _) K (by rw [lvs_len]; exact hK)
  rw [lvs_get, lvs_len] at this
  exact this
theorem chkL_sig (wi H K : Nat) (hw1 : 1 ≤ wi) (hw32 : wi ≤ 32) (hH : H ≤ 6) (hK : K < 2 ^ H) (seed m : List Nat) : chkL wi H (mth wi (lvs wi seed (2 ^ H))) K m (sig wi H K seed (sm wi m)) = true := by
  have h1 := mth_wid wi hw1 hw32 (lvs wi seed (2 ^ H)) (lvs_wid wi hw1 hw32 seed _)
  rw [chkL, if_pos, Int.toNat_natCast, Int.toNat_natCast]
  · exact chk5_sig wi H K hw1 hw32 hK seed m
  · refine ⟨⟨by omega, by omega⟩, by omega, ⟨by omega, ?_⟩, ?_⟩
    · rw [Int.toNat_natCast]; omega
    · rw [szF_nat wi H hw1 hw32 hH, sig_len wi H K hw1 hw32 hK]
theorem chkL_len (wi H K : Nat) (hw1 : 1 ≤ wi) (hw32 : wi ≤ 32) (hH : H ≤ 6) (pub m s : List Nat) (hs : ¬ s.length = 16 * wi * wi + H * wi) : chkL wi H pub K m s = false := by
  rw [chkL, if_neg]
  rintro ⟨_, _, _, h⟩
  rw [szF_nat wi H hw1 hw32 hH] at h
  omega
end Go.Proofs.YtjokmlnghpnlbaaDoor

namespace Go.Proofs.YtjokmlnghpnlbaaDoor
open Go.RowKit

set_option maxRecDepth 100000 in
/-- New, of what may not be. -/
theorem lnew_no (j h : Int) (hn : ¬ ((1 ≤ j ∧ j ≤ 32) ∧ 0 ≤ h ∧ h ≤ 6)) (x : Value) (w : World) :
    Calls Tryd.prog 11 #[.int .i64 j, .int .i64 h, x] w fun e w' => e = .returned (.tuple #[.pointer none, .int .i64 1]) ∧ w' = w := by
  have hmay := lmay_any j h w
  rw [decide_eq_false hn] at hmay
  have HC := hide hmay
  clear hmay hn
  go_enter Tryd.func11, Tryd.ntmps11
  go_wp2_with fail
  refine (unhide HC).mono ?_
  rintro e w0 ⟨rfl, rfl⟩
  go_wp2_with fail
  refine bodyPost_ret (v := .tuple #[.pointer none, .int .i64 1]) (by simp [results, Tryd.results11, go_sem]) rfl ?_
  exact ⟨rfl, rfl⟩
set_option maxRecDepth 100000 in
set_option maxHeartbeats 4000000 in
/-- Keys.Sign, of what is no key. -/
theorem lsign_no (wi H kb base tb : Nat) (hH : H ≤ 6) (K : Int) (hK : ¬ (0 ≤ K ∧ K < ((2 ^ H : Nat) : Int))) (x y : Value) (seed : List Nat) (L : List (List Nat)) (w : World) (h : KyAt w kb base tb wi H x seed L) (hL : L.length = 2 ^ H) :
    Calls Tryd.prog 14 #[.pointer (some ⟨kb, 0, none⟩), .int .i64 K, y] w fun e w' => e = .returned (.tuple #[.slice none 0 0, .int .i64 1]) ∧ Fr (fun _ => False) w w' := by
  have hN64 : 2 ^ H ≤ 64 := Nat.pow_le_pow_right (n := 2) (by decide) hH
  have hlen := fun w' (hf : Fr (fun _ => False) w w') => lkeylen_any kb H hH w' (h.fr0 hf).c1
  have hpath := fun w' (hf : Fr (fun _ => False) w w') => tpath_no tb L.length wi K ((2 ^ H : Nat) : Int) w' ((h.fr0 hf).tk (by omega)).c0.1 ((h.fr0 hf).tk (by omega)).c0.2.1 (.inr (by omega))
  have hc3 := fun w' (hf : Fr (fun _ => False) w w') => (h.fr0 hf).c3
  generalize 2 ^ H = N at *
  have HC := hide (And.intro hlen (And.intro hpath hc3))
  clear hlen hpath hc3 h hL hK
  have T1 : True := trivial
  go_enter Tryd.func14, Tryd.ntmps14
  go_wp2_with fail
  go_region_held3 (fun w' => w'.cell? ⟨kb, 3, none⟩ = some (.pointer (some ⟨tb, 0, none⟩)))
    (first | assumption | exact (unhide HC).2.2 _ (Fr.refl _ _).drew | exact (unhide HC).2.2 _ fA)
    (first
      | (go_at_call 12; clear T1; refine ((unhide HC).1 _ (Fr.refl _ _).drew).mono ?_; rintro e wA ⟨rfl, rfl⟩; have fA : Fr (fun _ => False) w w.drew := (Fr.refl _ _).drew)
      | (go_at_call 42; refine ((unhide HC).2.1 _ fA).mono ?_; rintro e wB ⟨rfl, rfl⟩))
  have H1 := hide fA
  clear fA
  go_wp2_with fail
  refine bodyPost_ret (v := .tuple #[.slice none 0 0, .int .i64 1]) (by simp [results, Tryd.results14, go_sem]) rfl ?_
  exact ⟨rfl, unhide H1⟩
theorem sgn_lt (wi K : Nat) (seed h : List Nat) (n : Nat) : ∀ v ∈ sgn wi K seed h n, v < 256 := by
  induction n with
  | zero => intro v hv; cases hv
  | succ n ih =>
    intro v hv
    rw [sgn] at hv
    rcases List.mem_append.1 hv with hv | hv
    · rcases List.mem_append.1 hv with hv | hv
      · exact ih v hv
      · exact sm_lt _ _ v hv
    · exact lk_lt wi K seed _ _ v hv
theorem lvs_lt (wi : Nat) (seed : List Nat) (n : Nat) : ∀ p ∈ lvs wi seed n, ∀ v ∈ p, v < 256 := by
  intro p hp
  obtain ⟨k, _, rfl⟩ := List.mem_map.1 hp
  exact lf_lt _ _
theorem bes_lt (wi : Nat) (L : List (List Nat)) (hL : ∀ p ∈ L, ∀ v ∈ p, v < 256) (m : Nat) : ∀ f n tf tn, n ≤ m → ∀ p ∈ bes wi L f n tf tn, ∀ v ∈ p, v < 256 := by
  induction m with
  | zero => intro f n tf tn h p hp; rw [bes, dif_pos (by omega)] at hp; cases hp
  | succ m ih =>
    intro f n tf tn h p hp
    by_cases e : (f = tf ∧ n = tn) ∨ n < 2
    · rw [bes, dif_pos e] at hp; cases hp
    · have hlt := hf_lt n (by omega)
      have hpos := hf_pos n
      by_cases hl : tf < f + hf n
      · rw [bes_l (by omega) (by omega) hl] at hp
        rcases List.mem_append.1 hp with hp | hp
        · exact ih _ _ _ _ (by omega) p hp
        · simp at hp; subst hp; exact mth_lt _ _ _ (Nat.le_refl _) (fun p hp => hL p (blk_mem _ _ _ p hp))
      · rw [bes_r (by omega) (by omega) hl] at hp
        rcases List.mem_append.1 hp with hp | hp
        · exact ih _ _ _ _ (by omega) p hp
        · simp at hp; subst hp; exact mth_lt _ _ _ (Nat.le_refl _) (fun p hp => hL p (blk_mem _ _ _ p hp))
theorem sig_lt (wi H K : Nat) (seed h : List Nat) : ∀ v ∈ sig wi H K seed h, v < 256 := by
  intro v hv
  rw [sig] at hv
  rcases List.mem_append.1 hv with hv | hv
  · exact sgn_lt _ _ _ _ _ v hv
  · obtain ⟨p, hp, hv⟩ := List.mem_flatten.1 hv
    exact bes_lt wi _ (lvs_lt wi seed _) _ _ _ _ _ (Nat.le_refl _) p hp v hv
theorem pub_lt (wi H : Nat) (seed : List Nat) : ∀ v ∈ mth wi (lvs wi seed (2 ^ H)), v < 256 := mth_lt _ _ _ (Nat.le_refl _) (lvs_lt wi seed _)
theorem pub_len (wi H : Nat) (hw1 : 1 ≤ wi) (hw32 : wi ≤ 32) (seed : List Nat) : (mth wi (lvs wi seed (2 ^ H))).length = wi := mth_wid wi hw1 hw32 _ (lvs_wid wi hw1 hw32 seed _)
/-- Keys.Sign, of a key. -/
theorem lsign_sig (wi H kb base tb K : Nat) (hw1 : 1 ≤ wi) (hw32 : wi ≤ 32) (hH : H ≤ 6) (hK : K < 2 ^ H) (yo : Option Addr) (SN yc : Nat) (seed : List Nat) (w : World) (h : KyAt w kb base tb wi H (.slice yo SN yc) seed (lvs wi seed (2 ^ H))) (hs : seed.length ≤ 1000000000) (x : Value) (m : List Nat) (hx : Sl w x m) (hm : m.length < 9223372036854775808) :
    Calls Tryd.prog 14 #[.pointer (some ⟨kb, 0, none⟩), .int .i64 K, x] w fun e w' => ∃ zo zc, e = .returned (.tuple #[.slice zo (16 * wi * wi + H * wi) zc, .int .i64 0]) ∧ OB w w' zo zc (sig wi H K seed (sm wi m)) := by
  have hl := sig_len wi H K hw1 hw32 hK seed (sm wi m)
  refine (lsign_in wi H kb base tb K hw1 hw32 hH hK yo SN yc seed _ w h (lvs_len wi seed _) hs x m hx hm (bes_wid wi hw1 hw32 _ (lvs_wid wi hw1 hw32 seed _) _ _ _ _ _ (Nat.le_refl _)) (by rw [besH_len wi _ H K hK]; omega)).mono ?_
  rintro e w' ⟨zo, n, zc, rfl, hn, hO⟩
  have e1 : n = 16 * wi * wi + H * wi := by rw [hn, ← hl, sig]
  exact ⟨zo, zc, by rw [e1], hO⟩
end Go.Proofs.YtjokmlnghpnlbaaDoor

namespace Go.Proofs.YtjokmlnghpnlbaaDoor
open Go.RowKit

set_option maxRecDepth 100000 in
/-- The document's May. -/
theorem g5may_any (j h : Int) (w : World) : Calls Tryd.prog 20 #[.int .i64 j, .int .i64 h] w fun e w' => e = .returned (.bool (decide ((1 ≤ j ∧ j ≤ 32) ∧ 0 ≤ h ∧ h ≤ 6))) ∧ w' = w := by
  by_cases hj : 1 ≤ j ∧ j ≤ 32
  · have HW := hide (may_yes j w hj.1 hj.2)
    by_cases h1 : 0 ≤ h
    · by_cases h2 : h ≤ 6
      · rw [decide_eq_true ⟨hj, h1, h2⟩]
        clear hj
        go_enter Tryd.func20, Tryd.ntmps20
        go_wp2_with fail
        refine (unhide HW).mono ?_
        rintro e w0 ⟨rfl, rfl⟩
        go_wp2_with fail
        go_ret
        exact ⟨rfl, rfl⟩
      · rw [decide_eq_false (fun k => h2 k.2.2)]
        clear hj
        go_enter Tryd.func20, Tryd.ntmps20
        go_wp2_with fail
        refine (unhide HW).mono ?_
        rintro e w0 ⟨rfl, rfl⟩
        go_wp2_with fail
        go_ret
        refine ⟨?_, rfl⟩
        show Ending.returned (.bool (decide (h ≤ 6))) = _
        rw [decide_eq_false (by omega)]
    · rw [decide_eq_false (fun k => h1 k.2.1)]
      clear hj
      go_enter Tryd.func20, Tryd.ntmps20
      go_wp2_with fail
      refine (unhide HW).mono ?_
      rintro e w0 ⟨rfl, rfl⟩
      go_wp2_with fail
      go_ret
      exact ⟨rfl, rfl⟩
  · rw [decide_eq_false (fun k => hj k.1)]
    have HW := hide (may_no j w (by omega))
    clear hj
    go_enter Tryd.func20, Tryd.ntmps20
    go_wp2_with fail
    refine (unhide HW).mono ?_
    rintro e w0 ⟨rfl, rfl⟩
    go_wp2_with fail
    go_ret
    exact ⟨rfl, rfl⟩
set_option maxRecDepth 100000 in
/-- The document's Size. -/
theorem g5size_any (j h : Int) (w : World) : Calls Tryd.prog 18 #[.int .i64 j, .int .i64 h] w fun e w' => e = .returned (.int .i64 (szF j h)) ∧ w' = w := by
  have hm := g5may_any j h w
  by_cases hc : (1 ≤ j ∧ j ≤ 32) ∧ 0 ≤ h ∧ h ≤ 6
  · rw [decide_eq_true hc] at hm
    have hsz : szF j h = 16 * j * j + h * j := by rw [szF, if_pos hc]
    rw [hsz]
    obtain ⟨wi, rfl⟩ : ∃ k : Nat, j = (k : Int) := ⟨j.toNat, by omega⟩
    obtain ⟨H, rfl⟩ : ∃ k : Nat, h = (k : Int) := ⟨h.toNat, by omega⟩
    have hw32 : wi ≤ 32 := by omega
    have hH6 : H ≤ 6 := by omega
    have hsq : wi * wi ≤ 32 * 32 := Nat.mul_le_mul hw32 hw32
    have hhw : H * wi ≤ 6 * 32 := Nat.mul_le_mul hH6 hw32
    have b2 : 16 * wi * wi ≤ 16384 := by rw [Nat.mul_assoc]; omega
    have e3 : (16 : Int) * (wi : Int) * (wi : Int) = ((16 * wi * wi : Nat) : Int) := by push_cast; rfl
    have e4 : (H : Int) * (wi : Int) = ((H * wi : Nat) : Int) := by push_cast; rfl
    have e5 : (16 : Int) * (wi : Int) = ((16 * wi : Nat) : Int) := by omega
    rw [e3, e4]
    have q0 : IntKind.i64.wrap (16 * (wi : Int)) = ((16 * wi : Nat) : Int) := by rw [IntKind.wrap_i64]; omega
    have q3 : IntKind.i64.wrap (((16 * wi : Nat) : Int) * (wi : Int)) = ((16 * wi * wi : Nat) : Int) := by rw [← e5, e3, IntKind.wrap_i64]; omega
    have q1 : IntKind.i64.wrap ((H : Int) * (wi : Int)) = ((H * wi : Nat) : Int) := by rw [e4, IntKind.wrap_i64]; omega
    have q2 : IntKind.i64.wrap (((16 * wi * wi : Nat) : Int) + ((H * wi : Nat) : Int)) = ((16 * wi * wi : Nat) : Int) + ((H * wi : Nat) : Int) := by rw [IntKind.wrap_i64]; omega
    have HM := hide hm
    clear hm hc hsz hsq hhw b2 e3 e4 e5
    generalize 16 * wi * wi = S at *
    generalize 16 * wi = D at *
    generalize H * wi = T at *
    go_enter Tryd.func18, Tryd.ntmps18
    go_wp2_with fail
    refine (unhide HM).mono ?_
    rintro e w0 ⟨rfl, rfl⟩
    go_wp2_with fail
    go_ret
    exact ⟨rfl, rfl⟩
  · rw [decide_eq_false hc] at hm
    have hsz : szF j h = 0 := by rw [szF, if_neg hc]
    rw [hsz]
    have HM := hide hm
    clear hm hc hsz
    go_enter Tryd.func18, Tryd.ntmps18
    go_wp2_with fail
    refine (unhide HM).mono ?_
    rintro e w0 ⟨rfl, rfl⟩
    go_wp2_with fail
    go_ret
    exact ⟨rfl, rfl⟩
end Go.Proofs.YtjokmlnghpnlbaaDoor

namespace Go.Proofs.YtjokmlnghpnlbaaDoor
open Go.RowKit

theorem cells8 (K J V : Nat) (hK : K < 64) (hJ : J < 256) (hV : V < 2) : (#[Value.int .u8 2, .int .u8 0, .int .u8 0, .int .u8 0, .int .u8 (K : Int), .int .u8 ((J : Int) / 256), .int .u8 ((J : Int) % 256), .int .u8 (V : Int)] : Array Value).toList = cellsOf (scm K J V []) := by
  have h1 : (J : Int) / 256 = 0 := by omega
  have h2 : (J : Int) % 256 = (J : Int) := by omega
  have h3 : J / 256 = 0 := by omega
  rw [h1, h2]
  simp [cellsOf, B, scm, h3, Nat.mod_eq_of_lt hJ, Nat.mod_eq_of_lt (show K < 256 by omega), Nat.mod_eq_of_lt (show V < 256 by omega)]
theorem ob_lit8 (w : World) (cs : Array Value) (l : List Nat) (hc : cs.size = 8) (h : cs.toList = cellsOf l) (hl : l.length = 8) : OB w (w.alloc (.cells cs 5)) (some ⟨w.heap.size, 0, none⟩) 8 l := by
  refine ⟨?_, (Fr.refl _ _).alloc _⟩
  have := World.ownsRow_lit (e := 5) (size := 1) (base := w.heap.size) w cs 8 (Nat.le_refl _) (by simp only [maxLen]; omega) (by omega)
  rw [hl, ← h]
  exact this
theorem scm_nil (K J V : Nat) (seed : List Nat) : scm K J V seed = scm K J V [] ++ seed := by simp [scm]
set_option maxRecDepth 100000 in
set_option maxHeartbeats 2000000 in
/-- The document's Secret, of what may be. -/
theorem g5secret_in (wi K J V : Nat) (hw1 : 1 ≤ wi) (hw32 : wi ≤ 32) (hK : K < 64) (hJ : J < 8 * wi) (hV : V < 2) (x : Value) (seed : List Nat) (w : World) (hg : GR w) (hx : Sl w x seed) (hs : seed.length ≤ 15000000) :
    Calls Tryd.prog 17 #[.int .i64 wi, x, .int .i64 K, .int .i64 J, .int .i64 V] w fun e w' => ∃ yo yc, e = .returned (.slice yo wi yc) ∧ OB w w' yo yc (sm wi (scm K J V seed)) := by
  have hmy := hide (may_yes wi w (by omega) (by omega))
  obtain ⟨xo, xc, rfl⟩ := hx.form
  have HC := hide (And.intro hg (And.intro hx hs))
  have hJ9 : J < 256 := by omega
  have q2 : ¬ (8 * (wi : Int)) ≤ (J : Int) := by omega
  have q4 : ¬ (63 : Int) < (K : Int) := by omega
  have q5 : ¬ (1 : Int) < (V : Int) := by omega
  have h8 := cells8 K J V hK hJ9 hV
  have hl8 : (scm K J V []).length = 8 := by simp [scm]
  have hbs : ∀ v ∈ scm K J V [], v < 256 := by simp [scm]; omega
  rw [scm_nil K J V seed]
  generalize scm K J V [] = M0 at *
  have H8 := hide h8
  have HM := hide (And.intro hl8 hbs)
  clear h8 hl8 hbs
  clear hx hg hs
  generalize hSN : seed.length = SN at *
  go_enter Tryd.func17, Tryd.ntmps17
  go_wp2_with fail
  refine (unhide hmy).mono ?_
  rintro e w0 ⟨rfl, rfl⟩
  go_wp2_with fail
  have hO0 := ob_lit8 w0 _ _ rfl (unhide H8) (unhide HM).1
  have HO := hide (And.intro hO0 (unhide HM))
  clear hO0 HM
  go_loopw [11, 12] (fun v iv wr => ∃ (k : Nat) (ao : Option Addr) (cp n : Nat), k ≤ SN ∧ iv = .int .i64 (k : Nat) ∧ v = .slice ao n cp ∧ n = (M0 ++ seed.take k).length ∧ OB w0 wr ao cp (M0 ++ seed.take k)) (fun _ iv _ => SN - (intOf iv).toNat)
  case atStart => exact ⟨0, _, _, 8, Nat.zero_le _, rfl, rfl, by rw [List.take_zero, List.append_nil]; exact (unhide HO).2.1.symm, by rw [List.take_zero, List.append_nil]; exact (unhide HO).1⟩
  case round =>
    obtain ⟨k, ao, cp, n, hk, rfl, rfl, hn, hO⟩ := hrel
    have hs9 := (unhide HC).2.2
    by_cases hlt : k < SN
    · have hlt' : (k : Int) < (SN : Int) := by omega
      obtain ⟨g, o, rfl, hc⟩ := src_cell ((unhide HC).2.1.fr0 hO.fr).s k (by omega) (unhide HC).2.1.b
      have hv : seed.getD k 0 < 256 := by
        rw [List.getD_eq_getElem?_getD, List.getElem?_eq_getElem (by omega)]; exact (unhide HC).2.1.b _ (List.getElem_mem _)
      have hll : (M0 ++ seed.take k).length = 8 + k := by rw [List.length_append, (unhide HO).2.1, List.length_take]; omega
      obtain ⟨a4, c4, w4, hr4, hO4⟩ := hO.app1 (seed.getD k 0) hv (by omega)
      have htk : M0 ++ seed.take k ++ [seed.getD k 0] = M0 ++ seed.take (k + 1) := by
        rw [List.append_assoc, List.take_add_one, List.getElem?_eq_getElem (by omega), Option.toList_some, List.getD_eq_getElem?_getD, List.getElem?_eq_getElem (by omega)]; rfl
      rw [htk] at hr4 hO4
      rw [← hn] at hr4
      have HR4 := hide (And.intro hr4 hO4)
      generalize seed.getD k 0 = v at *
      clear hr4 hO4 hO hn htk hll
      go_wp2_with (at_builtin; refine wpList_app rfl _ _ 24 24 rfl _ _ _ rfl rfl (unhide HR4).1 ?_)
      exact ⟨⟨k + 1, _, _, _, by omega, by go_num, rfl, by rw [List.length_append, List.length_take, hSN], (unhide HR4).2⟩, by simp [intOf]; omega⟩
    · have hlt' : ¬ (k : Int) < (SN : Int) := by omega
      have htk : seed.take k = seed := List.take_of_length_le (by omega)
      rw [htk] at hO hn
      have hll : (M0 ++ seed).length = 8 + SN := by rw [List.length_append, (unhide HO).2.1]; omega
      have hbb : ∀ v ∈ M0 ++ seed, v < 256 := fun v hv => (List.mem_append.1 hv).elim ((unhide HO).2.2 v) ((unhide HC).2.1.b v)
      have hsrc := hO.src
      rw [← hn] at hsrc
      have hsm := gsum_in wi _ (M0 ++ seed) wr ((unhide HC).1.fr0 hO.fr) hsrc hbb (by omega) hw1 hw32
      have HS := hide (And.intro hsm hO.fr)
      clear hsm hO hsrc hbb hll hn htk
      go_wp2_with fail
      refine (unhide HS).1.mono ?_
      rintro e w5 ⟨yo, yc, rfl, hO5⟩
      have H5 := hide (hO5.base (unhide HS).2)
      clear hO5
      go_wp2_with fail
      go_ret
      refine ⟨_, _, rfl, ?_⟩
      rw [sm, if_pos ⟨by omega, by omega⟩, Int.toNat_natCast]
      exact unhide H5
end Go.Proofs.YtjokmlnghpnlbaaDoor

namespace Go.Proofs.YtjokmlnghpnlbaaDoor
open Go.RowKit

/-- The cells of steps. -/
def scells (L : List (Value × Value × Bool)) : List Value := (L.map fun p => [p.1, p.2.1, .bool p.2.2]).flatten
theorem scells_len (L : List (Value × Value × Bool)) : (scells L).length = L.length * 3 := by
  induction L with
  | nil => rfl
  | cons a r ih => simp only [scells, List.map_cons, List.flatten_cons, List.length_append, List.length_cons, List.length_nil] at ih ⊢; omega
theorem scells_cons (a : Value × Value × Bool) (r : List (Value × Value × Bool)) : scells (a :: r) = [a.1, a.2.1, .bool a.2.2] ++ scells r := rfl
theorem scells_app (a b : List (Value × Value × Bool)) : scells (a ++ b) = scells a ++ scells b := by simp [scells]
theorem scells_at (L : List (Value × Value × Bool)) : ∀ (k : Nat) (hk : k < L.length), (scells L)[k * 3]? = some L[k].1 ∧ (scells L)[k * 3 + 1]? = some L[k].2.1 ∧ (scells L)[k * 3 + 2]? = some (.bool L[k].2.2) := by
  induction L with
  | nil => intro k hk; simp at hk
  | cons a r ih =>
    intro k hk
    match k, hk with
    | 0, _ => exact ⟨rfl, rfl, rfl⟩
    | k + 1, hk =>
      obtain ⟨h1, h2, h3⟩ := ih k (by simpa using hk)
      have e : ∀ j, (scells (a :: r))[(k + 1) * 3 + j]? = (scells r)[k * 3 + j]? := fun j => by
        rw [scells_cons, List.getElem?_append_right (by simp; omega)]
        congr 1
        simp
        omega
      have e0 := e 0
      simp only [Nat.add_zero] at e0
      refine ⟨e0.trans h1, (e 1).trans h2, (e 2).trans h3⟩
theorem Tryd.infoStep : (Tryd.prog.info? 121).map (fun i => (i.zero, i.size, i.bytes)) = some (some (.agg #[.slice none 0 0, .slice none 0 0, .bool false]), 3, 56) := by kernel_rfl
/-- One more step. -/
theorem app_step (w : World) (base : Nat) (v : Value) (L : List (Value × Value × Bool)) (la : Option Addr) (ln lc : Nat) (ra : Option Addr) (rn rc : Nat) (b : Bool) (hown : w.ownsRow base 121 3 v L.length (scells L)) (hb : L.length + 1 ≤ 16777216) (hbase : base ≤ w.heap.size) :
    ∃ ao cap w', (Builtin.append_ #[105, 105] 105 #[v, .slice (some ⟨w.heap.size, 0, none⟩) 1 1]).run Tryd.prog (w.alloc (.cells #[.slice la ln lc, .slice ra rn rc, .bool b] 121)) = .ok (.slice ao (L.length + 1) cap) w' ∧
      w'.ownsRow base 121 3 (.slice ao (L.length + 1) cap) (L.length + 1) (scells (L ++ [(.slice la ln lc, .slice ra rn rc, b)])) ∧ (w.alloc (.cells #[.slice la ln lc, .slice ra rn rc, .bool b] 121)).grownBy w' v.ownBlock := by
  obtain ⟨i0, hi, hz0, hz1, hz2⟩ := info_parts Tryd.infoStep
  have h1 : (w.alloc (.cells #[.slice la ln lc, .slice ra rn rc, .bool b] 121)).ownsRow base 121 3 v L.length (scells L) := ownsRow_of_block hown (fun g hg => Below.heap_alloc _ _ _ (hown.lt g hg).2)
  obtain ⟨v', w', hr, h2, h3, _, _⟩ := run_append_own_at (P := Tryd.prog) (w.alloc (.cells #[.slice la ln lc, .slice ra rn rc, .bool b] 121)) base 105 105 121 i0 (.agg #[.slice none 0 0, .slice none 0 0, .bool false]) 3 56 Tryd.underlying105 hi hz0 hz1 hz2 rfl (by decide) v L.length _ h1 ⟨w.heap.size, 0, none⟩ 1 1 [.slice la ln lc, .slice ra rn rc, .bool b] rfl (fun j u hu => by
      match j, hu with
      | 0, hu => simp at hu; subst hu; simp [Addr.add]
      | 1, hu => simp at hu; subst hu; simp [Addr.add]
      | 2, hu => simp at hu; subst hu; simp [Addr.add]) (fun u hu => by simp at hu; rcases hu with rfl | rfl | rfl <;> rfl) (by simp only [maxLen]; omega) (by omega) (by simp; omega)
  have hf : ∃ ao cap, v' = .slice ao (L.length + 1) cap := by
    rcases h2.2 with ⟨_, e⟩ | ⟨g, cap, cur, rfl, _⟩
    · omega
    · exact ⟨_, _, rfl⟩
  obtain ⟨ao, cap, rfl⟩ := hf
  refine ⟨ao, cap, w', hr, ?_, h3⟩
  rw [scells_app]
  exact h2
/-- Steps in memory of one's own. -/
structure OT (w wr : World) (v : Value) (ss : List (Value × Value × Bool)) : Prop where
  own : wr.ownsRow w.heap.size 121 3 v ss.length (scells ss)
  fr : Fr (fun _ => False) w wr
theorem OT.nil (w : World) : OT w w (.slice none 0 0) [] := ⟨⟨rfl, .inl ⟨rfl, rfl⟩⟩, Fr.refl _ _⟩
theorem OT.fr0 {w wr wq : World} {v : Value} {ss : List (Value × Value × Bool)} (h : OT w wr v ss) (hf : Fr (fun _ => False) wr wq) : OT w wq v ss :=
  ⟨ownsRow_of_block h.own (fun g hg => hf.block g (h.own.lt g hg).2 (fun h => h)), h.fr.trans hf (fun _ _ h => h)⟩
theorem OT.base {w wA wr : World} {v : Value} {ss : List (Value × Value × Bool)} (h : OT wA wr v ss) (hf : Fr (fun _ => False) w wA) : OT w wr v ss := by
  refine ⟨⟨h.own.1, ?_⟩, hf.trans h.fr (fun _ _ h => h)⟩
  rcases h.own.2 with h0 | ⟨g, cap, cur, e1, e2, e3⟩
  · exact .inl h0
  · exact .inr ⟨g, cap, cur, e1, Nat.le_trans hf.size e2, e3⟩
theorem OT.form {w wr : World} {v : Value} {ss : List (Value × Value × Bool)} (h : OT w wr v ss) : ∃ ao cap, v = .slice ao ss.length cap := by
  rcases h.own.2 with ⟨e, e0⟩ | ⟨g, cap, cur, e, _⟩
  · exact ⟨none, 0, by rw [e, e0]⟩
  · exact ⟨_, _, e⟩
/-- The cells of one step, in a later world. -/
theorem OT.cell {w wr wq : World} {so : Option Addr} {n sc : Nat} {ss : List (Value × Value × Bool)} (h : OT w wr (.slice so n sc) ss) (hf : Fr (fun _ => False) wr wq) (k : Nat) (hk : k < ss.length) : ∃ g, so = some ⟨g, 0, none⟩ ∧ wq.cell? ⟨g, k * 3, none⟩ = some ss[k].1 ∧ wq.cell? ⟨g, k * 3 + 1, none⟩ = some ss[k].2.1 ∧ wq.cell? ⟨g, k * 3 + 2, none⟩ = some (.bool ss[k].2.2) := by
  rcases h.own.2 with ⟨_, e0⟩ | ⟨g, cap, cur, e, _⟩
  · omega
  · simp only [Value.slice.injEq] at e
    obtain ⟨rfl, rfl, rfl⟩ := e
    have hl := (h.own.lt g rfl).2
    obtain ⟨s1, s2, s3⟩ := scells_at ss k hk
    exact ⟨g, rfl, (hf.cell (p := ⟨g, k * 3, none⟩) hl (fun h => h)).trans ((h.own.cellAt (k * 3) (by omega)).trans s1), (hf.cell (p := ⟨g, k * 3 + 1, none⟩) hl (fun h => h)).trans ((h.own.cellAt (k * 3 + 1) (by omega)).trans s2), (hf.cell (p := ⟨g, k * 3 + 2, none⟩) hl (fun h => h)).trans ((h.own.cellAt (k * 3 + 2) (by omega)).trans s3)⟩
theorem OT.lit {w w1 : World} (hF0 : Fr (fun _ => False) w w1) (la : Option Addr) (ln lc : Nat) (ra : Option Addr) (rn rc : Nat) (b : Bool) (W : World) (hW : w1.alloc (.cells #[.slice la ln lc, .slice ra rn rc, .bool b] 121) = W) : OT w W (.slice (some ⟨w1.heap.size, 0, none⟩) 1 1) [(.slice la ln lc, .slice ra rn rc, b)] := by
  have hF : Fr (fun _ => False) w1 W := by rw [← hW]; exact (Fr.refl _ _).alloc _
  refine ⟨?_, hF0.trans hF (fun _ _ h => h)⟩
  have := World.ownsRow_lit (e := 121) (size := 3) w1 #[.slice la ln lc, .slice ra rn rc, .bool b] 1 (Nat.le_refl _) (by simp only [maxLen]; omega) rfl
  rw [hW] at this
  refine ⟨this.1, ?_⟩
  rcases this.2 with h0 | ⟨g, cap, cur, e1, e2, e3⟩
  · exact .inl h0
  · exact .inr ⟨g, cap, cur, e1, Nat.le_trans hF0.size e2, e3⟩
end Go.Proofs.YtjokmlnghpnlbaaDoor

namespace Go.Proofs.YtjokmlnghpnlbaaDoor
open Go.RowKit

set_option maxRecDepth 100000 in
set_option maxHeartbeats 1000000 in
/-- The document's wide. -/
theorem gwide_any (j : Int) (x : Value) (vs : List Value) (ps : List (List Nat)) (w : World) (hp : Pcs w x vs ps) (hn : ps.length < 4611686018427387904) :
    Calls Tryd.prog 81 #[.int .i64 j, x] w fun e w' => e = .returned (.bool (wdq j ps)) ∧ w' = w := by
  obtain ⟨xo, xc, rfl⟩ := hp.form
  have HG := hide (And.intro hp hn)
  clear hp hn
  generalize hN : ps.length = N at *
  go_enter Tryd.func81, Tryd.ntmps81
  go_wp2_with fail
  go_loopw [5] (fun iv wr => ∃ (k : Nat), k ≤ N ∧ iv = .int .i64 (k : Nat) ∧ wr = w ∧ wdq j (ps.take k) = true) (fun iv _ => N - (intOf iv).toNat)
  case atStart => exact ⟨0, Nat.zero_le _, rfl, rfl, by simp [wdq]⟩
  case round =>
    obtain ⟨k, hk, rfl, rfl, hw⟩ := hrel
    have hN8 := (unhide HG).2
    by_cases hlt : k < N
    · have hlt' : (k : Int) < (N : Int) := by omega
      have hke : k < ps.length := by omega
      obtain ⟨g, o, vo, vc, rfl, hcell, -⟩ := (unhide HG).1.nth (Fr.refl _ _) k hke
      by_cases he : (ps[k].length : Int) = j
      · have hw2 : wdq j (ps.take (k + 1)) = true := by rw [wdq_take j ps k hke, hw, decide_eq_true he]; rfl
        have HW := hide hw2
        clear hw2 hw
        have w1 : IntKind.i64.wrap ((k : Int) + 1) = (k : Int) + 1 := by rw [IntKind.wrap_i64]; omega
        have hee : ((ps[k].length : Int) == j) = true := by rw [he]; simp
        subst he
        generalize ps[k].length = EL at *
        go_wp2_with fail
        exact ⟨⟨k + 1, by omega, by go_num, by first | rfl | trivial, unhide HW⟩, by simp [intOf]; omega⟩
      · have hf := wdq_false j ps k hke he
        have HW := hide hf
        clear hf hw
        have hee : ((ps[k].length : Int) == j) = false := beq_false_of_ne he
        generalize ps[k].length = EL at *
        go_wp2_with fail
        go_ret
        exact ⟨by rw [unhide HW]; rfl, rfl⟩
    · have hkN : k = N := by omega
      have hlt' : ¬ (k : Int) < (N : Int) := by omega
      have htk : ps.take k = ps := List.take_of_length_le (by omega)
      rw [htk] at hw
      have HW := hide hw
      clear hw htk hkN
      go_wp2_with fail
      go_ret
      exact ⟨by rw [unhide HW]; rfl, rfl⟩
/-- The steps from the top down to an entry. -/
def stpv (wi : Nat) (leaf : List Nat) (f n i : Nat) (ps : List (List Nat)) : List (List Nat × List Nat × Bool) :=
  if _h : n < 2 then []
  else if i < f + hf n then (topv wi leaf f (hf n) i 1 ps.dropLast, ps.getLastD [], true) :: stpv wi leaf f (hf n) i ps.dropLast
  else (ps.getLastD [], topv wi leaf (f + hf n) (n - hf n) i 1 ps.dropLast, false) :: stpv wi leaf (f + hf n) (n - hf n) i ps.dropLast
termination_by n
decreasing_by
  · exact hf_lt n (by omega)
  · have := hf_pos n; omega
def StOk (w : World) (ss : List (Value × Value × Bool)) (ts : List (List Nat × List Nat × Bool)) : Prop :=
  ss.length = ts.length ∧ ∀ (j : Nat) s t, ss[j]? = some s → ts[j]? = some t → Sl w s.1 t.1 ∧ Sl w s.2.1 t.2.1 ∧ s.2.2 = t.2.2
theorem StOk.nil (w : World) : StOk w [] [] := ⟨rfl, fun j s t h => by simp at h⟩
theorem StOk.fr0 {w w' : World} {ss : List (Value × Value × Bool)} {ts : List (List Nat × List Nat × Bool)} (h : StOk w ss ts) (hf : Fr (fun _ => False) w w') : StOk w' ss ts :=
  ⟨h.1, fun j s t hs ht => ⟨(h.2 j s t hs ht).1.fr0 hf, (h.2 j s t hs ht).2.1.fr0 hf, (h.2 j s t hs ht).2.2⟩⟩
theorem StOk.cons {w : World} {s : Value × Value × Bool} {t : List Nat × List Nat × Bool} {ss : List (Value × Value × Bool)} {ts : List (List Nat × List Nat × Bool)} (h1 : Sl w s.1 t.1) (h2 : Sl w s.2.1 t.2.1) (h3 : s.2.2 = t.2.2) (h : StOk w ss ts) : StOk w (s :: ss) (t :: ts) :=
  ⟨by simp [h.1], fun j s' t' hs ht => by
    match j with
    | 0 => simp at hs ht; subst hs ht; exact ⟨h1, h2, h3⟩
    | j + 1 => simp at hs ht; exact h.2 j s' t' hs ht⟩
theorem StOk.form {w : World} {ss : List (Value × Value × Bool)} {ts : List (List Nat × List Nat × Bool)} (h : StOk w ss ts) (k : Nat) (hk : k < ss.length) : ∃ la ln lc ra rn rc, ss[k] = (.slice la ln lc, .slice ra rn rc, ss[k].2.2) := by
  obtain ⟨h1, h2, _⟩ := h.2 k ss[k] (ts[k]'(by rw [← h.1]; exact hk)) (List.getElem?_eq_getElem hk) (List.getElem?_eq_getElem _)
  obtain ⟨a, c, e1⟩ := h1.form
  obtain ⟨b, d, e2⟩ := h2.form
  exact ⟨a, _, c, b, _, d, by rw [← e1, ← e2]⟩
def ClSays (wi : Nat) (leaf : List Nat) (lv : Value) (f n i : Nat) (ps : List (List Nat)) (x : Value) (w : World) : Prop :=
  Calls Tryd.prog 82 #[.int .i64 wi, lv, .int .i64 ((i - f : Nat) : Int), .int .i64 n, x] w fun e w' =>
    (ps.length = dep f n i 1 → ∃ ho hn hc so sc ss, e = .returned (.tuple #[.slice ho hn hc, .slice so ss.length sc, .bool true]) ∧ Sl w' (.slice ho hn hc) (topv wi leaf f n i 1 ps) ∧ OT w w' (.slice so ss.length sc) ss ∧ StOk w' ss (stpv wi leaf f n i ps)) ∧
    (¬ ps.length = dep f n i 1 → ∃ ho hn hc, e = .returned (.tuple #[.slice ho hn hc, .slice none 0 0, .bool false])) ∧ Fr (fun _ => False) w w'
set_option maxRecDepth 100000 in
set_option maxHeartbeats 1000000 in
theorem climb_one (wi : Nat) (leaf : List Nat) (lv : Value) (f i : Nat) (ps : List (List Nat)) (vs : List Value) (x : Value) (w : World) (hl : Sl w lv leaf) (hp : Pcs w x vs ps) (hi : f = i) : ClSays wi leaf lv f 1 i ps x w := by
  unfold ClSays
  subst hi
  rw [dep_eq, topv_eq]
  have hst : stpv wi leaf f 1 f ps = [] := by rw [stpv, dif_pos (by decide)]
  rw [hst, Nat.sub_self]
  obtain ⟨lo, lc, rfl⟩ := hl.form
  obtain ⟨xo, xc, rfl⟩ := hp.form
  have HL := hide hl
  clear hl hp hst
  have e0 : ((0 : Nat) : Int) = 0 := rfl
  have e1 : ((1 : Nat) : Int) = 1 := rfl
  simp only [e0, e1]
  clear e0 e1
  generalize leaf.length = LN at *
  by_cases h0 : ps.length = 0
  · rw [h0]
    go_enter Tryd.func82, Tryd.ntmps82
    go_wp2_with fail
    go_returns
    exact ⟨fun _ => ⟨lo, LN, lc, none, 0, [], rfl, unhide HL, OT.nil _, StOk.nil _⟩, fun h => by first | exact absurd rfl h | exact absurd trivial h, Fr.refl _ _⟩
  · have q1 : ((ps.length : Int) == 0) = false := beq_false_of_ne (by omega)
    generalize ps.length = PN at *
    go_enter Tryd.func82, Tryd.ntmps82
    go_wp2_with fail
    go_returns
    exact ⟨fun h => absurd h h0, fun _ => ⟨lo, LN, lc, rfl⟩, Fr.refl _ _⟩
set_option maxRecDepth 100000 in
set_option maxHeartbeats 1000000 in
theorem climb_short (wi : Nat) (leaf : List Nat) (lv : Value) (f n i : Nat) (vs : List Value) (x : Value) (w : World) (hl : Sl w lv leaf) (hp : Pcs w x vs []) (h2 : 2 ≤ n) (hd : ¬ 0 = dep f n i 1) : ClSays wi leaf lv f n i [] x w := by
  unfold ClSays
  obtain ⟨lo, lc, rfl⟩ := hl.form
  obtain ⟨xo, xc, rfl⟩ := hp.form
  clear hl hp
  simp only [List.length_nil]
  have q1 : ((n : Int) == 1) = false := beq_false_of_ne (by omega)
  have q2 : ¬ n = 1 := by omega
  generalize leaf.length = LN at *
  generalize i - f = I at *
  go_enter Tryd.func82, Tryd.ntmps82
  go_wp2_with fail
  go_returns
  exact ⟨fun h => absurd h hd, fun _ => ⟨none, 0, 0, rfl⟩, Fr.refl _ _⟩
end Go.Proofs.YtjokmlnghpnlbaaDoor

namespace Go.Proofs.YtjokmlnghpnlbaaDoor
open Go.RowKit

theorem box3s (w : World) (a b c : Value) (ty : Nat) (W : World) (hW : w.alloc (.cells #[a, b, c] ty) = W) : W.cell? ⟨w.heap.size, 0, none⟩ = some a ∧ W.cell? ⟨w.heap.size, 1, none⟩ = some b ∧ W.cell? ⟨w.heap.size, 2, none⟩ = some c ∧ Fr (fun _ => False) w W := by
  subst hW
  have hc : ∀ j, (w.alloc (.cells #[a, b, c] ty)).cell? ⟨w.heap.size, j, none⟩ = (#[a, b, c] : Array Value)[j]? := fun j => World.cell?_alloc_at _ _ _ _ rfl
  exact ⟨hc 0, hc 1, hc 2, (Fr.refl _ _).alloc _⟩
theorem stpv_len (wi : Nat) (leaf : List Nat) (m : Nat) : ∀ f n i (ps : List (List Nat)), n ≤ m → (stpv wi leaf f n i ps).length = dep f n i 1 := by
  induction m with
  | zero => intro f n i ps h; rw [stpv, dif_pos (by omega), dep, dif_pos (by omega)]; rfl
  | succ m ih =>
    intro f n i ps h
    by_cases h2 : n < 2
    · rw [stpv, dif_pos h2, dep, dif_pos (by omega)]; rfl
    · have hlt := hf_lt n (by omega)
      have hpos := hf_pos n
      by_cases hi : i < f + hf n
      · rw [stpv, dif_neg h2, if_pos hi, dep_l (by omega) (by omega) hi, List.length_cons, ih _ _ _ _ (by omega)]
      · rw [stpv, dif_neg h2, if_neg hi, dep_r (by omega) (by omega) hi, List.length_cons, ih _ _ _ _ (by omega)]
set_option maxRecDepth 100000 in
set_option maxHeartbeats 4000000 in
/-- A step down to the left. -/
theorem climb_left (wi : Nat) (hw1 : 1 ≤ wi) (hw32 : wi ≤ 32) (leaf : List Nat) (lo : Option Addr) (ln lc : Nat) (f n i D : Nat) (ps : List (List Nat)) (vs : List Value) (g o xc : Nat) (w : World) (hr : GR w) (hp : Pcs w (.slice (some ⟨g, o, none⟩) (D + 1) xc) vs ps) (hcap : D + 1 ≤ xc) (hlen : ps.length = D + 1) (hD8 : D < 8000000) (h2 : 2 ≤ n) (hn : n < 9223372036854775808) (hfi : f ≤ i) (hi : i < f + hf n) (hll : leaf.length = wi) (hpw : ∀ p ∈ ps, p.length = wi)
    (ih : ∀ w', Fr (fun _ => False) w w' → ClSays wi leaf (.slice lo ln lc) f (hf n) i (ps.take D) (.slice (some ⟨g, o, none⟩) D xc) w') : ClSays wi leaf (.slice lo ln lc) f n i ps (.slice (some ⟨g, o, none⟩) (D + 1) xc) w := by
  have hlt := hf_lt n h2
  have hpos := hf_pos n
  obtain ⟨g', o', vo, vc, eg, hcell, hsl⟩ := hp.nth (Fr.refl _ _) D (by omega)
  cases eg
  have hdl : ps.dropLast = ps.take D := by rw [List.dropLast_eq_take, hlen]; rfl
  have hgl : ps.getLastD [] = ps[D] := getLastD_at ps D hlen
  have hne : ¬ (f = i ∧ n = 1) := by omega
  have hdp := dep_l h2 hne hi
  have htv := topv_l (wi := wi) (r := leaf) (p := ps) h2 hne hi
  have hst : stpv wi leaf f n i ps = (topv wi leaf f (hf n) i 1 ps.dropLast, ps.getLastD [], true) :: stpv wi leaf f (hf n) i ps.dropLast := by
    conv => lhs; rw [stpv, dif_neg (by omega), if_pos hi]
  rw [hdl, hgl] at htv hst
  have hTw := topv_wid wi hw1 hw32 leaf hll _ f (hf n) i 1 (ps.take D) (Nat.le_refl _)
  have hAw := hpw ps[D] (List.getElem_mem _)
  have htl : (ps.take D).length = D := by rw [List.length_take]; omega
  have hha := half_any n w hn h2
  have hI : i - f < hf n := by omega
  have hSL := stpv_len wi leaf _ f (hf n) i (ps.take D) (Nat.le_refl _)
  unfold ClSays at ih ⊢
  rw [hdp, htv, hst]
  rw [htl] at ih
  rw [hAw] at hcell hsl
  generalize topv wi leaf f (hf n) i 1 (ps.take D) = T at *
  generalize ps[D] = A at *
  generalize stpv wi leaf f (hf n) i (ps.take D) = SS at *
  generalize dep f (hf n) i 1 = DD at *
  rw [hlen]
  have hnd := nd_len wi hw1 hw32 T A
  have hnode : ∀ w' x y, GR w' → Sl w' x T → Sl w' y A → Calls Tryd.prog 52 #[.int .i64 wi, x, y] w' fun e w'' => ∃ yo yc, e = .returned (.slice yo wi yc) ∧ Sl w'' (.slice yo wi yc) (nd wi T A) ∧ Fr (fun _ => False) w' w'' := fun w' x y h1 h2 h3 => by
    refine (gnode_any (wi : Int) x y T A w' h1 h2.s h3.s h2.b h3.b (by omega) (by omega)).mono ?_
    rintro e w'' ⟨yo, yc, rfl, hO⟩
    have hs := hO.sl (nd_lt _ _ _)
    rw [hnd] at hs ⊢
    exact ⟨yo, yc, rfl, hs, hO.fr⟩
  have q1 : ((n : Int) == 1) = false := beq_false_of_ne (by omega)
  have q2 : ¬ n = 1 := by omega
  have q3 : (((D : Int) + 1) == 0) = false := beq_false_of_ne (by omega)
  have q4 : ¬ (D : Int) + 1 = 0 := by omega
  have q5 : IntKind.i64.wrap ((D : Int) + 1 - 1) = (D : Int) := by rw [IntKind.wrap_i64]; omega
  have q6 : (D : Int) < (D : Int) + 1 := by omega
  have q7 : (D : Int) ≤ (xc : Int) := by omega
  have q8 : ((i - f : Nat) : Int) < ((hf n : Nat) : Int) := by omega
  have HC := hide (And.intro hha (And.intro ih (And.intro hnode (And.intro hr (And.intro hsl hSL)))))
  clear hha ih hnode hr hsl hSL hp hTw hAw htl hnd hdp htv hst hdl hgl hpw hll hlen hne hi hfi hlt hpos h2 hn
  generalize i - f = I at *
  generalize hf n = K at *
  go_enter Tryd.func82, Tryd.ntmps82
  go_wp2_with fail
  refine (unhide HC).1.mono ?_
  rintro e w0 ⟨rfl, rfl⟩
  go_wp2_with fail
  refine ((unhide HC).2.1 _ (by first | exact Fr.refl _ _ | exact (Fr.refl _ _).drew)).mono ?_
  rintro e w1 ⟨hA, hB, hF⟩
  by_cases hd : D = DD
  · obtain ⟨ho, hn, hc, so, sc, ss, rfl, hS, hO, hK⟩ := hA hd
    have hsl' : ss.length = SS.length := hK.1
    have H1 := hide (And.intro hS (And.intro hO (And.intro hK (And.intro hF (And.intro hd hsl')))))
    clear hA hB hS hO hK hF hd hsl'
    go_wp2_with fail
    obtain ⟨W2, hW2⟩ : ∃ W2, w1.alloc (.cells #[.slice ho hn hc, .slice vo wi vc, .bool true] 121) = W2 := ⟨_, rfl⟩
    rw [hW2]
    obtain ⟨z0, z1, z2, hF2⟩ := box3s w1 _ _ _ _ W2 hW2
    obtain ⟨W3, hW3⟩ : ∃ W3, W2.alloc (.cells #[.slice ho hn hc, .slice vo wi vc, .bool true] 121) = W3 := ⟨_, rfl⟩
    rw [hW3]
    have hsz : w1.heap.size + 1 = W2.heap.size := by rw [← hW2]; simp
    rw [hsz]
    have hT0 := OT.lit (Fr.refl _ W2) ho hn hc vo wi vc true W3 hW3
    have HZ := hide (And.intro z0 (And.intro z1 (And.intro z2 (And.intro hF2 hT0))))
    clear z0 z1 z2 hF2 hT0 hW2 hW3 hsz
    generalize w1.heap.size = P at *
    generalize hSN : ss.length = SN at *
    go_loopw [22, 23] (fun dv iv wr => ∃ (k : Nat), k ≤ SN ∧ iv = .int .i64 (k : Nat) ∧ OT W2 wr dv ((.slice ho hn hc, .slice vo wi vc, true) :: ss.take k)) (fun _ iv _ => SN - (intOf iv).toNat)
    case atStart => exact ⟨0, Nat.zero_le _, rfl, (unhide HZ).2.2.2.2⟩
    case round =>
      obtain ⟨k, hk, rfl, hT⟩ := hrel
      have hSD : SN = D := by have h1 := (unhide H1).2.2.2.2.2; have h2 := (unhide HC).2.2.2.2.2; have h3 := (unhide H1).2.2.2.2.1; omega
      have htl : (((Value.slice ho hn hc, Value.slice vo wi vc, true) :: ss.take k) : List (Value × Value × Bool)).length = k + 1 := by rw [List.length_cons, List.length_take]; omega
      by_cases hlt : k < SN
      · have hlt' : (k : Int) < (SN : Int) := by omega
        have hks : k < ss.length := by omega
        have hF1r : Fr (fun _ => False) w1 wr := (unhide HZ).2.2.2.1.trans hT.fr (fun _ _ h => h)
        obtain ⟨g2, rfl, e0, e1, e2⟩ := (unhide H1).2.1.cell hF1r k hks
        obtain ⟨la, ln', lc', ra, rn, rc, es⟩ := (unhide H1).2.2.1.form k hks
        have htk : ss.take (k + 1) = ss.take k ++ [ss[k]] := by rw [List.take_add_one, List.getElem?_eq_getElem hks]; rfl
        generalize ss[k].2.2 = b at *
        rw [es] at e0 e1 htk
        simp only at e0 e1
        obtain ⟨ao, cap, w', hr, hown, hgrow⟩ := app_step wr W2.heap.size _ _ la ln' lc' ra rn rc b hT.own (by rw [htl]; omega) hT.fr.size
        obtain ⟨da, dc, rfl⟩ := hT.form
        rw [htl] at hr hown
        have hT2 : OT W2 w' (.slice ao (k + 1 + 1) cap) ((.slice ho hn hc, .slice vo wi vc, true) :: ss.take (k + 1)) := by
          refine ⟨?_, (hT.fr.alloc _).grown hgrow (fun g hg => .inr (hT.own.lt g hg).1)⟩
          have e : (((Value.slice ho hn hc, Value.slice vo wi vc, true) :: ss.take (k + 1)) : List (Value × Value × Bool)).length = k + 1 + 1 := by rw [List.length_cons, List.length_take]; omega
          rw [e, htk, ← List.cons_append]
          exact hown
        have w1' : IntKind.i64.wrap ((k : Int) + 1) = (k : Int) + 1 := by rw [IntKind.wrap_i64]; omega
        have HR := hide hr
        have HT := hide hT2
        have hk8 : k < 8000000 := by omega
        clear hr hown hgrow hT hT2 htk es hF1r hSD
        rw [htl]
        clear htl
        go_wp2_with (at_builtin; refine wpList_app rfl (.tmp 86) (.tmp 91) 105 105 rfl _ _ _ rfl rfl (unhide HR) ?_)
        exact ⟨⟨k + 1, by omega, by go_num, unhide HT⟩, by simp [intOf]; omega⟩
      · have hlt' : ¬ (k : Int) < (SN : Int) := by omega
        rw [List.take_of_length_le (by omega)] at hT htl
        have c0 := (hT.fr.cell (lt_of_cell (unhide HZ).1) (fun h => h)).trans (unhide HZ).1
        have c1 := (hT.fr.cell (lt_of_cell (unhide HZ).2.1) (fun h => h)).trans (unhide HZ).2.1
        obtain ⟨da, dc, rfl⟩ := hT.form
        have hFw : Fr (fun _ => False) w1 wr := (unhide HZ).2.2.2.1.trans hT.fr (fun _ _ h => h)
        have HT := hide (And.intro hT (And.intro hFw htl))
        rw [htl]
        clear hT htl hFw hSD
        go_wp2_with fail
        refine ((unhide HC).2.2.1 wr _ _ ((unhide HC).2.2.2.1.fr0 ((unhide H1).2.2.2.1.trans (unhide HT).2.1 (fun _ _ h => h))) ((unhide H1).1.fr0 (unhide HT).2.1) ((unhide HC).2.2.2.2.1.fr0 ((unhide H1).2.2.2.1.trans (unhide HT).2.1 (fun _ _ h => h)))).mono ?_
        rintro e w5 ⟨yo, yc, rfl, hS5, hF5⟩
        have H5 := hide (And.intro hS5 hF5)
        clear hS5 hF5
        go_wp2_with fail
        go_returns
        have hF15 := (unhide HT).2.1.trans (unhide H5).2 (fun _ _ h => h)
        have hF05 := (unhide H1).2.2.2.1.trans hF15 (fun _ _ h => h)
        refine ⟨fun _ => ⟨yo, wi, yc, da, dc, (.slice ho hn hc, .slice vo wi vc, true) :: ss, by rw [(unhide HT).2.2]; rfl, (unhide H5).1, ?_, ?_⟩, fun h => absurd (by have := (unhide H1).2.2.2.2.1; omega) h, hF05⟩
        · exact ((unhide HT).1.fr0 (unhide H5).2).base ((unhide H1).2.2.2.1.trans (unhide HZ).2.2.2.1 (fun _ _ h => h))
        · exact StOk.cons ((unhide H1).1.fr0 hF15) ((unhide HC).2.2.2.2.1.fr0 hF05) rfl ((unhide H1).2.2.1.fr0 hF15)
  · obtain ⟨ho, hn, hc, rfl⟩ := hB hd
    have H1 := hide (And.intro hF hd)
    clear hA hB hF hd
    go_wp2_with fail
    go_returns
    exact ⟨fun h => absurd (by omega) (unhide H1).2, fun _ => ⟨none, 0, 0, rfl⟩, (unhide H1).1⟩
end Go.Proofs.YtjokmlnghpnlbaaDoor

namespace Go.Proofs.YtjokmlnghpnlbaaDoor
open Go.RowKit

set_option maxRecDepth 100000 in
set_option maxHeartbeats 4000000 in
/-- A step down to the right. -/
theorem climb_right (wi : Nat) (hw1 : 1 ≤ wi) (hw32 : wi ≤ 32) (leaf : List Nat) (lo : Option Addr) (ln lc : Nat) (f n i D : Nat) (ps : List (List Nat)) (vs : List Value) (g o xc : Nat) (w : World) (hr : GR w) (hp : Pcs w (.slice (some ⟨g, o, none⟩) (D + 1) xc) vs ps) (hcap : D + 1 ≤ xc) (hlen : ps.length = D + 1) (hD8 : D < 8000000) (h2 : 2 ≤ n) (hn : n < 9223372036854775808) (hin : i < f + n) (hi : ¬ i < f + hf n) (hll : leaf.length = wi) (hpw : ∀ p ∈ ps, p.length = wi)
    (ih : ∀ w', Fr (fun _ => False) w w' → ClSays wi leaf (.slice lo ln lc) (f + hf n) (n - hf n) i (ps.take D) (.slice (some ⟨g, o, none⟩) D xc) w') : ClSays wi leaf (.slice lo ln lc) f n i ps (.slice (some ⟨g, o, none⟩) (D + 1) xc) w := by
  have hlt := hf_lt n h2
  have hpos := hf_pos n
  obtain ⟨g', o', vo, vc, eg, hcell, hsl⟩ := hp.nth (Fr.refl _ _) D (by omega)
  cases eg
  have hdl : ps.dropLast = ps.take D := by rw [List.dropLast_eq_take, hlen]; rfl
  have hgl : ps.getLastD [] = ps[D] := getLastD_at ps D hlen
  have hne : ¬ (f = i ∧ n = 1) := by omega
  have hdp := dep_r h2 hne hi
  have htv := topv_r (wi := wi) (r := leaf) (p := ps) h2 hne hi
  have hst : stpv wi leaf f n i ps = (ps.getLastD [], topv wi leaf (f + hf n) (n - hf n) i 1 ps.dropLast, false) :: stpv wi leaf (f + hf n) (n - hf n) i ps.dropLast := by
    conv => lhs; rw [stpv, dif_neg (by omega), if_neg hi]
  rw [hdl, hgl] at htv hst
  have hTw := topv_wid wi hw1 hw32 leaf hll _ (f + hf n) (n - hf n) i 1 (ps.take D) (Nat.le_refl _)
  have hAw := hpw ps[D] (List.getElem_mem _)
  have htl : (ps.take D).length = D := by rw [List.length_take]; omega
  have hha := half_any n w hn h2
  have hI : i - (f + hf n) = (i - f) - hf n := by omega
  have hI2 : hf n ≤ i - f := by omega
  have hI3 : i - f < n := by omega
  have hSL := stpv_len wi leaf _ (f + hf n) (n - hf n) i (ps.take D) (Nat.le_refl _)
  unfold ClSays at ih ⊢
  rw [hdp, htv, hst]
  rw [htl, hI] at ih
  rw [hAw] at hcell hsl
  generalize topv wi leaf (f + hf n) (n - hf n) i 1 (ps.take D) = T at *
  generalize ps[D] = A at *
  generalize stpv wi leaf (f + hf n) (n - hf n) i (ps.take D) = SS at *
  generalize dep (f + hf n) (n - hf n) i 1 = DD at *
  rw [hlen]
  have hnd := nd_len wi hw1 hw32 A T
  have hnode : ∀ w' x y, GR w' → Sl w' x A → Sl w' y T → Calls Tryd.prog 52 #[.int .i64 wi, x, y] w' fun e w'' => ∃ yo yc, e = .returned (.slice yo wi yc) ∧ Sl w'' (.slice yo wi yc) (nd wi A T) ∧ Fr (fun _ => False) w' w'' := fun w' x y h1 h2 h3 => by
    refine (gnode_any (wi : Int) x y A T w' h1 h2.s h3.s h2.b h3.b (by omega) (by omega)).mono ?_
    rintro e w'' ⟨yo, yc, rfl, hO⟩
    have hs := hO.sl (nd_lt _ _ _)
    rw [hnd] at hs ⊢
    exact ⟨yo, yc, rfl, hs, hO.fr⟩
  have q1 : ((n : Int) == 1) = false := beq_false_of_ne (by omega)
  have q2 : ¬ n = 1 := by omega
  have q3 : (((D : Int) + 1) == 0) = false := beq_false_of_ne (by omega)
  have q4 : ¬ (D : Int) + 1 = 0 := by omega
  have q5 : IntKind.i64.wrap ((D : Int) + 1 - 1) = (D : Int) := by rw [IntKind.wrap_i64]; omega
  have q6 : (D : Int) < (D : Int) + 1 := by omega
  have q7 : (D : Int) ≤ (xc : Int) := by omega
  have q8 : ¬ ((i - f : Nat) : Int) < ((hf n : Nat) : Int) := by omega
  have q9 : ¬ i - f < hf n := by omega
  have q10 : IntKind.i64.wrap (((i - f : Nat) : Int) - ((hf n : Nat) : Int)) = (((i - f) - hf n : Nat) : Int) := by rw [IntKind.wrap_i64]; omega
  have q11 : IntKind.i64.wrap ((n : Int) - ((hf n : Nat) : Int)) = ((n - hf n : Nat) : Int) := by rw [IntKind.wrap_i64]; omega
  have HC := hide (And.intro hha (And.intro ih (And.intro hnode (And.intro hr (And.intro hsl hSL)))))
  clear hha ih hnode hr hsl hSL hp hTw hAw htl hnd hdp htv hst hdl hgl hpw hll hlen hne hi hin hlt hpos h2 hn hI hI2 hI3
  generalize (i - f) - hf n = IK at *
  generalize n - hf n = NK at *
  generalize i - f = I at *
  generalize hf n = K at *
  go_enter Tryd.func82, Tryd.ntmps82
  go_wp2_with fail
  refine (unhide HC).1.mono ?_
  rintro e w0 ⟨rfl, rfl⟩
  go_wp2_with fail
  refine ((unhide HC).2.1 _ (by first | exact Fr.refl _ _ | exact (Fr.refl _ _).drew)).mono ?_
  rintro e w1 ⟨hA, hB, hF⟩
  by_cases hd : D = DD
  · obtain ⟨ho, hn, hc, so, sc, ss, rfl, hS, hO, hK⟩ := hA hd
    have hsl' : ss.length = SS.length := hK.1
    have H1 := hide (And.intro hS (And.intro hO (And.intro hK (And.intro hF (And.intro hd hsl')))))
    clear hA hB hS hO hK hF hd hsl'
    go_wp2_with fail
    obtain ⟨W2, hW2⟩ : ∃ W2, w1.alloc (.cells #[.slice vo wi vc, .slice ho hn hc, .bool false] 121) = W2 := ⟨_, rfl⟩
    rw [hW2]
    obtain ⟨z0, z1, z2, hF2⟩ := box3s w1 _ _ _ _ W2 hW2
    obtain ⟨W3, hW3⟩ : ∃ W3, W2.alloc (.cells #[.slice vo wi vc, .slice ho hn hc, .bool false] 121) = W3 := ⟨_, rfl⟩
    rw [hW3]
    have hsz : w1.heap.size + 1 = W2.heap.size := by rw [← hW2]; simp
    rw [hsz]
    have hT0 := OT.lit (Fr.refl _ W2) vo wi vc ho hn hc false W3 hW3
    have HZ := hide (And.intro z0 (And.intro z1 (And.intro z2 (And.intro hF2 hT0))))
    clear z0 z1 z2 hF2 hT0 hW2 hW3 hsz
    generalize w1.heap.size = P at *
    generalize hSN : ss.length = SN at *
    go_loopw [22, 23] (fun dv iv wr => ∃ (k : Nat), k ≤ SN ∧ iv = .int .i64 (k : Nat) ∧ OT W2 wr dv ((.slice vo wi vc, .slice ho hn hc, false) :: ss.take k)) (fun _ iv _ => SN - (intOf iv).toNat)
    case atStart => exact ⟨0, Nat.zero_le _, rfl, (unhide HZ).2.2.2.2⟩
    case round =>
      obtain ⟨k, hk, rfl, hT⟩ := hrel
      have hSD : SN = D := by have h1 := (unhide H1).2.2.2.2.2; have h2 := (unhide HC).2.2.2.2.2; have h3 := (unhide H1).2.2.2.2.1; omega
      have htl : (((Value.slice vo wi vc, Value.slice ho hn hc, false) :: ss.take k) : List (Value × Value × Bool)).length = k + 1 := by rw [List.length_cons, List.length_take]; omega
      by_cases hlt : k < SN
      · have hlt' : (k : Int) < (SN : Int) := by omega
        have hks : k < ss.length := by omega
        have hF1r : Fr (fun _ => False) w1 wr := (unhide HZ).2.2.2.1.trans hT.fr (fun _ _ h => h)
        obtain ⟨g2, rfl, e0, e1, e2⟩ := (unhide H1).2.1.cell hF1r k hks
        obtain ⟨la, ln', lc', ra, rn, rc, es⟩ := (unhide H1).2.2.1.form k hks
        have htk : ss.take (k + 1) = ss.take k ++ [ss[k]] := by rw [List.take_add_one, List.getElem?_eq_getElem hks]; rfl
        generalize ss[k].2.2 = b at *
        rw [es] at e0 e1 htk
        simp only at e0 e1
        obtain ⟨ao, cap, w', hr, hown, hgrow⟩ := app_step wr W2.heap.size _ _ la ln' lc' ra rn rc b hT.own (by rw [htl]; omega) hT.fr.size
        obtain ⟨da, dc, rfl⟩ := hT.form
        rw [htl] at hr hown
        have hT2 : OT W2 w' (.slice ao (k + 1 + 1) cap) ((.slice vo wi vc, .slice ho hn hc, false) :: ss.take (k + 1)) := by
          refine ⟨?_, (hT.fr.alloc _).grown hgrow (fun g hg => .inr (hT.own.lt g hg).1)⟩
          have e : (((Value.slice vo wi vc, Value.slice ho hn hc, false) :: ss.take (k + 1)) : List (Value × Value × Bool)).length = k + 1 + 1 := by rw [List.length_cons, List.length_take]; omega
          rw [e, htk, ← List.cons_append]
          exact hown
        have w1' : IntKind.i64.wrap ((k : Int) + 1) = (k : Int) + 1 := by rw [IntKind.wrap_i64]; omega
        have HR := hide hr
        have HT := hide hT2
        have hk8 : k < 8000000 := by omega
        clear hr hown hgrow hT hT2 htk es hF1r hSD
        rw [htl]
        clear htl
        go_wp2_with (at_builtin; refine wpList_app rfl (.tmp 86) (.tmp 91) 105 105 rfl _ _ _ rfl rfl (unhide HR) ?_)
        exact ⟨⟨k + 1, by omega, by go_num, unhide HT⟩, by simp [intOf]; omega⟩
      · have hlt' : ¬ (k : Int) < (SN : Int) := by omega
        rw [List.take_of_length_le (by omega)] at hT htl
        have c0 := (hT.fr.cell (lt_of_cell (unhide HZ).1) (fun h => h)).trans (unhide HZ).1
        have c1 := (hT.fr.cell (lt_of_cell (unhide HZ).2.1) (fun h => h)).trans (unhide HZ).2.1
        obtain ⟨da, dc, rfl⟩ := hT.form
        have hFw : Fr (fun _ => False) w1 wr := (unhide HZ).2.2.2.1.trans hT.fr (fun _ _ h => h)
        have HT := hide (And.intro hT (And.intro hFw htl))
        rw [htl]
        clear hT htl hFw hSD
        go_wp2_with fail
        refine ((unhide HC).2.2.1 wr _ _ ((unhide HC).2.2.2.1.fr0 ((unhide H1).2.2.2.1.trans (unhide HT).2.1 (fun _ _ h => h))) ((unhide HC).2.2.2.2.1.fr0 ((unhide H1).2.2.2.1.trans (unhide HT).2.1 (fun _ _ h => h))) ((unhide H1).1.fr0 (unhide HT).2.1)).mono ?_
        rintro e w5 ⟨yo, yc, rfl, hS5, hF5⟩
        have H5 := hide (And.intro hS5 hF5)
        clear hS5 hF5
        go_wp2_with fail
        go_returns
        have hF15 := (unhide HT).2.1.trans (unhide H5).2 (fun _ _ h => h)
        have hF05 := (unhide H1).2.2.2.1.trans hF15 (fun _ _ h => h)
        refine ⟨fun _ => ⟨yo, wi, yc, da, dc, (.slice vo wi vc, .slice ho hn hc, false) :: ss, by rw [(unhide HT).2.2]; rfl, (unhide H5).1, ?_, ?_⟩, fun h => absurd (by have := (unhide H1).2.2.2.2.1; omega) h, hF05⟩
        · exact ((unhide HT).1.fr0 (unhide H5).2).base ((unhide H1).2.2.2.1.trans (unhide HZ).2.2.2.1 (fun _ _ h => h))
        · exact StOk.cons ((unhide HC).2.2.2.2.1.fr0 hF05) ((unhide H1).1.fr0 hF15) rfl ((unhide H1).2.2.1.fr0 hF15)
  · obtain ⟨ho, hn, hc, rfl⟩ := hB hd
    have H1 := hide (And.intro hF hd)
    clear hA hB hF hd
    go_wp2_with fail
    go_returns
    exact ⟨fun h => absurd (by omega) (unhide H1).2, fun _ => ⟨none, 0, 0, rfl⟩, (unhide H1).1⟩
/-- The document's climb. -/
theorem climb_any (wi : Nat) (hw1 : 1 ≤ wi) (hw32 : wi ≤ 32) (leaf : List Nat) (hll : leaf.length = wi) (lo : Option Addr) (ln lc : Nat) (m : Nat) : ∀ (f n i : Nat) (ps : List (List Nat)) (vs : List Value) (x : Value) (w : World), n ≤ m → 1 ≤ n → n < 9223372036854775808 → f ≤ i → i < f + n → GR w → Sl w (.slice lo ln lc) leaf → Pcs w x vs ps → Cp x → ps.length ≤ 8000000 → (∀ p ∈ ps, p.length = wi) → ClSays wi leaf (.slice lo ln lc) f n i ps x w := by
  induction m with
  | zero => intro f n i ps vs x w h h1; omega
  | succ m ih =>
    intro f n i ps vs x w h h1 hn hfi hin hr hl hp hcx hps hpw
    by_cases h2 : n = 1
    · subst h2
      exact climb_one wi leaf _ f i ps vs x w hl hp (by omega)
    · have hlt := hf_lt n (by omega)
      have hpos := hf_pos n
      by_cases h0 : ps = []
      · subst h0
        refine climb_short wi leaf _ f n i vs x w hl hp (by omega) ?_
        by_cases hi : i < f + hf n
        · rw [dep_l (by omega) (by omega) hi]; omega
        · rw [dep_r (by omega) (by omega) hi]; omega
      · obtain ⟨D, hD⟩ : ∃ D, ps.length = D + 1 := ⟨ps.length - 1, by have := List.length_pos_iff.2 h0; omega⟩
        obtain ⟨xo, xc, rfl⟩ := hp.form
        obtain ⟨g, o, v, rfl, -⟩ := hp.cell (Fr.refl _ _) 0 (by omega)
        have hcap : ps.length ≤ xc := hcx _ _ _ rfl
        rw [hD] at hp hcx hcap ⊢
        have hp' := hp.take D (by omega)
        have hcx' : Cp (.slice (some ⟨g, o, none⟩) D xc) := fun _ _ _ e => by cases e; omega
        have htl : (ps.take D).length ≤ 8000000 := by rw [List.length_take]; omega
        have hpw' : ∀ p ∈ ps.take D, p.length = wi := fun p h => hpw p (List.mem_of_mem_take h)
        by_cases hi : i < f + hf n
        · exact climb_left wi hw1 hw32 leaf lo ln lc f n i D ps vs g o xc w hr hp hcap hD (by omega) (by omega) hn hfi hi hll hpw (fun w' hf' => ih f (hf n) i _ _ _ w' (by omega) (by omega) (by omega) hfi hi (hr.fr0 hf') (hl.fr0 hf') (hp'.fr0 hf') hcx' htl hpw')
        · exact climb_right wi hw1 hw32 leaf lo ln lc f n i D ps vs g o xc w hr hp hcap hD (by omega) (by omega) hn hin hi hll hpw (fun w' hf' => ih (f + hf n) (n - hf n) i _ _ _ w' (by omega) (by omega) (by omega) (by omega) (by omega) (hr.fr0 hf') (hl.fr0 hf') (hp'.fr0 hf') hcx' htl hpw')
end Go.Proofs.YtjokmlnghpnlbaaDoor

namespace Go.Proofs.YtjokmlnghpnlbaaDoor
open Go.RowKit

theorem norm_id {a : List Nat} (h : ∀ v ∈ a, v < 256) : norm a = a := by
  rw [norm]
  conv => rhs; rw [← List.map_id a]
  exact List.map_congr_left (fun v hv => Nat.mod_eq_of_lt (h v hv))
theorem gsame_D {w : World} {x y : Value} {a b : List Nat} (hx : Sl w x a) (hy : Sl w y b) (ha : a.length ≤ 140737488355328) : Calls Tryd.prog 19 #[x, y] w fun e w' => e = .returned (.bool (decide (a = b))) ∧ Fr (fun _ => False) w w' := by
  refine (same_any x y a b w hx.s hy.s ha).mono ?_
  rintro e w' ⟨rfl, hn⟩
  refine ⟨?_, Fr.of_drewN hn⟩
  rw [sameB, norm_id hx.b, norm_id hy.b]
set_option maxRecDepth 100000 in
set_option maxHeartbeats 2000000 in
/-- The document's CheckPath. -/
theorem gcheckPath_any (j i n : Int) (lv rv x : Value) (leaf root : List Nat) (vs : List Value) (ps : List (List Nat)) (w : World) (hg_ : GR w) (hl : Sl w lv leaf) (hr : Sl w rv root) (hp : Pcs w x vs ps) (hcx : Cp x) (hn : n < 9223372036854775808) (hps : ps.length ≤ 8000000) :
    Calls Tryd.prog 56 #[.int .i64 j, lv, .int .i64 i, .int .i64 n, x, rv] w fun e w' => e = .returned (.bool (chkP j leaf i n ps root)) ∧ Fr (fun _ => False) w w' := by
  obtain ⟨lo, lc, rfl⟩ := hl.form
  obtain ⟨rr, rc, rfl⟩ := hr.form
  obtain ⟨xo, xc, rfl⟩ := hp.form
  by_cases h1o : j < 1 ∨ 32 < j
  · have h1 : ¬ (1 ≤ j ∧ j ≤ 32) := by omega
    have hB : chkP j leaf i n ps root = false := by rw [chkP, decide_eq_false h1]; rfl
    rw [hB]
    have HM := hide h1o
    clear hg_ hl hr hp hcx hn hps hB h1 h1o
    generalize leaf.length = LL at *
    generalize root.length = RL at *
    generalize ps.length = PL at *
    go_enter Tryd.func56, Tryd.ntmps56
    go_wp2_with fail
    refine (may_no j _ (unhide HM)).mono ?_
    rintro e' w0 ⟨rfl, rfl⟩
    go_wp2_with fail
    go_ret
    exact ⟨rfl, Fr.refl _ _⟩
  · have h1 : 1 ≤ j ∧ j ≤ 32 := by omega
    clear h1o
    have HM := hide h1
    by_cases h2' : i < 0
    · have h2 : ¬ 0 ≤ i := by omega
      have hB : chkP j leaf i n ps root = false := by rw [chkP, decide_eq_true h1, decide_eq_false h2]; rfl
      rw [hB]
      clear hg_ hl hr hp hcx hn hps hB h1
      generalize leaf.length = LL at *
      generalize root.length = RL at *
      generalize ps.length = PL at *
      go_enter Tryd.func56, Tryd.ntmps56
      go_wp2_with fail
      refine (may_yes j _ (unhide HM).1 (unhide HM).2).mono ?_
      rintro e' w0 ⟨rfl, rfl⟩
      go_wp2_with fail
      go_ret
      exact ⟨rfl, Fr.refl _ _⟩
    · have h2 : 0 ≤ i := by omega
      by_cases h3' : n ≤ i
      · have h3 : ¬ i < n := by omega
        have hB : chkP j leaf i n ps root = false := by rw [chkP, decide_eq_true h1, decide_eq_true h2, decide_eq_false h3]; rfl
        rw [hB]
        clear hg_ hl hr hp hcx hn hps hB h1
        generalize leaf.length = LL at *
        generalize root.length = RL at *
        generalize ps.length = PL at *
        go_enter Tryd.func56, Tryd.ntmps56
        go_wp2_with fail
        refine (may_yes j _ (unhide HM).1 (unhide HM).2).mono ?_
        rintro e' w0 ⟨rfl, rfl⟩
        go_wp2_with fail
        go_ret
        exact ⟨rfl, Fr.refl _ _⟩
      · have h3 : i < n := by omega
        have hce : chkP j leaf i n ps root = (wdq j [leaf, root] && (wdq j ps && (decide (ps.length = dep 0 n.toNat i.toNat 1) && decide (topv j.toNat leaf 0 n.toNat i.toNat 1 ps = root)))) := by
          rw [chkP, decide_eq_true h1, decide_eq_true h2, decide_eq_true h3]; rfl
        by_cases h4 : (leaf.length : Int) = j
        · by_cases h5 : (root.length : Int) = j
          · have hq1 : wdq j [leaf, root] = true := by simp [wdq, h4, h5]
            clear hce
            have hwd := gwide_any j _ vs ps w hp (by omega)
            obtain ⟨wi, rfl⟩ : ∃ k : Nat, j = (k : Int) := ⟨j.toNat, by omega⟩
            obtain ⟨I, rfl⟩ : ∃ k : Nat, i = (k : Int) := ⟨i.toNat, by omega⟩
            obtain ⟨N, rfl⟩ : ∃ k : Nat, n = (k : Int) := ⟨n.toNat, by omega⟩
            have hce : chkP wi leaf I N ps root = (wdq wi [leaf, root] && (wdq wi ps && (decide (ps.length = dep 0 N I 1) && decide (topv wi leaf 0 N I 1 ps = root)))) := by
              rw [chkP, decide_eq_true h1, decide_eq_true h2, decide_eq_true h3]; rfl
            rw [hce, hq1, Bool.true_and]
            clear hce hq1
            have h2'' : ¬ (I : Int) < 0 := by omega
            have h3'' : ¬ (N : Int) ≤ (I : Int) := by omega
            have h6 : ¬ N ≤ I := by omega
            have hlw : leaf.length = wi := by omega
            have hrw : root.length = wi := by omega
            rw [hlw] at hl ⊢
            rw [hrw] at hr ⊢
            cases hq2 : wdq wi ps with
            | false =>
              rw [hq2] at hwd
              rw [Bool.false_and]
              have HC := hide hwd
              clear hg_ hl hr hp hcx hn hps h1 h2 h3 hwd hq2 h4 h5 h2' h3' hlw hrw
              generalize ps.length = PL at *
              go_enter Tryd.func56, Tryd.ntmps56
              go_wp2_with fail
              refine (may_yes wi _ (unhide HM).1 (unhide HM).2).mono ?_
              rintro e' w0 ⟨rfl, rfl⟩
              go_wp2_with fail
              refine (unhide HC).mono ?_
              rintro e' w1 ⟨rfl, rfl⟩
              go_wp2_with fail
              go_ret
              exact ⟨rfl, Fr.refl _ _⟩
            | true =>
              rw [hq2] at hwd
              rw [Bool.true_and]
              have hpw : ∀ p ∈ ps, p.length = wi := fun p hp => by have := wdq_true hq2 p hp; omega
              have hcl := climb_any wi (by omega) (by omega) leaf hlw lo wi lc N 0 N I ps vs _ w (Nat.le_refl _) (by omega) (by omega) (by omega) (by omega) hg_ hl hp hcx hps hpw
              unfold ClSays at hcl
              rw [Nat.sub_zero] at hcl
              have hTw := topv_wid wi (by omega) (by omega) leaf hlw _ 0 N I 1 ps (Nat.le_refl _)
              generalize topv wi leaf 0 N I 1 ps = T at *
              generalize stpv wi leaf 0 N I ps = SS at *
              by_cases hd : ps.length = dep 0 N I 1
              · rw [decide_eq_true hd, Bool.true_and]
                obtain ⟨BB, hBB⟩ : ∃ BB, decide (T = root) = BB := ⟨_, rfl⟩
                rw [hBB]
                have HC := hide (And.intro hwd (And.intro hcl (And.intro hd (And.intro hr (And.intro hBB hTw)))))
                clear hg_ hl hr hp hcx hn hps h1 h2 h3 hwd hq2 h4 h5 h2' h3' hlw hrw hpw hcl hTw hBB hd
                generalize ps.length = PL at *
                go_enter Tryd.func56, Tryd.ntmps56
                go_wp2_with fail
                refine (may_yes wi _ (unhide HM).1 (unhide HM).2).mono ?_
                rintro e' w0 ⟨rfl, rfl⟩
                go_wp2_with fail
                refine (unhide HC).1.mono ?_
                rintro e' w1 ⟨rfl, rfl⟩
                go_wp2_with fail
                refine (unhide HC).2.1.mono ?_
                rintro e' w2 ⟨hA, -, hF⟩
                obtain ⟨ho, hn, hc, so, sc, ss, rfl, hS, -, -⟩ := hA (unhide HC).2.2.1
                have H1 := hide (And.intro hS hF)
                clear hA hS hF
                generalize ss.length = SN at *
                go_wp2_with fail
                refine (gsame_D (unhide H1).1 ((unhide HC).2.2.2.1.fr0 (unhide H1).2) (by have h1 := (unhide HC).2.2.2.2.2; have h2 := (unhide HM).2; omega)).mono ?_
                rintro e' w3 ⟨rfl, hF⟩
                rw [(unhide HC).2.2.2.2.1]
                have H2 := hide ((unhide H1).2.trans hF (fun _ _ h => h))
                clear hF
                go_wp2_with fail
                go_ret
                exact ⟨rfl, unhide H2⟩
              · rw [decide_eq_false hd, Bool.false_and]
                have HC := hide (And.intro hwd (And.intro hcl hd))
                clear hg_ hl hr hp hcx hn hps h1 h2 h3 hwd hq2 h4 h5 h2' h3' hlw hrw hpw hcl hTw hd
                generalize ps.length = PL at *
                go_enter Tryd.func56, Tryd.ntmps56
                go_wp2_with fail
                refine (may_yes wi _ (unhide HM).1 (unhide HM).2).mono ?_
                rintro e' w0 ⟨rfl, rfl⟩
                go_wp2_with fail
                refine (unhide HC).1.mono ?_
                rintro e' w1 ⟨rfl, rfl⟩
                go_wp2_with fail
                refine (unhide HC).2.1.mono ?_
                rintro e' w2 ⟨-, hB, hF⟩
                obtain ⟨ho, hn, hc, rfl⟩ := hB (unhide HC).2.2
                have H1 := hide hF
                clear hB hF
                go_wp2_with fail
                go_ret
                exact ⟨rfl, unhide H1⟩
          · have hB : chkP j leaf i n ps root = false := by
              rw [hce, wdq_false j [leaf, root] 1 (by simp) (by simpa using h5)]; rfl
            rw [hB]
            have q5 : ((root.length : Int) == j) = false := beq_false_of_ne h5
            have q4 : ((leaf.length : Int) == j) = true := by rw [h4]; simp
            clear hce
            clear hg_ hl hr hp hcx hn hps hB h1
            generalize leaf.length = LL at *
            generalize root.length = RL at *
            generalize ps.length = PL at *
            go_enter Tryd.func56, Tryd.ntmps56
            go_wp2_with fail
            refine (may_yes j _ (unhide HM).1 (unhide HM).2).mono ?_
            rintro e' w0 ⟨rfl, rfl⟩
            go_wp2_with fail
            go_ret
            exact ⟨rfl, Fr.refl _ _⟩
        · have hB : chkP j leaf i n ps root = false := by
            rw [hce, wdq_false j [leaf, root] 0 (by simp) (by simpa using h4)]; rfl
          rw [hB]
          have q4 : ((leaf.length : Int) == j) = false := beq_false_of_ne h4
          clear hce
          clear hg_ hl hr hp hcx hn hps hB h1
          generalize leaf.length = LL at *
          generalize root.length = RL at *
          generalize ps.length = PL at *
          go_enter Tryd.func56, Tryd.ntmps56
          go_wp2_with fail
          refine (may_yes j _ (unhide HM).1 (unhide HM).2).mono ?_
          rintro e' w0 ⟨rfl, rfl⟩
          go_wp2_with fail
          go_ret
          exact ⟨rfl, Fr.refl _ _⟩
end Go.Proofs.YtjokmlnghpnlbaaDoor

namespace Go.Proofs.YtjokmlnghpnlbaaDoor
open Go.RowKit

/-- May a secret be? -/
def okS (j K J V : Int) : Prop := (1 ≤ j ∧ j ≤ 32) ∧ (0 ≤ K ∧ K < 64) ∧ (0 ≤ J ∧ J < 8 * j) ∧ 0 ≤ V ∧ V < 2
instance (j K J V : Int) : Decidable (okS j K J V) := by unfold okS; infer_instance
def scF (j K J V : Int) (seed : List Nat) : List Nat := if okS j K J V then sm j (scm K.toNat J.toNat V.toNat seed) else []
theorem scF_lt (j K J V : Int) (seed : List Nat) : ∀ v ∈ scF j K J V seed, v < 256 := by
  unfold scF
  split
  · exact sm_lt _ _
  · intro v hv; cases hv
theorem scF_len (j K J V : Int) (seed : List Nat) : (scF j K J V seed).length ≤ 32 := by
  unfold scF
  split
  · rename_i h
    rw [sm_len h.1]; have := h.1; omega
  · exact Nat.zero_le _
/-- lamport.Secret. -/
theorem lsecret_any (j K J V : Int) (x : Value) (seed : List Nat) (w : World) (hg : GS w) (hx : Sl w x seed) (hs : seed.length ≤ 15000000) :
    Calls Tryd.prog 10 #[.int .i64 j, x, .int .i64 K, .int .i64 J, .int .i64 V] w fun e w' => ∃ yo yc, e = .returned (.slice yo (scF j K J V seed).length yc) ∧ OB w w' yo yc (scF j K J V seed) := by
  by_cases h : okS j K J V
  · have e : scF j K J V seed = sm j (scm K.toNat J.toNat V.toNat seed) := by rw [scF, if_pos h]
    obtain ⟨h1, h2, h3, h4⟩ := h
    obtain ⟨wi, rfl⟩ : ∃ n : Nat, j = (n : Int) := ⟨j.toNat, by omega⟩
    obtain ⟨k, rfl⟩ : ∃ n : Nat, K = (n : Int) := ⟨K.toNat, by omega⟩
    obtain ⟨b, rfl⟩ : ∃ n : Nat, J = (n : Int) := ⟨J.toNat, by omega⟩
    obtain ⟨v, rfl⟩ : ∃ n : Nat, V = (n : Int) := ⟨V.toNat, by omega⟩
    simp only [Int.toNat_natCast] at e
    have hl : (scF (wi : Int) k b v seed).length = wi := by rw [e, sm_len ⟨by omega, by omega⟩, Int.toNat_natCast]
    rw [hl]
    refine (lsecret_in wi k b v (by omega) (by omega) (by omega) (by omega) (by omega) x seed w hg hx (by omega)).mono ?_
    rintro e' w' ⟨yo, rfl, hO⟩
    exact ⟨yo, wi, rfl, by rw [e]; exact hO⟩
  · have e : scF j K J V seed = [] := by rw [scF, if_neg h]
    rw [e]
    refine (lsecret_no j K J V h x w).mono ?_
    rintro e' w' ⟨rfl, rfl⟩
    exact ⟨none, 0, rfl, own_nil _ _, Fr.refl _ _⟩
set_option maxRecDepth 100000 in
set_option maxHeartbeats 2000000 in
/-- The document's Secret, of what may not be. -/
theorem g5secret_no (j K J V : Int) (h : ¬ okS j K J V) (x : Value) (w : World) :
    Calls Tryd.prog 17 #[.int .i64 j, x, .int .i64 K, .int .i64 J, .int .i64 V] w fun e w' => e = .returned (.slice none 0 0) ∧ w' = w := by
  unfold okS at h
  by_cases h1 : 1 ≤ j ∧ j ≤ 32
  · have hmy := hide (may_yes j w h1.1 h1.2)
    by_cases a1 : K < 0
    · clear h
      go_enter Tryd.func17, Tryd.ntmps17
      go_wp2_with fail
      refine (unhide hmy).mono ?_
      rintro e w0 ⟨rfl, rfl⟩
      go_wp2_with fail
      go_ret
      exact ⟨rfl, rfl⟩
    · by_cases a2 : 63 < K
      · clear h
        go_enter Tryd.func17, Tryd.ntmps17
        go_wp2_with fail
        refine (unhide hmy).mono ?_
        rintro e w0 ⟨rfl, rfl⟩
        go_wp2_with fail
        go_ret
        exact ⟨rfl, rfl⟩
      · by_cases a3 : J < 0
        · clear h
          go_enter Tryd.func17, Tryd.ntmps17
          go_wp2_with fail
          refine (unhide hmy).mono ?_
          rintro e w0 ⟨rfl, rfl⟩
          go_wp2_with fail
          go_ret
          exact ⟨rfl, rfl⟩
        · have b1 := h1.1
          have b2 := h1.2
          by_cases a4 : 8 * j ≤ J
          · clear h h1
            go_enter Tryd.func17, Tryd.ntmps17
            go_wp2_with fail
            refine (unhide hmy).mono ?_
            rintro e w0 ⟨rfl, rfl⟩
            go_wp2_with fail
            go_ret
            exact ⟨rfl, rfl⟩
          · by_cases a5 : V < 0
            · clear h h1
              go_enter Tryd.func17, Tryd.ntmps17
              go_wp2_with fail
              refine (unhide hmy).mono ?_
              rintro e w0 ⟨rfl, rfl⟩
              go_wp2_with fail
              go_ret
              exact ⟨rfl, rfl⟩
            · have a6 : 1 < V := by omega
              clear h h1
              go_enter Tryd.func17, Tryd.ntmps17
              go_wp2_with fail
              refine (unhide hmy).mono ?_
              rintro e w0 ⟨rfl, rfl⟩
              go_wp2_with fail
              go_ret
              exact ⟨rfl, rfl⟩
  · have hmy := hide (may_no j w (by omega))
    clear h
    go_enter Tryd.func17, Tryd.ntmps17
    go_wp2_with fail
    refine (unhide hmy).mono ?_
    rintro e w0 ⟨rfl, rfl⟩
    go_wp2_with fail
    go_ret
    exact ⟨rfl, rfl⟩
/-- The document's Secret. -/
theorem g5secret_any (j K J V : Int) (x : Value) (seed : List Nat) (w : World) (hg : GR w) (hx : Sl w x seed) (hs : seed.length ≤ 15000000) :
    Calls Tryd.prog 17 #[.int .i64 j, x, .int .i64 K, .int .i64 J, .int .i64 V] w fun e w' => ∃ yo yc, e = .returned (.slice yo (scF j K J V seed).length yc) ∧ OB w w' yo yc (scF j K J V seed) := by
  by_cases h : okS j K J V
  · have e : scF j K J V seed = sm j (scm K.toNat J.toNat V.toNat seed) := by rw [scF, if_pos h]
    obtain ⟨h1, h2, h3, h4⟩ := h
    obtain ⟨wi, rfl⟩ : ∃ n : Nat, j = (n : Int) := ⟨j.toNat, by omega⟩
    obtain ⟨k, rfl⟩ : ∃ n : Nat, K = (n : Int) := ⟨K.toNat, by omega⟩
    obtain ⟨b, rfl⟩ : ∃ n : Nat, J = (n : Int) := ⟨J.toNat, by omega⟩
    obtain ⟨v, rfl⟩ : ∃ n : Nat, V = (n : Int) := ⟨V.toNat, by omega⟩
    simp only [Int.toNat_natCast] at e
    have hl : (scF (wi : Int) k b v seed).length = wi := by rw [e, sm_len ⟨by omega, by omega⟩, Int.toNat_natCast]
    rw [hl]
    refine (g5secret_in wi k b v (by omega) (by omega) (by omega) (by omega) (by omega) x seed w hg hx hs).mono ?_
    rintro e' w' ⟨yo, yc, rfl, hO⟩
    exact ⟨yo, yc, rfl, by rw [e]; exact hO⟩
  · have e : scF j K J V seed = [] := by rw [scF, if_neg h]
    rw [e]
    refine (g5secret_no j K J V h x w).mono ?_
    rintro e' w' ⟨rfl, rfl⟩
    exact ⟨none, 0, rfl, own_nil _ _, Fr.refl _ _⟩
end Go.Proofs.YtjokmlnghpnlbaaDoor

namespace Go.Proofs.YtjokmlnghpnlbaaDoor
open Go.RowKit

theorem sl_lit (w : World) (l : List Nat) (cs : Array Value) (t : TypeId) (fz : Nat × Nat) (n : Nat) (hn : n = l.length) (h : cs = (cellsOf l).toArray) (hb : ∀ v ∈ l, v < 256) : Sl (w.alloc (.cells cs t fz)) (.slice (some ⟨w.heap.size, 0, none⟩) n n) l :=
  ⟨src_new w l cs t fz n n hn h, cap_lit, .inr lt_lit, hb⟩
theorem Fr.freeze {S : Nat → Prop} {a w : World} (h : Fr S a w) {p : Addr} (hp : S p.block ∨ a.heap.size ≤ p.block) (n : Nat) : Fr S a (w.freeze p n) := by
  unfold World.freeze
  split
  · exact h
  · refine ⟨h.os, h.tape, h.output, by simpa using h.size, fun k hk hs => ?_⟩
    rw [← h.block k hk hs]
    simp only [Array.getElem?_modify]
    rw [if_neg (fun e => ?_)]
    rcases hp with hp | hp
    · exact hs (e ▸ hp)
    · omega
theorem cell_freeze (w : World) (p : Addr) (n : Nat) (a : Addr) : (w.freeze p n).cell? a = w.cell? a := by
  unfold World.freeze
  split
  · rfl
  · by_cases e : p.block = a.block
    · unfold World.cell?
      simp only [Array.getElem?_modify, if_pos e]
      rcases hq : w.heap[a.block]? with _ | o
      · rfl
      · rcases o with ⟨c, el, lo, hi⟩ | _ <;> rfl
    · unfold World.cell?
      simp only [Array.getElem?_modify, if_neg e]
theorem size_freeze (w : World) (p : Addr) (n : Nat) : (w.freeze p n).heap.size = w.heap.size := by
  unfold World.freeze
  split
  · rfl
  · simp
theorem Sl.freeze {w : World} {x : Value} {l : List Nat} (h : Sl w x l) (p : Addr) (n : Nat) : Sl (w.freeze p n) x l := by
  refine ⟨?_, h.cap, by rw [size_freeze]; exact h.lt, h.b⟩
  rcases h.s with h0 | ⟨g, o, c, e, hc⟩ | h0
  · exact .inl h0
  · exact .inr (.inl ⟨g, o, c, e, fun j v hv => by rw [cell_freeze]; exact hc j v hv⟩)
  · exact .inr (.inr h0)
theorem conv_frz (W : World) (b n c k : Nat) (hsh : W.shape? b = some (5, k)) : (convert 24 24 (.slice (some ⟨b, 0, none⟩) n c)).run Tryd.prog W = .ok (.slice (some ⟨b, 0, none⟩) n c) (W.freeze ⟨b, k, none⟩ 1) := by
  simp [convert, run_underlying Tryd.underlying24, run_underlying Tryd.underlying5, markStringish, hsh]
theorem shape_new {W wP : World} {C : Array Value} {t : TypeId} {fz : Nat × Nat} (hf : Fr (fun _ => False) (W.alloc (.cells C t fz)) wP) : wP.shape? W.heap.size = some (t, C.size) := by
  unfold World.shape?
  rw [hf.block W.heap.size (by simp) (fun h => h)]
  have : (W.alloc (.cells C t fz)).heap[W.heap.size]? = some (.cells C t fz) := by
    show (W.heap.push (.cells C t fz))[W.heap.size]? = _
    simp
  rw [this]
/-- What lives asks for. -/
structure Lv5 : Prop where
  new : ∀ w' x, GS w' → GT w' → Sl w' x [1, 2, 3] → Calls Tryd.prog 11 #[.int .i64 2, .int .i64 1, x] w' fun e w'' => ∃ kb base tb yo yc, e = .returned (.tuple #[.pointer (some ⟨kb, 0, none⟩), .int .i64 0]) ∧ KyAt w'' kb base tb 2 1 (.slice yo 3 yc) [1, 2, 3] (lvs 2 [1, 2, 3] 2) ∧ Fr (fun _ => False) w' w''
  sign : ∀ w' kb base tb yo yc x, KyAt w' kb base tb 2 1 (.slice yo 3 yc) [1, 2, 3] (lvs 2 [1, 2, 3] 2) → Sl w' x [97, 98, 99] → Calls Tryd.prog 14 #[.pointer (some ⟨kb, 0, none⟩), .int .i64 1, x] w' fun e w'' => ∃ zo zc, e = .returned (.tuple #[.slice zo 66 zc, .int .i64 0]) ∧ OB w' w'' zo zc (sig 2 1 1 [1, 2, 3] (sm 2 [97, 98, 99]))
  pub : ∀ w' kb base tb yo yc, KyAt w' kb base tb 2 1 (.slice yo 3 yc) [1, 2, 3] (lvs 2 [1, 2, 3] 2) → Calls Tryd.prog 15 #[.pointer (some ⟨kb, 0, none⟩)] w' fun e w'' => ∃ yo yc, e = .returned (.slice yo 2 yc) ∧ OB w' w'' yo yc (mth 2 (lvs 2 [1, 2, 3] 2))
  size : ∀ w', Calls Tryd.prog 9 #[.int .i64 2, .int .i64 3] w' fun e w'' => e = .returned (.int .i64 70) ∧ w'' = w'
  chk : ∀ w' pv mv sv, GS w' → Sl w' pv (mth 2 (lvs 2 [1, 2, 3] 2)) → Sl w' mv [97, 98, 99] → Sl w' sv (sig 2 1 1 [1, 2, 3] (sm 2 [97, 98, 99])) → Calls Tryd.prog 16 #[.int .i64 2, .int .i64 1, pv, .int .i64 1, mv, sv] w' fun e w'' => e = .returned (.bool true) ∧ Fr (fun _ => False) w' w''
  chn : ∀ w' pv mv sv s, GS w' → Sl w' pv (mth 2 (lvs 2 [1, 2, 3] 2)) → Sl w' mv [97, 98, 99] → Sl w' sv s → s.length = 65 → Calls Tryd.prog 16 #[.int .i64 2, .int .i64 1, pv, .int .i64 1, mv, sv] w' fun e w'' => e = .returned (.bool false) ∧ Fr (fun _ => False) w' w''
  slen : (sig 2 1 1 [1, 2, 3] (sm 2 [97, 98, 99])).length = 66
  sbyt : ∀ v ∈ sig 2 1 1 [1, 2, 3] (sm 2 [97, 98, 99]), v < 256
  plen : (mth 2 (lvs 2 [1, 2, 3] 2)).length = 2
  pbyt : ∀ v ∈ mth 2 (lvs 2 [1, 2, 3] 2), v < 256
theorem lv5 : Lv5 := by
  refine ⟨fun w' x hg ht hx => ?_, fun w' kb base tb yo yc x h hx => ?_, fun w' kb base tb yo yc h => ?_, fun w' => ?_, fun w' pv mv sv hg hp hm hs => ?_, fun w' pv mv sv s hg hp hm hs hl => ?_, ?_, ?_, ?_, ?_⟩
  · exact lnew_in 2 1 (by decide) (by decide) (by decide) x [1, 2, 3] w' hg ht hx (by decide)
  · exact lsign_sig 2 1 kb base tb 1 (by decide) (by decide) (by decide) (by decide) yo 3 yc [1, 2, 3] w' h (by decide) x [97, 98, 99] hx (by decide)
  · exact lpublic_any 2 1 kb base tb (by decide) (by decide) (by decide) _ [1, 2, 3] _ w' h (lvs_len 2 _ _)
  · have := lsize_any 2 3 w'
    have e : szF 2 3 = 70 := by decide
    rw [e] at this
    exact this
  · have := lcheck_any 2 1 1 pv mv sv _ _ _ w' hg hp hm hs (by decide)
    have e : chkL 2 1 (mth 2 (lvs 2 [1, 2, 3] 2)) 1 [97, 98, 99] (sig 2 1 1 [1, 2, 3] (sm 2 [97, 98, 99])) = true := chkL_sig 2 1 1 (by decide) (by decide) (by decide) (by decide) [1, 2, 3] [97, 98, 99]
    rw [e] at this
    exact this
  · have := lcheck_any 2 1 1 pv mv sv _ _ _ w' hg hp hm hs (by decide)
    have e : chkL 2 1 (mth 2 (lvs 2 [1, 2, 3] 2)) 1 [97, 98, 99] s = false := chkL_len 2 1 1 (by decide) (by decide) (by decide) _ _ s (by omega)
    rw [e] at this
    exact this
  · exact sig_len 2 1 1 (by decide) (by decide) (by decide) _ _
  · exact sig_lt _ _ _ _ _
  · exact pub_len 2 1 (by decide) (by decide) _
  · exact pub_lt 2 1 _
theorem OB.sl2 {w wr : World} {xo : Option Addr} {cp n : Nat} {l : List Nat} (h : OB w wr xo cp l) (hb : ∀ v ∈ l, v < 256) (hn : l.length = n) : Sl wr (.slice xo n cp) l := hn ▸ h.sl hb
theorem chk_at (HC : Lv5) {w2 W : World} {pv mv sv : Value} (h : Fr (fun _ => False) w2 W ∧ Sl W pv (mth 2 (lvs 2 [1, 2, 3] 2)) ∧ Sl W mv [97, 98, 99]) (hs : Sl w2 sv (sig 2 1 1 [1, 2, 3] (sm 2 [97, 98, 99]))) (hg : GS w2) :
    Calls Tryd.prog 16 #[.int .i64 2, .int .i64 1, pv, .int .i64 1, mv, sv] W fun e w'' => e = .returned (.bool true) ∧ Fr (fun _ => False) w2 w'' := by
  refine (HC.chk W pv mv sv (hg.fr0 h.1) h.2.1 h.2.2 (hs.fr0 h.1)).mono ?_
  rintro e w'' ⟨rfl, hf⟩
  exact ⟨rfl, h.1.trans hf (fun _ _ h => h)⟩
theorem chn_at (HC : Lv5) {w2 W : World} {pv mv sv : Value} {s : List Nat} (h : Fr (fun _ => False) w2 W ∧ Sl W pv (mth 2 (lvs 2 [1, 2, 3] 2)) ∧ Sl W mv [97, 98, 99]) (hs : Sl w2 sv s) (hl : s.length = 65) (hg : GS w2) :
    Calls Tryd.prog 16 #[.int .i64 2, .int .i64 1, pv, .int .i64 1, mv, sv] W fun e w'' => e = .returned (.bool false) ∧ Fr (fun _ => False) w2 w'' := by
  refine (HC.chn W pv mv sv s (hg.fr0 h.1) h.2.1 h.2.2 (hs.fr0 h.1) hl).mono ?_
  rintro e w'' ⟨rfl, hf⟩
  exact ⟨rfl, h.1.trans hf (fun _ _ h => h)⟩
set_option maxRecDepth 100000 in
set_option maxHeartbeats 4000000 in
/-- lives. -/
theorem lives5_any (w : World) (hg : GS w) (ht : GT w) : Calls Tryd.prog 8 #[] w fun e w' => e = .returned (.bool true) ∧ Fr (fun _ => False) w w' := by
  have hcv := fun (w : World) (C : Array Value) (n c : Nat) => Lib.run_convert_bytes_const (P := Tryd.prog) w 24 5 C n c Tryd.underlying24 Tryd.underlying5
  have hcd : ∀ (w : World) (C : Array Value) (n c : Nat), (convert 24 24 (.slice (some ⟨w.heap.size, 0, none⟩) n c)).run Tryd.prog (w.alloc (.cells C 5)).drew = .ok (.slice (some ⟨w.heap.size, 0, none⟩) n c) (w.alloc (.cells C 5 (C.size, C.size + 1))).drew := fun w C n c => hcv w.drew C n c
  have HC := hide lv5
  have hsl := lv5.slen
  have hsb := lv5.sbyt
  have hpl := lv5.plen
  have hpb := lv5.pbyt
  have HG := hide (And.intro hg ht)
  clear hg ht
  go_enter Tryd.func8, Tryd.ntmps8
  go_wp2_with fail
  refine ((unhide HC).new _ _ ((unhide HG).1.fr0 ((Fr.refl _ _).alloc _)) ((unhide HG).2.fr0 ((Fr.refl _ _).alloc _)) (sl_lit w [1, 2, 3] _ _ _ _ rfl rfl (by decide))).mono ?_
  rintro e w1 ⟨kb, base, tb, yo, yc, rfl, hK, hF1⟩
  have H1 := hide (And.intro hK (((Fr.refl _ w).alloc _).trans hF1 (fun _ _ h => h)))
  clear hK hF1
  go_wp2_with fail
  refine ((unhide HC).sign _ _ _ _ _ _ _ ((unhide H1).1.fr0 ((Fr.refl _ _).alloc _)) (sl_lit w1 [97, 98, 99] _ _ _ _ rfl rfl (by decide))).mono ?_
  rintro e w2 ⟨zo, zc, rfl, hO2⟩
  have hFa := ((Fr.refl _ w1).alloc _).trans hO2.fr (fun _ _ h => h)
  have H2 := hide (And.intro ((unhide H1).1.fr0 hFa) (And.intro hO2 ((unhide H1).2.trans hFa (fun _ _ h => h))))
  clear hO2 hFa
  obtain ⟨zg, rfl, _, _, hzc, _⟩ := (unhide H2).2.1.at_ (by rw [hsl]; decide)
  rw [hsl] at hzc
  have hzs := (unhide H2).2.1.sl hsb
  rw [hsl] at hzs
  have hzs1 := hzs.sub 1 65 (by rw [hsl]; decide)
  have hl65 : (((sig 2 1 1 [1, 2, 3] (sm 2 [97, 98, 99])).drop 1).take 65).length = 65 := by rw [List.length_take, List.length_drop, hsl]; decide
  generalize ((sig 2 1 1 [1, 2, 3] (sm 2 [97, 98, 99])).drop 1).take 65 = S1 at *
  have H3 := hide (And.intro (unhide H2).1 (And.intro hzs (And.intro hzs1 (And.intro (unhide H2).2.2 (And.intro ((unhide HG).1.fr0 (unhide H2).2.2) (And.intro hl65 (And.intro hpl hpb)))))))
  clear hzs hzs1 hl65 H2 hsl hsb hpl hpb H1 HG
  have hz1 : (1 : Int) ≤ (zc : Int) := by omega
  have hz2 : ¬ zc = 1 := by omega
  go_wp2_with fail
  go_region_held_law (fun _ => True)
    (first | trivial)
    (first
      | (go_at_call 9; refine ((unhide HC).size _).mono ?_; rintro e wX ⟨rfl, rfl⟩)
      | (go_at_call 15; refine ((unhide HC).pub _ _ _ _ _ _ ((unhide H3).1.fr0 (by first | exact (Fr.refl _ _).drew | exact (Fr.refl _ _).drew.alloc _))).mono ?_; rintro e wP ⟨po, pc, rfl, hP⟩; try have hcx := conv_frz wP w2.heap.size 3 3 3 (shape_new (W := w2.drew) hP.fr))
      | (go_at_call 16; refine (chk_at (unhide HC) (by first | exact ⟨((Fr.refl _ _).drew.trans hP.fr (fun _ _ h => h)).alloc _, (hP.sl2 (unhide H3).2.2.2.2.2.2.2 (unhide H3).2.2.2.2.2.2.1).fr0 ((Fr.refl _ _).alloc _), sl_lit wP [97, 98, 99] _ _ _ _ rfl rfl (by decide)⟩ | exact ⟨(((Fr.refl _ _).drew.alloc _).trans hP.fr (fun _ _ h => h)).freeze (.inr (Nat.le_refl _)) _, (hP.sl2 (unhide H3).2.2.2.2.2.2.2 (unhide H3).2.2.2.2.2.2.1).freeze _ _, ((sl_lit w2.drew [97, 98, 99] _ _ _ _ rfl rfl (by decide)).fr0 hP.fr).freeze _ _⟩ | exact ⟨((Fr.refl _ _).drew.alloc _).trans hP.fr (fun _ _ h => h), hP.sl2 (unhide H3).2.2.2.2.2.2.2 (unhide H3).2.2.2.2.2.2.1, (sl_lit w2.drew [97, 98, 99] _ _ _ _ rfl rfl (by decide)).fr0 hP.fr⟩) (unhide H3).2.1 (unhide H3).2.2.2.2.1).mono ?_; rintro e wC ⟨rfl, hC⟩; have H4 := hide (And.intro ((unhide H3).1.fr0 hC) (And.intro ((unhide H3).2.1.fr0 hC) (And.intro ((unhide H3).2.2.1.fr0 hC) (And.intro ((unhide H3).2.2.2.1.trans hC (fun _ _ h => h)) (And.intro ((unhide H3).2.2.2.2.1.fr0 hC) (And.intro (unhide H3).2.2.2.2.2.1 (unhide H3).2.2.2.2.2.2)))))); clear hC hP H3; try clear hcx)
      | (go_at_call 15; refine ((unhide HC).pub _ _ _ _ _ _ ((unhide H4).1.fr0 (by first | exact (Fr.refl _ _) | exact (Fr.refl _ _).alloc _))).mono ?_; rintro e wP ⟨po, pc, rfl, hP⟩; try have hcx := conv_frz wP wC.heap.size 3 3 3 (shape_new (W := wC) hP.fr))
      | (go_at_call 16; refine (chn_at (unhide HC) (by first | exact ⟨((Fr.refl _ _).trans hP.fr (fun _ _ h => h)).alloc _, (hP.sl2 (unhide H4).2.2.2.2.2.2.2 (unhide H4).2.2.2.2.2.2.1).fr0 ((Fr.refl _ _).alloc _), sl_lit wP [97, 98, 99] _ _ _ _ rfl rfl (by decide)⟩ | exact ⟨(((Fr.refl _ _).alloc _).trans hP.fr (fun _ _ h => h)).freeze (.inr (Nat.le_refl _)) _, (hP.sl2 (unhide H4).2.2.2.2.2.2.2 (unhide H4).2.2.2.2.2.2.1).freeze _ _, ((sl_lit wC [97, 98, 99] _ _ _ _ rfl rfl (by decide)).fr0 hP.fr).freeze _ _⟩ | exact ⟨((Fr.refl _ _).alloc _).trans hP.fr (fun _ _ h => h), hP.sl2 (unhide H4).2.2.2.2.2.2.2 (unhide H4).2.2.2.2.2.2.1, (sl_lit wC [97, 98, 99] _ _ _ _ rfl rfl (by decide)).fr0 hP.fr⟩) (unhide H4).2.2.1 (unhide H4).2.2.2.2.2.1 (unhide H4).2.2.2.2.1).mono ?_; rintro e wD ⟨rfl, hD⟩; have H5 := hide ((unhide H4).2.2.2.1.trans hD (fun _ _ h => h)); clear hD hP; try clear hcx))
  all_goals go_wp2_with fail
  all_goals go_ret
  all_goals exact ⟨rfl, unhide H5⟩
end Go.Proofs.YtjokmlnghpnlbaaDoor

namespace Go.Proofs.YtjokmlnghpnlbaaDoor
open Go.RowKit

set_option maxRecDepth 100000 in
set_option maxHeartbeats 4000000 in
/-- LamportSizes. -/
theorem lsizes_any (j h K J V : Int) (x : Value) (seed : List Nat) (w : World) (hg : GS w) (hr : GR w) (ht : GT w) (hx : Sl w x seed) (hs : seed.length ≤ 2000000) :
    Calls Tryd.prog 4 #[.int .i64 j, .int .i64 h, x, .int .i64 K, .int .i64 J, .int .i64 V] w fun e w' => e = .returned (.bool true) ∧ Fr (fun _ => False) w w' := by
  obtain ⟨xo, xc, rfl⟩ := hx.form
  have hnil : OB w w none 0 [] := ⟨own_nil _ _, Fr.refl _ _⟩
  obtain ⟨bo, bc, w1, hr1, hO1⟩ := hnil.app _ seed hx.s (by simp; omega)
  rw [List.nil_append] at hr1 hO1
  rw [List.length_nil] at hr1
  have hb1 := hO1.sl hx.b
  have hsec := fun w' (hf : Fr (fun _ => False) w1 w') => lsecret_any j K J V _ seed w' (hg.fr0 (hO1.fr.trans hf (fun _ _ h => h))) (hb1.fr0 hf) (by omega)
  have hgsec := fun w' (hf : Fr (fun _ => False) w1 w') => g5secret_any j K J V _ seed w' (hr.fr0 (hO1.fr.trans hf (fun _ _ h => h))) (hx.fr0 (hO1.fr.trans hf (fun _ _ h => h))) (by omega)
  have hSl := scF_len j K J V seed
  have hSb := scF_lt j K J V seed
  generalize scF j K J V seed = SC at *
  have hsz := fun w' => lsize_any j h w'
  have hgsz := fun w' => g5size_any j h w'
  generalize szF j h = SZ at *
  have h32 : SC.length ≤ 140737488355328 := by omega
  have hsl : seed.length ≤ 140737488355328 := by omega
  generalize hSN : seed.length = SN at *
  have HX := hide (And.intro hr1 (And.intro hO1 (And.intro hb1 (And.intro hx (And.intro hg (And.intro ht (And.intro h32 (And.intro hsl hSN))))))))
  have HC := hide (And.intro hsec (And.intro hgsec (And.intro hsz hgsz)))
  have H32 := hide hSl
  clear hr1 hO1 hb1 hx hg hr ht h32 hsl hsec hgsec hsz hgsz hnil hSl hSN
  go_enter Tryd.func4, Tryd.ntmps4
  go_wp2_with (at_builtin; refine wpList_app rfl _ _ 24 24 rfl _ _ _ rfl rfl (unhide HX).1 ?_)
  refine ((unhide HC).1 _ (Fr.refl _ _)).mono ?_
  rintro e w2 ⟨so, sc, rfl, hO2⟩
  have H2 := hide hO2
  clear hO2
  go_wp2_with fail
  refine ((unhide HC).1 _ (unhide H2).fr).mono ?_
  rintro e w3 ⟨to, tc, rfl, hO3⟩
  have H3 := hide (And.intro hO3 ((unhide H2).fr.trans hO3.fr (fun _ _ h => h)))
  clear hO3
  go_wp2_with fail
  refine ((unhide HC).2.1 _ (unhide H3).2).mono ?_
  rintro e w4 ⟨uo, uc, rfl, hO4⟩
  have H4 := hide (And.intro hO4 ((unhide H3).2.trans hO4.fr (fun _ _ h => h)))
  clear hO4
  go_wp2_with fail
  refine ((unhide HC).2.2.1 _).mono ?_
  rintro e w5 ⟨rfl, rfl⟩
  go_wp2_with fail
  refine ((unhide HC).2.2.2 _).mono ?_
  rintro e w6 ⟨rfl, rfl⟩
  have hS4 : Src w6 (.slice so SC.length sc) SC := ((unhide H2).ow.fr0 ((unhide H3).1.fr.trans (unhide H4).1.fr (fun _ _ h => h))).src
  have HS4 := hide hS4
  clear hS4
  go_wp2_with fail
  refine (same_T (unhide HS4) (unhide H4).1.src (unhide HX).2.2.2.2.2.2.1 (sameB_refl _)).mono ?_
  rintro e w7 ⟨rfl, hF7⟩
  have H7 := hide (And.intro hF7 ((unhide H4).2.trans hF7 (fun _ _ h => h)))
  clear hF7
  go_wp2_with fail
  refine (same_T ((unhide HX).2.2.1.fr0 (unhide H7).2).s ((unhide HX).2.2.2.1.fr0 ((unhide HX).2.1.fr.trans (unhide H7).2 (fun _ _ h => h))).s (by rw [(unhide HX).2.2.2.2.2.2.2.2]; exact (unhide HX).2.2.2.2.2.2.2.1) (sameB_refl _)).mono ?_
  rintro e w8 ⟨rfl, hF8⟩
  have H8 := hide (And.intro ((unhide H7).1.trans hF8 (fun _ _ h => h)) ((unhide H7).2.trans hF8 (fun _ _ h => h)))
  clear hF8
  go_wp2_with fail
  go_loopw [17] (fun iv wr => ∃ (k : Nat) (L : List Nat), k ≤ SC.length ∧ iv = .int .i64 (k : Nat) ∧ L.length = SC.length ∧ Ow wr w1.heap.size so sc L ∧ Fr (fun j => ∃ o, so = some ⟨j, o, none⟩) w8 wr) (fun iv _ => SC.length - (intOf iv).toNat)
  case atStart => exact ⟨0, SC, Nat.zero_le _, rfl, rfl, (unhide H2).ow.fr0 (((unhide H3).1.fr.trans (unhide H4).1.fr (fun _ _ h => h)).trans (unhide H8).1 (fun _ _ h => h)), Fr.refl _ _⟩
  case round =>
    obtain ⟨k, L, hk, rfl, hL, hI, hFL⟩ := hrel
    have h32 := unhide H32
    by_cases hlt : k < SC.length
    · have hlt' : (k : Int) < (SC.length : Int) := by omega
      obtain ⟨pg, rfl⟩ : ∃ pg, so = some ⟨pg, 0, none⟩ := by
        rcases hI.2 with ⟨_, e⟩ | ⟨pg, cap, cur, e, _⟩
        · omega
        · simp only [Value.slice.injEq] at e
          exact ⟨pg, e.1⟩
      have hc : ∃ u, wr.cell? ⟨pg, k, none⟩ = some u := by
        rw [World.ownsRow.cellAt hI k (by omega), List.getElem?_eq_getElem (by rw [cellsOf_length]; omega)]
        exact ⟨_, rfl⟩
      obtain ⟨u, hu⟩ := hc
      have hz := hI.fz k
      have hP := hI.set k 99 (by decide)
      have hF2 : Fr (fun j => ∃ o, some (⟨pg, 0, none⟩ : Addr) = some ⟨j, o, none⟩) w8 (wr.setCell ⟨pg, k, none⟩ (.int .u8 99)) := Fr.setCell hFL (p := ⟨pg, k, none⟩) (.inl ⟨0, rfl⟩) _
      have HP := hide (And.intro hP (And.intro hF2 hL))
      clear hP hF2 hL hI hFL
      go_wp2_with fail
      exact ⟨⟨k + 1, _, by omega, by go_num, by rw [List.length_set]; exact (unhide HP).2.2, (unhide HP).1, (unhide HP).2.1⟩, by simp [intOf]; omega⟩
    · have hlt' : ¬ (k : Int) < (SC.length : Int) := by omega
      have hsb : ∀ j, (∃ o, so = some ⟨j, o, none⟩) → w1.heap.size ≤ j ∧ j < w2.heap.size := fun j h => by
        obtain ⟨o, rfl⟩ := h
        exact World.ownsRow.lt (unhide H2).own j rfl
      have hF34 : Fr (fun _ => False) w3 w8 := (unhide H4).1.fr.trans (unhide H8).1 (fun _ _ h => h)
      have hFw : Fr (fun _ => False) w wr := ((unhide HX).2.1.fr.trans (unhide H8).2 (fun _ _ h => h)).trans (hFL.mono (T := fun j => w1.heap.size ≤ j) (fun j _ h => (hsb j h).1)) (fun i hi h => by have := (unhide HX).2.1.fr.size; omega)
      have hT : Src wr (.slice to SC.length tc) SC := (((unhide H3).1.ow.fr0 hF34).frB hFL (fun g o e h => by
        have h1 := (hsb g h).2
        subst e
        have h2 := (World.ownsRow.lt (unhide H3).1.own g rfl).1
        omega)).src
      have hU : Src wr (.slice uo SC.length uc) SC := (((unhide H4).1.ow.fr0 (unhide H8).1).frB hFL (fun g o e h => by
        have h1 := (hsb g h).2
        subst e
        have h2 := (World.ownsRow.lt (unhide H4).1.own g rfl).1
        have h3 := (unhide H3).1.fr.size
        omega)).src
      have hB : Src wr (.slice bo SN bc) seed := by
        have := (((unhide HX).2.1.ow.fr0 (unhide H8).2).frB hFL (fun g o e h => by
          have h1 := (hsb g h).1
          subst e
          have h2 := (World.ownsRow.lt (unhide HX).2.1.own g rfl).2
          omega)).src
        rw [(unhide HX).2.2.2.2.2.2.2.2] at this
        exact this
      have hXs : Src wr (.slice xo SN xc) seed := ((unhide HX).2.2.2.1.fr0 hFw).s
      have HE := hide (And.intro hT (And.intro hU (And.intro hB (And.intro hXs hFw))))
      clear hT hU hB hXs hFw hF34 hsb hFL hI hL
      go_wp2_with fail
      refine (same_T (unhide HE).1 (unhide HE).2.1 (unhide HX).2.2.2.2.2.2.1 (sameB_refl _)).mono ?_
      rintro e w9 ⟨rfl, hF9⟩
      have H9 := hide hF9
      clear hF9
      go_wp2_with fail
      refine (same_T ((unhide HE).2.2.1.fr0 (unhide H9)) ((unhide HE).2.2.2.1.fr0 (unhide H9)) (by rw [(unhide HX).2.2.2.2.2.2.2.2]; exact (unhide HX).2.2.2.2.2.2.2.1) (sameB_refl _)).mono ?_
      rintro e wA ⟨rfl, hFA⟩
      have HA := hide ((unhide HE).2.2.2.2.trans ((unhide H9).trans hFA (fun _ _ h => h)) (fun _ _ h => h))
      clear hFA
      go_wp2_with fail
      refine (lives5_any _ ((unhide HX).2.2.2.2.1.fr0 (unhide HA)) ((unhide HX).2.2.2.2.2.1.fr0 (unhide HA))).mono ?_
      rintro e wB ⟨rfl, hFB⟩
      have HBq := hide ((unhide HA).trans hFB (fun _ _ h => h))
      clear hFB
      go_wp2_with fail
      go_ret
      exact ⟨rfl, unhide HBq⟩
end Go.Proofs.YtjokmlnghpnlbaaDoor

namespace Go.Proofs.YtjokmlnghpnlbaaDoor
open Go.ChangeShapes Go.WideShapes Go.ChangeAt Go.RowKit
set_option maxRecDepth 100000

theorem lsizes_contract (H : Type) (enc : TypeId × Value → H) (W : World) (base : Nat) (args : Array Value) (ds gs : List (DataW H)) (before : List MemPlace)
    (hval : ∀ (j : Nat) t v, Tryd.f4.params[j]? = some t → args[j]? = some v → Value.okWide Tryd.prog W .any base t v)
    (hW : DataW.Whole enc Tryd.prog Tryd.f4.params.toList Rows.lamportSizesSpec.vars false W args.toList ds gs before) (hk : Rows.uptoSmall H (ds ++ gs) = true) (hL : laidMetH Tryd.prog Rows.lamportSizesUptoRow.laid W) (hsh : W.ShapedOpen Tryd.prog) :
    Calls Tryd.prog 4 args W fun e W' => ∃ v, e = .returned v ∧ Rows.lamportSizesSpec.post enc Tryd.prog Tryd.f4 false true false false W args v W' := by
  have hW' := hW
  obtain ⟨p, q, hA0, hV, rfl, hfz, hnd⟩ := hW
  have hA : DataW.TrodAll enc Tryd.prog W 0 (fun _ => true) true Tryd.f4.params.toList args.toList ds p := hA0
  rw [Tryd.params4] at hA hval
  obtain ⟨v0, vs0, d0, ds0, p0, q0, hargs, rfl, rfl, h0, r0⟩ := trodAll_cons hA
  obtain ⟨v1, vs1, d1, ds1, p1, q1, rfl, rfl, rfl, h1, r1⟩ := trodAll_cons r0
  obtain ⟨v2, vs2, d2, ds2, p2, q2, rfl, rfl, rfl, h2, r2⟩ := trodAll_cons r1
  obtain ⟨v3, vs3, d3, ds3, p3, q3, rfl, rfl, rfl, h3, r3⟩ := trodAll_cons r2
  obtain ⟨v4, vs4, d4, ds4, p4, q4, rfl, rfl, rfl, h4, r4⟩ := trodAll_cons r3
  obtain ⟨v5, vs5, d5, ds5, p5, q5, rfl, rfl, rfl, h5, r5⟩ := trodAll_cons r4
  obtain ⟨rfl, rfl, rfl⟩ := trodAll_nil r5
  obtain rfl : args = #[v0, v1, v2, v3, v4, v5] := by cases args; simp_all
  obtain ⟨rfl, rfl⟩ := trodVars_none hV
  obtain ⟨a0, rfl, rfl, rfl, w0⟩ := open_int Tryd.underlying3 (hval 0 3 v0 rfl rfl) h0
  obtain ⟨a1, rfl, rfl, rfl, w1⟩ := open_int Tryd.underlying3 (hval 1 3 v1 rfl rfl) h1
  have hb2 : ∃ l : List Nat, Sl W v2 l ∧ l.length ≤ Rows.uptoBulk d2 := by
    obtain ⟨a, len, cap, rfl⟩ := okWide_slice Tryd.underlying24 (hval 2 24 v2 rfl rfl)
    obtain ⟨fuel, hf⟩ := h2
    obtain ⟨l, q1, q2, q3, q4, q5⟩ := src_of_trod (by simpa [Value.cells] using hf)
    exact ⟨l, ⟨q1, q3, q4, q2⟩, q5⟩
  obtain ⟨l2, hS2, hN2⟩ := hb2
  obtain ⟨a3, rfl, rfl, rfl, w3⟩ := open_int Tryd.underlying3 (hval 3 3 v3 rfl rfl) h3
  obtain ⟨a4, rfl, rfl, rfl, w4⟩ := open_int Tryd.underlying3 (hval 4 3 v4 rfl rfl) h4
  obtain ⟨a5, rfl, rfl, rfl, w5⟩ := open_int Tryd.underlying3 (hval 5 3 v5 rfl rfl) h5
  have hk2 : Rows.uptoBulk d2 ≤ 1048576 := by
    have h := of_decide_eq_true hk
    simp only [List.append_nil, Rows.uptoBulkAll] at h
    omega
  obtain ⟨hg, hr, ht⟩ := g6_of_laid (show laidMet Tryd.prog laid6 W from hL) (heap_enough hsh)
  clear hA0
  refine (lsizes_any a0 a1 a3 a4 a5 v2 l2 W hg hr ht hS2 (by omega)).mono fun e W' ⟨he, hf⟩ => ?_
  subst he
  have hlt : ∀ x ∈ [] ++ ([] ++ (p2 ++ ([] ++ ([] ++ ([] ++ []))))), x.block < W.heap.size := fun x hx => hW'.lt x (by simpa using hx)
  have hb := hf.below
  refine ⟨_, rfl, _, _, _, [], [] ++ ([] ++ (p2 ++ ([] ++ ([] ++ ([] ++ []))))), [], hW', ?_, ?_, ?_, hb.frame _, fun h => by cases h⟩
  · exact trodAll_cons_mk (shut_bool Tryd.underlying4 true) trodAll_mk0
  · exact (trodAll_cons_mk (shut_int Tryd.underlying3 w0) (trodAll_cons_mk (shut_int Tryd.underlying3 w1) (trodAll_cons_mk (Below.trod (by kernel_rfl) (by kernel_rfl) (by decide +kernel) h2 hb (fun x hx => hlt x (by simp [hx]))) (trodAll_cons_mk (shut_int Tryd.underlying3 w3) (trodAll_cons_mk (shut_int Tryd.underlying3 w4) (trodAll_cons_mk (shut_int Tryd.underlying3 w5) trodAll_mk0))))))
  · rfl

theorem lsizes_laid_met (os : Os) : laidMetH Tryd.prog Rows.lamportSizesUptoRow.laid ((mWorld os).forCall (fun _ _ => 0) ⟨#[], #[.int .i64 0, .int .i64 0, .slice none 0 0, .int .i64 0, .int .i64 0, .int .i64 0], []⟩).memory :=
  laidMetH_of_parts (laidMet_of_run' 8 (by kernel_rfl) (by kernel_rfl)) (by kernel_rfl)
theorem lsizes_reads (os : Os) {H : Type} (enc : TypeId × Value → H) : ∃ places, DataW.whole enc Tryd.prog ((mWorld os).forCall (fun _ _ => 0) ⟨#[], #[.int .i64 0, .int .i64 0, .slice none 0 0, .int .i64 0, .int .i64 0, .int .i64 0], []⟩).memory Tryd.f4.params.toList Rows.lamportSizesSpec.vars false #[Value.int .i64 0, .int .i64 0, .slice none 0 0, .int .i64 0, .int .i64 0, .int .i64 0].toList 8 = some ([.lit (.int .i64 0), .lit (.int .i64 0), .nil, .lit (.int .i64 0), .lit (.int .i64 0), .lit (.int .i64 0)], [], places) :=
  ⟨[], by kernel_rfl⟩

theorem lsizes_lifted (os : Os) (started : os.Started) (H : Type) (enc : TypeId × Value → H) (F : Stop.Interp) :
    ReturnsInHanded {} Tryd.checked os 4 .any ((Rows.OpenSpec.upto Rows.lamportSizesSpec).preRow enc Tryd.prog Tryd.f4 Rows.lamportSizesUptoRow.domain false Rows.lamportSizesUptoRow.laid) (((Rows.OpenSpec.upto Rows.lamportSizesSpec).at F).post enc Tryd.prog Tryd.f4 false true false false) := by
  obtain ⟨places, hx⟩ := lsizes_reads os enc
  refine returnsInHanded_of_row (C := Tryd.checked) (s := Rows.OpenSpec.upto Rows.lamportSizesSpec) Tryd.ownKnob started (by kernel_rfl) Tryd.func4
    (witness_row_atRef (enc := enc) (C := Tryd.checked) false (mWorld os) #[.int .i64 0, .int .i64 0, .slice none 0 0, .int .i64 0, .int .i64 0, .int .i64 0] rfl (by kernel_rfl) (by kernel_rfl) (by kernel_rfl)
      (OpenSpec.preRow_of_cond 8 hx (by kernel_rfl) (fun k hk => by cases hk; kernel_rfl) (by kernel_rfl) (lsizes_laid_met os))) ?_
  intro W base args ds gs before hval hW _ hcond _ hL hsh _
  exact lsizes_contract H enc W base args ds gs before hval hW (hcond _ rfl) hL hsh

theorem lsizes_said : Rows.LamportSizesUptoSaid :=
  OpenClaim.holds_of_cond 4 Tryd.f4 rfl rfl rfl rfl rfl rfl rfl ⟨rfl, rfl, rfl, rfl, rfl⟩ rfl rfl rfl rfl rfl (by kernel_rfl) Tryd.func4 (by kernel_rfl)
    (of_decide_eq_true (by kernel_rfl)) (by unfold Func.isWrapper; first | (rw [if_pos (by decide +kernel)]; kernel_rfl) | (rw [if_neg (by decide +kernel)]; exact ⟨rfl, rfl⟩))
    (fun os started H enc _ F => by rw [OpenClaim.pre_eq_preRow]; exact lsizes_lifted os started H enc F)

theorem lsizes_plain (f : FuncId) (fn : Func) (hf : Tryd.pinned.checked.prog.funcNamed Rows.lamportSizesUptoRow.func = some f) (hfn : Tryd.pinned.checked.prog.funcs[f]? = some fn) :
    false = Tryd.pinned.checked.prog.looks [] ∧ ∀ (j : Nat) t, fn.params[j]? = some t → Tryd.pinned.checked.prog.wantsStandIn t = false := by
  obtain rfl : f = 4 := Option.some.inj ((show Tryd.prog.funcNamed Rows.lamportSizesUptoRow.func = some 4 by kernel_rfl).symm.trans hf) |>.symm
  obtain rfl : fn = Tryd.f4 := (Option.some.inj (Tryd.func4.symm.trans hfn)).symm
  refine ⟨by kernel_rfl, fun j t ht => ?_⟩
  rw [Tryd.params4] at ht
  have ht' : t = 3 ∨ t = 24 ∨ t = 3 := by simpa using Array.mem_of_getElem? ht
  rcases ht' with rfl | rfl | rfl
  · exact (show Tryd.prog.wantsStandIn 3 = false by kernel_rfl)
  · exact (show Tryd.prog.wantsStandIn 24 = false by kernel_rfl)
  · exact (show Tryd.prog.wantsStandIn 3 = false by kernel_rfl)

/-- THE SECOND FORM's CARD. -/
theorem lsizes_card : Rows.LamportSizesUptoCardSaid :=
  Claim7.holds_tied_plain_at .later [] _ _ _ _ lsizes_said (fun _ h => by cases h) (by kernel_rfl) (fun _ h => by cases h) lamportSizesUpto_row_tie rfl ⟨rfl, rfl⟩ (by kernel_rfl) rfl lsizes_plain (by kernel_rfl)
#print axioms lsizes_card
end Go.Proofs.YtjokmlnghpnlbaaDoor

