import Derived.Test.YtficeloegepdkaaPom
namespace Go.Proofs.Ytficeloegepdkaa
open Go.RowKit

set_option maxHeartbeats 2000000 in
set_option maxRecDepth 100000 in
theorem gamend_any (sv : Value) (S : List P3) (wd ow : Nat) (sl : Bool) (gv : Value) (G : List Nat) (k : Nat) (fv : Value) (F : List F5) (w : World) (hS : Stf w sv S) (hl : S.length ≤ 140737488355328) (hG : Us w gv G) (hgl : G.length ≤ 140737488355328) (hF : Fds w fv F) (hfl : F.length ≤ 140737488355328) :
    Calls Try.prog 23 #[sv, .agg #[.int .u32 (wd : Nat), .int .u32 (ow : Nat), .bool sl, gv], .int .u32 (k : Nat), fv] w fun e w' => e = .returned (.int .u8 ((ansv S k fun p => gAm p k wd ow sl G F : Nat) : Nat)) ∧ Fr (fun _ => False) w w' := by
  have HR := hide (fun W (hf : Fr (fun _ => False) w W) => gread_any sv S wd ow sl gv G k W (hS.fr hf) hl (hG.fr hf) hgl)
  have HF := hide (fun W (hf : Fr (fun _ => False) w W) => gfind_any sv S k W (hS.fr hf) hl)
  have HS := hide hS
  have HFd := hide hF
  obtain ⟨xo, xc, rfl⟩ := hS.form
  obtain ⟨go, gc, rfl⟩ := hG.form
  obtain ⟨fo, fc, rfl⟩ := hF.form
  clear hG hF
  rcases fnd_cases S k with ⟨h1, h2⟩ | ⟨j, hj, h1, h2, h3⟩
  · have hV : (ansv S k fun p => gAm p k wd ow sl G F) = 1 := by rw [ansv, h2]
    have hW : (ansv S k fun p => gRd p k wd ow sl G) = 1 := by rw [ansv, h2]
    have HV := hide hV
    rw [hW] at HR
    clear hS h1 h2 hV hW
    go_enter Try.func23, Try.ntmps23
    go_wp2_with fail
    refine ((unhide HR) _ ((Fr.refl _ _).alloc _)).mono ?_
    clear HR
    rintro e w2 ⟨rfl, hq⟩
    go_wp2_with fail
    go_ret
    exact ⟨by rw [unhide HV]; rfl, ((Fr.refl _ _).alloc _).trans hq (fun _ _ h => h)⟩
  · obtain ⟨P, hPe⟩ : ∃ P, S[j] = P := ⟨_, rfl⟩
    have hV : (ansv S k fun p => gAm p k wd ow sl G F) = gAm P k wd ow sl G F := by rw [ansv, h2, hPe]
    have hW : (ansv S k fun p => gRd p k wd ow sl G) = gRd P k wd ow sl G := by rw [ansv, h2, hPe]
    rw [hW] at HR
    simp only [fndI, h1] at HF
    have HPe := hide hPe
    clear hS h1 h2 h3 hPe hW
    obtain ⟨c, hc⟩ : ∃ c, gRd P k wd ow sl G = c := ⟨_, rfl⟩
    rw [gAm, hc] at hV
    rw [hc] at HR
    clear hc
    by_cases hz : c = 0
    · subst hz
      simp only [ne_eq, not_true_eq_false, if_false] at hV
      have HV := hide hV
      clear hV
      go_enter Try.func23, Try.ntmps23
      go_wp2_with fail
      refine ((unhide HR) _ ((Fr.refl _ _).alloc _)).mono ?_
      clear HR
      rintro e w2 ⟨rfl, hq⟩
      have hfr : Fr (fun _ => False) w w2 := ((Fr.refl _ _).alloc _).trans hq (fun _ _ h => h)
      have HQ := hide hfr
      obtain ⟨g, o, rfl, c0, c1, c2⟩ := ((unhide HS).fr hfr).at_ j hj
      rw [unhide HPe] at c0 c1 c2
      clear hq hfr
      obtain ⟨pa, pr, pw⟩ := P
      simp only at c0 c1 c2
      go_wp2_with fail
      refine ((unhide HF) _ (unhide HQ)).mono ?_
      clear HF
      rintro e w3 ⟨rfl, rfl⟩
      by_cases hr2 : pr = 2
      · subst hr2
        go_wp2_with fail
        go_ret
        exact ⟨by rw [unhide HV]; simp, (by repeat first | exact unhide HQ | refine Fr.alloc ?_ _ | refine Fr.drew ?_ | refine Fr.drewN ?_ _)⟩
      · have ir2 : ¬ (pr : Int) = 2 := by omega
        have jr2 : ((pr : Int) == 2) = false := by simpa using ir2
        by_cases hr3 : pr = 3
        · subst hr3
          go_wp2_with fail
          go_ret
          exact ⟨by rw [unhide HV]; simp, (by repeat first | exact unhide HQ | refine Fr.alloc ?_ _ | refine Fr.drew ?_ | refine Fr.drewN ?_ _)⟩
        · have ir3 : ¬ (pr : Int) = 3 := by omega
          have jr3 : ((pr : Int) == 3) = false := by simpa using ir3
          by_cases hr1 : pr = 1
          · subst hr1
            have HX1 := hide ((unhide HFd).fr (unhide HQ))
            go_wp2_with fail
            go_loopw [11] (fun iv wr => ∃ i : Nat, i ≤ F.length ∧ iv = .int .i64 (i : Nat) ∧ (∀ n (hn : n < F.length), n < i → F[n].k = 1) ∧ wr = w3) (fun iv _ => F.length - (intOf iv).toNat)
            case atStart => exact ⟨0, Nat.zero_le _, rfl, fun i _ h => by omega, rfl⟩
            case round =>
              obtain ⟨i, hi, rfl, hno, rfl⟩ := hrel
              have HN := hide hno
              clear hno
              by_cases hlt : i < F.length
              · obtain ⟨fg, fo, rfl, d0, d1, d2, d3, d4⟩ := (unhide HX1).at_ i hlt
                clear d0 d2 d3 d4
                obtain ⟨fk, hfk⟩ : ∃ fk, F[i].k = fk := ⟨_, rfl⟩
                rw [hfk] at d1
                have HK := hide hfk
                clear hfk
                by_cases hk : fk = 1
                · subst hk
                  go_wp2_with fail
                  go_roundw
                  case rel =>
                    refine ⟨i + 1, hlt, rfl, fun n hn h => ?_, trivial⟩
                    rcases Nat.lt_or_ge n i with h1 | h1
                    · exact (unhide HN) n hn h1
                    · obtain rfl : n = i := by omega
                      exact unhide HK
                  case measure => simp [intOf]; omega
                · have HT := hide (show txts F = false by
                    rw [txts, List.all_eq_false]
                    exact ⟨F[i], List.getElem_mem hlt, by rw [unhide HK]; simpa using hk⟩)
                  have ik : ¬ (fk : Int) = 1 := by omega
                  go_wp2_with fail
                  go_ret
                  exact ⟨by rw [unhide HV, unhide HT]; simp, (by repeat first | exact unhide HQ | refine Fr.alloc ?_ _ | refine Fr.drew ?_ | refine Fr.drewN ?_ _)⟩
              · have HT := hide (show txts F = true by
                  rw [txts, List.all_eq_true]
                  intro x hx
                  obtain ⟨n, hn, rfl⟩ := List.mem_iff_getElem.1 hx
                  simpa using (unhide HN) n hn (by omega))
                go_wp2_with fail
                go_ret
                exact ⟨by rw [unhide HV, unhide HT]; simp, (by repeat first | exact unhide HQ | refine Fr.alloc ?_ _ | refine Fr.drew ?_ | refine Fr.drewN ?_ _)⟩
          · have ir1 : ¬ (pr : Int) = 1 := by omega
            have jr1 : ((pr : Int) == 1) = false := by simpa using ir1
            go_wp2_with fail
            go_ret
            exact ⟨by rw [unhide HV]; simp [hr1, hr2, hr3], (by repeat first | exact unhide HQ | refine Fr.alloc ?_ _ | refine Fr.drew ?_ | refine Fr.drewN ?_ _)⟩
    · simp only [ne_eq, hz, not_false_eq_true, if_true] at hV
      have HV := hide hV
      have iz : ¬ (c : Int) = 0 := by omega
      clear hV
      go_enter Try.func23, Try.ntmps23
      go_wp2_with fail
      refine ((unhide HR) _ ((Fr.refl _ _).alloc _)).mono ?_
      clear HR
      rintro e w2 ⟨rfl, hq⟩
      go_wp2_with fail
      go_ret
      exact ⟨by rw [unhide HV]; rfl, ((Fr.refl _ _).alloc _).trans hq (fun _ _ h => h)⟩
/-- Do they rise, each of a role? -/
def okFrom : Nat → List P3 → Bool
  | _, [] => true
  | la, p :: r => decide (la < p.a) && decide (1 ≤ p.r) && decide (p.r ≤ 5) && okFrom p.a r
theorem okFrom_step {l : List P3} {j la : Nat} (hj : j < l.length) : okFrom la (l.drop j) = (decide (la < l[j].a) && decide (1 ≤ l[j].r) && decide (l[j].r ≤ 5) && okFrom l[j].a (l.drop (j + 1))) := by
  rw [List.drop_eq_getElem_cons hj]
  rfl
set_option maxHeartbeats 2000000 in
set_option maxRecDepth 100000 in
/-- Valid. -/
theorem pvalid_any (x : Value) (l : List P3) (w : World) (hx : Stf w x l) (hl : l.length ≤ 140737488355328) :
    Calls Try.prog 19 #[x] w fun e w' => e = .returned (.bool (decide (l.length ≤ 64) && okFrom 0 l)) ∧ Fr (fun _ => False) w w' := by
  have HX := hide hx
  obtain ⟨xo, xc, rfl⟩ := hx.form
  clear hx
  obtain ⟨V, hV⟩ : ∃ V, (decide (l.length ≤ 64) && okFrom 0 l) = V := ⟨_, rfl⟩
  rw [hV]
  have HV := hide hV
  clear hV
  by_cases h64 : l.length ≤ 64
  · have HL := hide ((unhide HV).symm.trans (show (decide (l.length ≤ 64) && okFrom 0 l) = okFrom 0 l by simp [h64]))
    go_enter Try.func19, Try.ntmps19
    go_wp2_with fail
    go_loopw [3, 11] (fun lv iv wr => ∃ j la : Nat, j ≤ l.length ∧ iv = .int .i64 (j : Nat) ∧ lv = .int .u32 (la : Nat) ∧ okFrom 0 l = okFrom la (l.drop j) ∧ Fr (fun _ => False) w wr) (fun _ iv _ => l.length - (intOf iv).toNat)
    case atStart => exact ⟨0, 0, Nat.zero_le _, rfl, rfl, rfl, Fr.refl _ _⟩
    case round =>
      obtain ⟨j, la, hj, rfl, rfl, hok, hfr⟩ := hrel
      have HF := hide (And.intro hok hfr)
      clear hok
      by_cases hlt : j < l.length
      · obtain ⟨g, o, rfl, c0, c1, c2⟩ := ((unhide HX).fr hfr).at_ j hlt
        have hgl : g < wr.heap.size := lt_of_cell c0
        have hs := okFrom_step (la := la) hlt
        clear hfr
        obtain ⟨P, hPe⟩ : ∃ P, l[j] = P := ⟨_, rfl⟩
        rw [hPe] at c0 c1 c2 hs
        obtain ⟨pa, pr, pw⟩ := P
        simp only at c0 c1 c2 hs
        have HS := hide hs
        clear hs hPe
        by_cases ha : pa ≤ la
        · go_wp2_with fail
          go_ret
          exact ⟨by rw [unhide HL, (unhide HF).1, unhide HS]; simp [show ¬ la < pa by omega], (unhide HF).2.alloc _⟩
        · by_cases hr : pr < 1
          · go_wp2_with fail
            go_ret
            exact ⟨by rw [unhide HL, (unhide HF).1, unhide HS]; simp [show ¬ 1 ≤ pr by omega], (unhide HF).2.alloc _⟩
          · by_cases hr5 : 5 < pr
            · go_wp2_with fail
              go_ret
              exact ⟨by rw [unhide HL, (unhide HF).1, unhide HS]; simp [show ¬ pr ≤ 5 by omega], (unhide HF).2.alloc _⟩
            · go_wp2_with fail
              go_roundw
              case rel => exact ⟨j + 1, pa, hlt, rfl, rfl, by rw [(unhide HF).1, unhide HS]; simp [show la < pa by omega, show 1 ≤ pr by omega, show pr ≤ 5 by omega], (unhide HF).2.alloc _⟩
              case measure => simp [intOf]; omega
      · have hd : l.drop j = [] := List.drop_of_length_le (by omega)
        have HE := hide (show okFrom 0 l = true by rw [(unhide HF).1, hd]; rfl)
        clear hfr hd
        go_wp2_with fail
        go_ret
        exact ⟨by rw [unhide HL, unhide HE]; rfl, (unhide HF).2⟩
  · have HL := hide ((unhide HV).symm.trans (show (decide (l.length ≤ 64) && okFrom 0 l) = false by simp [h64]))
    go_enter Try.func19, Try.ntmps19
    go_wp2_with fail
    go_ret
    exact ⟨by rw [unhide HL]; rfl, Fr.refl _ _⟩
set_option maxHeartbeats 2000000 in
set_option maxRecDepth 100000 in
/-- The reference's Valid. -/
theorem gvalid_any (x : Value) (l : List P3) (w : World) (hx : Stf w x l) (hl : l.length ≤ 140737488355328) :
    Calls Try.prog 20 #[x] w fun e w' => e = .returned (.bool (decide (l.length ≤ 64) && okFrom 0 l)) ∧ Fr (fun _ => False) w w' := by
  have HX := hide hx
  obtain ⟨xo, xc, rfl⟩ := hx.form
  clear hx
  obtain ⟨V, hV⟩ : ∃ V, (decide (l.length ≤ 64) && okFrom 0 l) = V := ⟨_, rfl⟩
  rw [hV]
  have HL := hide hV.symm
  clear hV
  go_enter Try.func20, Try.ntmps20
  go_wp2_with fail
  go_loopw [3] (fun iv wr => ∃ j la : Nat, j ≤ l.length ∧ iv = .int .i64 (j : Nat) ∧ (∀ _ : j = 0, la = 0) ∧ (∀ (_ : 0 < j) (h : j - 1 < l.length), la = l[j - 1].a) ∧ okFrom 0 l = okFrom la (l.drop j) ∧ Fr (fun _ => False) w wr) (fun iv _ => l.length - (intOf iv).toNat)
  case atStart => exact ⟨0, 0, Nat.zero_le _, rfl, fun _ => rfl, fun h => by omega, rfl, Fr.refl _ _⟩
  case round =>
    obtain ⟨j, la, hj, rfl, hz, hp, hok, hfr⟩ := hrel
    have HF := hide (And.intro hok hfr)
    clear hok
    by_cases hlt : j < l.length
    · obtain ⟨g, o, rfl, c0, c1, c2⟩ := ((unhide HX).fr hfr).at_ j hlt
      have hs := okFrom_step (la := la) hlt
      obtain ⟨P, hPe⟩ : ∃ P, l[j] = P := ⟨_, rfl⟩
      have HPe := hide hPe
      rw [hPe] at c0 c1 c2 hs
      obtain ⟨pa, pr, pw⟩ := P
      simp only at c0 c1 c2 hs
      have HS := hide hs
      clear hs hPe
      rcases j with _ | i
      · have hla : la = 0 := hz rfl
        subst hla
        clear hfr hz hp
        simp only [Nat.zero_mul, Nat.add_zero] at c0 c1 c2
        by_cases ha : pa = 0
        · subst ha
          go_wp2_with fail
          go_quiet (fail)
          go_wp2_with fail
          go_ret
          exact ⟨by rw [unhide HL, (unhide HF).1, unhide HS]; simp, ((unhide HF).2.drewN _)⟩
        · have ja : ((pa : Int) == 0) = false := by simpa using ha
          by_cases hr : pr < 1
          · have ir : decide ((pr : Int) < 1) = true := by simp; omega
            go_wp2_with fail
            go_quiet (fail)
            go_wp2_with fail
            go_ret
            exact ⟨by rw [unhide HL, (unhide HF).1, unhide HS]; simp [show ¬ 1 ≤ pr by omega], ((unhide HF).2.drewN _)⟩
          · have ir : decide ((pr : Int) < 1) = false := by simp; omega
            by_cases hr5 : 5 < pr
            · have i5 : decide ((5 : Int) < pr) = true := by simp; omega
              go_wp2_with fail
              go_quiet (fail)
              go_wp2_with fail
              go_ret
              exact ⟨by rw [unhide HL, (unhide HF).1, unhide HS]; simp [show ¬ pr ≤ 5 by omega], ((unhide HF).2.drewN _)⟩
            · have i5 : decide ((5 : Int) < pr) = false := by simp; omega
              go_wp2_with fail
              go_quiet (fail)
              go_wp2_with fail
              go_roundw
              case rel => exact ⟨1, pa, hlt, rfl, fun h => by omega, fun _ _ => by simp only [Nat.sub_self]; rw [unhide HPe], by rw [(unhide HF).1, unhide HS]; simp [show 0 < pa by omega, show 1 ≤ pr by omega, show pr ≤ 5 by omega], ((unhide HF).2.drewN _)⟩
              case measure => simp [intOf]; omega
      · obtain ⟨g', o', e1, d0, d1, d2⟩ := ((unhide HX).fr hfr).at_ i (by omega)
        obtain ⟨rfl, rfl⟩ : g' = g ∧ o' = o := by simpa using e1.symm
        have hp' := hp (by omega) (by omega)
        simp only [Nat.add_sub_cancel] at hp'
        rw [← hp'] at d0
        clear d1 d2 e1 hfr hz hp hp'
        by_cases ha : pa = 0
        · subst ha
          go_wp2_with fail
          go_quiet (fail)
          go_wp2_with fail
          go_ret
          exact ⟨by rw [unhide HL, (unhide HF).1, unhide HS]; simp, ((unhide HF).2.drewN _)⟩
        · have ja : ((pa : Int) == 0) = false := by simpa using ha
          by_cases hr : pr < 1
          · have ir : decide ((pr : Int) < 1) = true := by simp; omega
            go_wp2_with fail
            go_quiet (fail)
            go_wp2_with fail
            go_ret
            exact ⟨by rw [unhide HL, (unhide HF).1, unhide HS]; simp [show ¬ 1 ≤ pr by omega], ((unhide HF).2.drewN _)⟩
          · have ir : decide ((pr : Int) < 1) = false := by simp; omega
            by_cases hr5 : 5 < pr
            · have i5 : decide ((5 : Int) < pr) = true := by simp; omega
              go_wp2_with fail
              go_quiet (fail)
              go_wp2_with fail
              go_ret
              exact ⟨by rw [unhide HL, (unhide HF).1, unhide HS]; simp [show ¬ pr ≤ 5 by omega], ((unhide HF).2.drewN _)⟩
            · have i5 : decide ((5 : Int) < pr) = false := by simp; omega
              by_cases hle : pa ≤ la
              · have il : decide ((pa : Int) ≤ la) = true := by simp; omega
                go_wp2_with fail
                go_quiet (fail)
                go_wp2_with fail
                go_ret
                exact ⟨by rw [unhide HL, (unhide HF).1, unhide HS]; simp [show ¬ la < pa by omega], ((unhide HF).2.drewN _)⟩
              · have il : decide ((pa : Int) ≤ la) = false := by simp; omega
                go_wp2_with fail
                go_quiet (fail)
                go_wp2_with fail
                go_roundw
                case rel => exact ⟨i + 1 + 1, pa, hlt, by go_num, fun h => by omega, fun _ _ => by simp only [Nat.add_sub_cancel]; rw [unhide HPe], by rw [(unhide HF).1, unhide HS]; simp [show la < pa by omega, show 1 ≤ pr by omega, show pr ≤ 5 by omega], ((unhide HF).2.drewN _)⟩
                case measure => simp [intOf]; omega
    · have hd : l.drop j = [] := List.drop_of_length_le (by omega)
      have HE := hide (show okFrom 0 l = true by rw [(unhide HF).1, hd]; rfl)
      clear hfr hd hz hp
      go_wp2_with fail
      go_ret
      exact ⟨by rw [unhide HL, unhide HE]; simp [show ((l.length : Int) ≤ 64) ↔ l.length ≤ 64 by omega], (unhide HF).2⟩
end Go.Proofs.Ytficeloegepdkaa
