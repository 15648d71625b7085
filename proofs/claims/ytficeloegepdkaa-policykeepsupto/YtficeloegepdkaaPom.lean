import Derived.Test.YtficeloegepdkaaPol
namespace Go.Proofs.Ytficeloegepdkaa
open Go.RowKit

def gHi (p : P3) (k wd ow : Nat) (sl : Bool) (G : List Nat) : Nat := if p.r = 4 then 0 else gRd p k wd ow sl G
def gAm (p : P3) (k wd ow : Nat) (sl : Bool) (G : List Nat) (F : List F5) : Nat := if gRd p k wd ow sl G ≠ 0 then gRd p k wd ow sl G else if p.r = 2 ∨ p.r = 3 then 0 else if p.r ≠ 1 then 5 else if txts F then 0 else 5
def gCr (S : List P3) (p : P3) (wd ow : Nat) : Nat := match perso S ow with
  | none => 1
  | some o => if o.r ≠ 5 then 1 else if p.w = wd ∧ (p.r = 1 ∨ p.r = 2 ∨ p.r = 3) then 0 else 5
set_option maxHeartbeats 2000000 in
set_option maxRecDepth 100000 in
theorem ghistory_any (sv : Value) (S : List P3) (wd ow : Nat) (sl : Bool) (gv : Value) (G : List Nat) (k : Nat) (w : World) (hS : Stf w sv S) (hl : S.length ≤ 140737488355328) (hG : Us w gv G) (hgl : G.length ≤ 140737488355328) :
    Calls Try.prog 25 #[sv, .agg #[.int .u32 (wd : Nat), .int .u32 (ow : Nat), .bool sl, gv], .int .u32 (k : Nat)] w fun e w' => e = .returned (.int .u8 ((ansv S k fun p => gHi p k wd ow sl G : Nat) : Nat)) ∧ Fr (fun _ => False) w w' := by
  have HR := hide (fun W (hf : Fr (fun _ => False) w W) => gread_any sv S wd ow sl gv G k W (hS.fr hf) hl (hG.fr hf) hgl)
  have HF := hide (fun W (hf : Fr (fun _ => False) w W) => gfind_any sv S k W (hS.fr hf) hl)
  obtain ⟨xo, xc, rfl⟩ := hS.form
  obtain ⟨go, gc, rfl⟩ := hG.form
  clear hG
  rcases fnd_cases S k with ⟨h1, h2⟩ | ⟨j, hj, h1, h2, h3⟩
  · have HV := hide (show (ansv S k fun p => gHi p k wd ow sl G) = (ansv S k fun p => gRd p k wd ow sl G) by rw [ansv, ansv, h2])
    simp only [fndI, h1] at HF
    clear hS h1 h2
    go_enter Try.func25, Try.ntmps25
    go_wp2_with fail
    refine ((unhide HF) _ ((Fr.refl _ _).alloc _)).mono ?_
    clear HF
    rintro e w2 ⟨rfl, rfl⟩
    go_wp2_with fail
    refine ((unhide HR) _ ((Fr.refl _ _).alloc _)).mono ?_
    clear HR
    rintro e w2 ⟨rfl, hq⟩
    go_wp2_with fail
    go_ret
    exact ⟨by rw [unhide HV]; rfl, ((Fr.refl _ _).alloc _).trans hq (fun _ _ h => h)⟩
  · obtain ⟨P, hPe⟩ : ∃ P, S[j] = P := ⟨_, rfl⟩
    have hV : (ansv S k fun p => gHi p k wd ow sl G) = gHi P k wd ow sl G := by rw [ansv, h2, hPe]
    have hW : (ansv S k fun p => gRd p k wd ow sl G) = gRd P k wd ow sl G := by rw [ansv, h2, hPe]
    have HV := hide (And.intro hV hW)
    simp only [fndI, h1] at HF
    obtain ⟨g, o, rfl, c0, c1, c2⟩ := hS.at_ j hj
    rw [hPe] at c0 c1 c2 h3
    have hgl0 : g < w.heap.size := lt_of_cell c0
    clear hS h1 h2 hPe hV hW
    obtain ⟨pa, pr, pw⟩ := P
    simp only at c0 c1 c2 h3
    clear h3
    by_cases hr : pr = 4
    · subst hr
      go_enter Try.func25, Try.ntmps25
      go_wp2_with fail
      refine ((unhide HF) _ ((Fr.refl _ _).alloc _)).mono ?_
      clear HF
      rintro e w2 ⟨rfl, rfl⟩
      go_wp2_with fail
      go_ret
      exact ⟨by rw [(unhide HV).1]; rfl, (Fr.refl _ _).alloc _⟩
    · have ir : ¬ (pr : Int) = 4 := by omega
      go_enter Try.func25, Try.ntmps25
      go_wp2_with fail
      refine ((unhide HF) _ ((Fr.refl _ _).alloc _)).mono ?_
      clear HF
      rintro e w2 ⟨rfl, rfl⟩
      go_wp2_with fail
      refine ((unhide HR) _ ((Fr.refl _ _).alloc _)).mono ?_
      clear HR
      rintro e w2 ⟨rfl, hq⟩
      go_wp2_with fail
      go_ret
      exact ⟨by rw [(unhide HV).1, (unhide HV).2]; simp [gHi, hr], ((Fr.refl _ _).alloc _).trans hq (fun _ _ h => h)⟩
set_option maxHeartbeats 2000000 in
set_option maxRecDepth 100000 in
theorem gcreate_any (sv : Value) (S : List P3) (k wd ow : Nat) (w : World) (hS : Stf w sv S) (hl : S.length ≤ 140737488355328) :
    Calls Try.prog 22 #[sv, .int .u32 (k : Nat), .int .u32 (wd : Nat), .int .u32 (ow : Nat)] w fun e w' => e = .returned (.int .u8 ((ansv S k fun p => gCr S p wd ow : Nat) : Nat)) ∧ Fr (fun _ => False) w w' := by
  have HF := hide (gfind_any sv S k w hS hl)
  have HO := hide (gfind_any sv S ow w hS hl)
  obtain ⟨xo, xc, rfl⟩ := hS.form
  rcases fnd_cases S k with ⟨h1, h2⟩ | ⟨j, hj, h1, h2, h3⟩
  · have HV := hide (show (ansv S k fun p => gCr S p wd ow) = 1 by rw [ansv, h2])
    simp only [fndI, h1] at HF
    clear hS h1 h2
    go_enter Try.func22, Try.ntmps22
    go_wp2_with fail
    refine (unhide HF).mono ?_
    clear HF
    rintro e w2 ⟨rfl, rfl⟩
    go_wp2_with fail
    refine (unhide HO).mono ?_
    clear HO
    rintro e w2 ⟨rfl, rfl⟩
    go_wp2_with fail
    go_ret
    exact ⟨by rw [unhide HV]; rfl, Fr.refl _ _⟩
  · obtain ⟨P, hPe⟩ : ∃ P, S[j] = P := ⟨_, rfl⟩
    have hV : (ansv S k fun p => gCr S p wd ow) = gCr S P wd ow := by rw [ansv, h2, hPe]
    simp only [fndI, h1] at HF
    obtain ⟨g, o, rfl, c0, c1, c2⟩ := hS.at_ j hj
    rw [hPe] at c0 c1 c2 h3
    clear h1 h2 hPe
    obtain ⟨pa, pr, pw⟩ := P
    simp only at c0 c1 c2 h3
    clear h3
    rcases fnd_cases S ow with ⟨h1, h2⟩ | ⟨i, hi, h1, h2, h3⟩
    · have HV := hide (hV.trans (show gCr S ⟨pa, pr, pw⟩ wd ow = 1 by rw [gCr, h2]))
      simp only [fndI, h1] at HO
      clear hS h1 h2 hV
      go_enter Try.func22, Try.ntmps22
      go_wp2_with fail
      refine (unhide HF).mono ?_
      clear HF
      rintro e w2 ⟨rfl, rfl⟩
      go_wp2_with fail
      refine (unhide HO).mono ?_
      clear HO
      rintro e w2 ⟨rfl, rfl⟩
      go_wp2_with fail
      go_ret
      exact ⟨by rw [unhide HV]; rfl, Fr.refl _ _⟩
    · obtain ⟨O, hOe⟩ : ∃ O, S[i] = O := ⟨_, rfl⟩
      obtain ⟨g', o', e1, d0, d1, d2⟩ := hS.at_ i hi
      obtain ⟨rfl, rfl⟩ : g' = g ∧ o' = o := by simpa using e1.symm
      rw [hOe] at d0 d1 d2 h3
      have hV2 := hV.trans (show gCr S ⟨pa, pr, pw⟩ wd ow = (if O.r ≠ 5 then 1 else if pw = wd ∧ (pr = 1 ∨ pr = 2 ∨ pr = 3) then 0 else 5) by rw [gCr, h2, hOe])
      simp only [fndI, h1] at HO
      clear hS h1 h2 hV hOe e1
      obtain ⟨oa, or_, ow'⟩ := O
      simp only at d0 d1 d2 h3 hV2
      clear h3
      have HV := hide hV2
      clear hV2
      by_cases h5 : or_ = 5
      · subst h5
        by_cases hnear : pw = wd
        · subst hnear
          by_cases hr1 : pr = 1
          · subst hr1
            go_enter Try.func22, Try.ntmps22
            go_wp2_with fail
            refine (unhide HF).mono ?_
            clear HF
            rintro e w2 ⟨rfl, rfl⟩
            go_wp2_with fail
            refine (unhide HO).mono ?_
            clear HO
            rintro e w2 ⟨rfl, rfl⟩
            go_wp2_with fail
            go_ret
            exact ⟨by rw [unhide HV]; simp, (by repeat first | exact Fr.refl _ _ | refine Fr.alloc ?_ _ | refine Fr.drew ?_ | refine Fr.drewN ?_ _)⟩
          · have ir1 : ¬ (pr : Int) = 1 := by omega
            have jr1 : ((pr : Int) == 1) = false := by simpa using ir1
            by_cases hr2 : pr = 2
            · subst hr2
              go_enter Try.func22, Try.ntmps22
              go_wp2_with fail
              refine (unhide HF).mono ?_
              clear HF
              rintro e w2 ⟨rfl, rfl⟩
              go_wp2_with fail
              refine (unhide HO).mono ?_
              clear HO
              rintro e w2 ⟨rfl, rfl⟩
              go_wp2_with fail
              go_ret
              exact ⟨by rw [unhide HV]; simp, (by repeat first | exact Fr.refl _ _ | refine Fr.alloc ?_ _ | refine Fr.drew ?_ | refine Fr.drewN ?_ _)⟩
            · have ir2 : ¬ (pr : Int) = 2 := by omega
              have jr2 : ((pr : Int) == 2) = false := by simpa using ir2
              by_cases hr3 : pr = 3
              · subst hr3
                go_enter Try.func22, Try.ntmps22
                go_wp2_with fail
                refine (unhide HF).mono ?_
                clear HF
                rintro e w2 ⟨rfl, rfl⟩
                go_wp2_with fail
                refine (unhide HO).mono ?_
                clear HO
                rintro e w2 ⟨rfl, rfl⟩
                go_wp2_with fail
                go_ret
                exact ⟨by rw [unhide HV]; simp, (by repeat first | exact Fr.refl _ _ | refine Fr.alloc ?_ _ | refine Fr.drew ?_ | refine Fr.drewN ?_ _)⟩
              · have ir3 : ¬ (pr : Int) = 3 := by omega
                have jr3 : ((pr : Int) == 3) = false := by simpa using ir3
                go_enter Try.func22, Try.ntmps22
                go_wp2_with fail
                refine (unhide HF).mono ?_
                clear HF
                rintro e w2 ⟨rfl, rfl⟩
                go_wp2_with fail
                refine (unhide HO).mono ?_
                clear HO
                rintro e w2 ⟨rfl, rfl⟩
                go_wp2_with fail
                go_ret
                exact ⟨by rw [unhide HV]; simp [hr1, hr2, hr3], (by repeat first | exact Fr.refl _ _ | refine Fr.alloc ?_ _ | refine Fr.drew ?_ | refine Fr.drewN ?_ _)⟩
        · have ib : ((pw : Int) == (wd : Int)) = false := by rw [beq_cast]; simp [hnear]
          go_enter Try.func22, Try.ntmps22
          go_wp2_with fail
          refine (unhide HF).mono ?_
          clear HF
          rintro e w2 ⟨rfl, rfl⟩
          go_wp2_with fail
          refine (unhide HO).mono ?_
          clear HO
          rintro e w2 ⟨rfl, rfl⟩
          go_wp2_with fail
          go_ret
          exact ⟨by rw [unhide HV]; simp [hnear], (by repeat first | exact Fr.refl _ _ | refine Fr.alloc ?_ _ | refine Fr.drew ?_ | refine Fr.drewN ?_ _)⟩
      · have i5 : ¬ (or_ : Int) = 5 := by omega
        have j5 : ((or_ : Int) == 5) = false := by simpa using i5
        have k5 : ((or_ : Int) != 5) = true := by simpa using i5
        go_enter Try.func22, Try.ntmps22
        go_wp2_with fail
        refine (unhide HF).mono ?_
        clear HF
        rintro e w2 ⟨rfl, rfl⟩
        go_wp2_with fail
        refine (unhide HO).mono ?_
        clear HO
        rintro e w2 ⟨rfl, rfl⟩
        go_wp2_with fail
        go_ret
        exact ⟨by rw [unhide HV]; simp [h5], Fr.refl _ _⟩
end Go.Proofs.Ytficeloegepdkaa
