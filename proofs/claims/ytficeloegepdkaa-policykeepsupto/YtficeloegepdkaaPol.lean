import Derived.Test.YtficeloegepdkaaPok
namespace Go.Proofs.Ytficeloegepdkaa
open Go.RowKit

def gRd (p : P3) (k wd ow : Nat) (sl : Bool) (G : List Nat) : Nat := if k = ow ∨ (p.r = 3 ∧ p.w = wd) then 0 else if (p.r = 2 ∨ p.r = 1) ∧ p.w = wd ∧ sl = false then 0 else if (p.r = 3 ∨ p.r = 2) ∧ k ∈ G then 0 else if (p.r = 2 ∨ p.r = 1) ∧ p.w = wd then 6 else 5
def gRe (p : P3) (k wd ow : Nat) : Nat := if k = ow ∨ (p.r = 3 ∧ p.w = wd) then 0 else 5
def gSe (_p : P3) (k ow : Nat) : Nat := if k = ow then 0 else 5
def gBr (p : P3) (rs : ByteArray) : Nat := if (p.r = 3 ∨ p.r = 2) ∧ rs.toList.isEmpty = false then 0 else 5
set_option maxHeartbeats 2000000 in
set_option maxRecDepth 100000 in
theorem gread_any (sv : Value) (S : List P3) (wd ow : Nat) (sl : Bool) (gv : Value) (G : List Nat) (k : Nat) (w : World) (hS : Stf w sv S) (hl : S.length ≤ 140737488355328) (hG : Us w gv G) (hgl : G.length ≤ 140737488355328) :
    Calls Try.prog 24 #[sv, .agg #[.int .u32 (wd : Nat), .int .u32 (ow : Nat), .bool sl, gv], .int .u32 (k : Nat)] w fun e w' => e = .returned (.int .u8 ((ansv S k fun p => gRd p k wd ow sl G : Nat) : Nat)) ∧ Fr (fun _ => False) w w' := by
  have HG := hide (fun W (hf : Fr (fun _ => False) w W) => ggranted_any (.int .u32 (wd : Nat)) (.int .u32 (ow : Nat)) (.bool sl) gv G k W (hG.fr hf) hgl)
  have HF := hide (fun W (hf : Fr (fun _ => False) w W) => gfind_any sv S k W (hS.fr hf) hl)
  obtain ⟨xo, xc, rfl⟩ := hS.form
  obtain ⟨go, gc, rfl⟩ := hG.form
  clear hG
  rcases fnd_cases S k with ⟨h1, h2⟩ | ⟨j, hj, h1, h2, h3⟩
  · have HV := hide (show (ansv S k fun p => gRd p k wd ow sl G) = 1 by rw [ansv, h2])
    simp only [fndI, h1] at HF
    clear hS h1 h2
    go_enter Try.func24, Try.ntmps24
    go_wp2_with fail
    refine ((unhide HF) _ ((Fr.refl _ _).alloc _)).mono ?_
    clear HF
    rintro e w2 ⟨rfl, rfl⟩
    go_wp2_with fail
    go_ret
    exact ⟨by rw [unhide HV]; rfl, (Fr.refl _ _).alloc _⟩
  · obtain ⟨P, hPe⟩ : ∃ P, S[j] = P := ⟨_, rfl⟩
    have HV := hide (show (ansv S k fun p => gRd p k wd ow sl G) = (fun p : P3 => gRd p k wd ow sl G) P by rw [ansv, h2, hPe])
    simp only [fndI, h1] at HF
    obtain ⟨g, o, rfl, c0, c1, c2⟩ := hS.at_ j hj
    rw [hPe] at c0 c1 c2 h3
    have hgl0 : g < w.heap.size := lt_of_cell c0
    clear hS h1 h2 hPe
    obtain ⟨pa, pr, pw⟩ := P
    simp only at c0 c1 c2 h3
    rw [h3] at c0
    clear h3
    go_enter Try.func24, Try.ntmps24
    go_wp2_with fail
    refine ((unhide HF) _ ((Fr.refl _ _).alloc _)).mono ?_
    clear HF
    rintro e w2 ⟨rfl, rfl⟩
    go_wp2_with fail
    go_quiet (fail)
    by_cases hown : k = ow
    · subst hown
      go_wp2_with fail
      go_ret
      exact ⟨by rw [unhide HV]; simp [gRd], (by repeat first | exact Fr.refl _ _ | refine Fr.alloc ?_ _ | refine Fr.drew ?_ | refine Fr.drewN ?_ _)⟩
    · by_cases hr3 : pr = 3
      · subst hr3
        by_cases hnear : pw = wd
        · subst hnear
          go_wp2_with fail
          go_ret
          exact ⟨by rw [unhide HV]; simp [gRd, hown], (by repeat first | exact Fr.refl _ _ | refine Fr.alloc ?_ _ | refine Fr.drew ?_ | refine Fr.drewN ?_ _)⟩
        · have ib : ((pw : Int) == (wd : Int)) = false := by rw [beq_cast]; simp [hnear]
          by_cases hg : k ∈ G
          · have hD : decide (k ∈ G) = true := by simp [hg]
            rw [hD] at HG
            clear hD
            go_wp2_with fail
            refine Calls.mono (unhide HG _ ?_) ?_
            · repeat first | exact Fr.refl _ _ | refine Fr.alloc ?_ _ | refine Fr.drew ?_ | refine Fr.drewN ?_ _
            clear HG
            rintro e wq ⟨rfl, hq⟩
            go_wp2_with fail
            go_ret
            exact ⟨by rw [unhide HV]; simp [gRd, hnear, hown, hg], (Fr.trans (by repeat first | exact Fr.refl _ _ | refine Fr.alloc ?_ _ | refine Fr.drew ?_ | refine Fr.drewN ?_ _) hq (fun _ _ h => h))⟩
          · have hD : decide (k ∈ G) = false := by simp [hg]
            rw [hD] at HG
            clear hD
            go_wp2_with fail
            refine Calls.mono (unhide HG _ ?_) ?_
            · repeat first | exact Fr.refl _ _ | refine Fr.alloc ?_ _ | refine Fr.drew ?_ | refine Fr.drewN ?_ _
            clear HG
            rintro e wq ⟨rfl, hq⟩
            go_wp2_with fail
            go_ret
            exact ⟨by rw [unhide HV]; simp [gRd, hnear, hown, hg], (Fr.trans (by repeat first | exact Fr.refl _ _ | refine Fr.alloc ?_ _ | refine Fr.drew ?_ | refine Fr.drewN ?_ _) hq (fun _ _ h => h))⟩
      · have ir3 : ¬ (pr : Int) = 3 := by omega
        by_cases hr2 : pr = 2
        · subst hr2
          by_cases hnear : pw = wd
          · subst hnear
            rcases sl with _ | _
            · go_wp2_with fail
              go_ret
              exact ⟨by rw [unhide HV]; simp [gRd, hown], (by repeat first | exact Fr.refl _ _ | refine Fr.alloc ?_ _ | refine Fr.drew ?_ | refine Fr.drewN ?_ _)⟩
            · by_cases hg : k ∈ G
              · have hD : decide (k ∈ G) = true := by simp [hg]
                rw [hD] at HG
                clear hD
                go_wp2_with fail
                refine Calls.mono (unhide HG _ ?_) ?_
                · repeat first | exact Fr.refl _ _ | refine Fr.alloc ?_ _ | refine Fr.drew ?_ | refine Fr.drewN ?_ _
                clear HG
                rintro e wq ⟨rfl, hq⟩
                go_wp2_with fail
                go_ret
                exact ⟨by rw [unhide HV]; simp [gRd, hown, hg], (Fr.trans (by repeat first | exact Fr.refl _ _ | refine Fr.alloc ?_ _ | refine Fr.drew ?_ | refine Fr.drewN ?_ _) hq (fun _ _ h => h))⟩
              · have hD : decide (k ∈ G) = false := by simp [hg]
                rw [hD] at HG
                clear hD
                go_wp2_with fail
                refine Calls.mono (unhide HG _ ?_) ?_
                · repeat first | exact Fr.refl _ _ | refine Fr.alloc ?_ _ | refine Fr.drew ?_ | refine Fr.drewN ?_ _
                clear HG
                rintro e wq ⟨rfl, hq⟩
                go_wp2_with fail
                go_ret
                exact ⟨by rw [unhide HV]; simp [gRd, hown, hg], (Fr.trans (by repeat first | exact Fr.refl _ _ | refine Fr.alloc ?_ _ | refine Fr.drew ?_ | refine Fr.drewN ?_ _) hq (fun _ _ h => h))⟩
          · have ib : ((pw : Int) == (wd : Int)) = false := by rw [beq_cast]; simp [hnear]
            by_cases hg : k ∈ G
            · have hD : decide (k ∈ G) = true := by simp [hg]
              rw [hD] at HG
              clear hD
              go_wp2_with fail
              refine Calls.mono (unhide HG _ ?_) ?_
              · repeat first | exact Fr.refl _ _ | refine Fr.alloc ?_ _ | refine Fr.drew ?_ | refine Fr.drewN ?_ _
              clear HG
              rintro e wq ⟨rfl, hq⟩
              go_wp2_with fail
              go_ret
              exact ⟨by rw [unhide HV]; simp [gRd, hnear, hown, hg], (Fr.trans (by repeat first | exact Fr.refl _ _ | refine Fr.alloc ?_ _ | refine Fr.drew ?_ | refine Fr.drewN ?_ _) hq (fun _ _ h => h))⟩
            · have hD : decide (k ∈ G) = false := by simp [hg]
              rw [hD] at HG
              clear hD
              go_wp2_with fail
              refine Calls.mono (unhide HG _ ?_) ?_
              · repeat first | exact Fr.refl _ _ | refine Fr.alloc ?_ _ | refine Fr.drew ?_ | refine Fr.drewN ?_ _
              clear HG
              rintro e wq ⟨rfl, hq⟩
              go_wp2_with fail
              go_ret
              exact ⟨by rw [unhide HV]; simp [gRd, hnear, hown, hg], (Fr.trans (by repeat first | exact Fr.refl _ _ | refine Fr.alloc ?_ _ | refine Fr.drew ?_ | refine Fr.drewN ?_ _) hq (fun _ _ h => h))⟩
        · have ir2 : ¬ (pr : Int) = 2 := by omega
          by_cases hr1 : pr = 1
          · subst hr1
            by_cases hnear : pw = wd
            · subst hnear
              rcases sl with _ | _
              · go_wp2_with fail
                go_ret
                exact ⟨by rw [unhide HV]; simp [gRd, hown], (by repeat first | exact Fr.refl _ _ | refine Fr.alloc ?_ _ | refine Fr.drew ?_ | refine Fr.drewN ?_ _)⟩
              · go_wp2_with fail
                go_ret
                exact ⟨by rw [unhide HV]; simp [gRd, hown], (by repeat first | exact Fr.refl _ _ | refine Fr.alloc ?_ _ | refine Fr.drew ?_ | refine Fr.drewN ?_ _)⟩
            · have ib : ((pw : Int) == (wd : Int)) = false := by rw [beq_cast]; simp [hnear]
              go_wp2_with fail
              go_ret
              exact ⟨by rw [unhide HV]; simp [gRd, hnear, hown], (by repeat first | exact Fr.refl _ _ | refine Fr.alloc ?_ _ | refine Fr.drew ?_ | refine Fr.drewN ?_ _)⟩
          · have ir1 : ¬ (pr : Int) = 1 := by omega
            go_wp2_with fail
            go_ret
            exact ⟨by rw [unhide HV]; simp [gRd, hr3, hr2, hr1, hown], (by repeat first | exact Fr.refl _ _ | refine Fr.alloc ?_ _ | refine Fr.drew ?_ | refine Fr.drewN ?_ _)⟩
set_option maxHeartbeats 2000000 in
set_option maxRecDepth 100000 in
theorem gredact_any (sv : Value) (S : List P3) (wd ow : Nat) (sl : Bool) (gv : Value) (k : Nat) (w : World) (hS : Stf w sv S) (hl : S.length ≤ 140737488355328) :
    Calls Try.prog 26 #[sv, .agg #[.int .u32 (wd : Nat), .int .u32 (ow : Nat), .bool sl, gv], .int .u32 (k : Nat)] w fun e w' => e = .returned (.int .u8 ((ansv S k fun p => gRe p k wd ow : Nat) : Nat)) ∧ Fr (fun _ => False) w w' := by
  have HF := hide (fun W (hf : Fr (fun _ => False) w W) => gfind_any sv S k W (hS.fr hf) hl)
  obtain ⟨xo, xc, rfl⟩ := hS.form
  rcases fnd_cases S k with ⟨h1, h2⟩ | ⟨j, hj, h1, h2, h3⟩
  · have HV := hide (show (ansv S k fun p => gRe p k wd ow) = 1 by rw [ansv, h2])
    simp only [fndI, h1] at HF
    clear hS h1 h2
    go_enter Try.func26, Try.ntmps26
    go_wp2_with fail
    refine ((unhide HF) _ ((Fr.refl _ _).alloc _)).mono ?_
    clear HF
    rintro e w2 ⟨rfl, rfl⟩
    go_wp2_with fail
    go_ret
    exact ⟨by rw [unhide HV]; rfl, (Fr.refl _ _).alloc _⟩
  · obtain ⟨P, hPe⟩ : ∃ P, S[j] = P := ⟨_, rfl⟩
    have HV := hide (show (ansv S k fun p => gRe p k wd ow) = (fun p : P3 => gRe p k wd ow) P by rw [ansv, h2, hPe])
    simp only [fndI, h1] at HF
    obtain ⟨g, o, rfl, c0, c1, c2⟩ := hS.at_ j hj
    rw [hPe] at c0 c1 c2 h3
    have hgl0 : g < w.heap.size := lt_of_cell c0
    clear hS h1 h2 hPe
    obtain ⟨pa, pr, pw⟩ := P
    simp only at c0 c1 c2 h3
    rw [h3] at c0
    clear h3
    go_enter Try.func26, Try.ntmps26
    go_wp2_with fail
    refine ((unhide HF) _ ((Fr.refl _ _).alloc _)).mono ?_
    clear HF
    rintro e w2 ⟨rfl, rfl⟩
    by_cases hown : k = ow
    · subst hown
      go_wp2_with fail
      go_quiet (fail)
      go_wp2_with fail
      go_ret
      exact ⟨by rw [unhide HV]; simp [gRe], (by repeat first | exact Fr.refl _ _ | refine Fr.alloc ?_ _ | refine Fr.drew ?_ | refine Fr.drewN ?_ _)⟩
    · have io : ((k : Int) == (ow : Int)) = false := by rw [beq_cast]; simp [hown]
      by_cases hr3 : pr = 3
      · subst hr3
        by_cases hnear : pw = wd
        · subst hnear
          go_wp2_with fail
          go_quiet (fail)
          go_wp2_with fail
          go_ret
          exact ⟨by rw [unhide HV]; simp [gRe, hown], (by repeat first | exact Fr.refl _ _ | refine Fr.alloc ?_ _ | refine Fr.drew ?_ | refine Fr.drewN ?_ _)⟩
        · have ib : ((pw : Int) == (wd : Int)) = false := by rw [beq_cast]; simp [hnear]
          go_wp2_with fail
          go_quiet (fail)
          go_wp2_with fail
          go_ret
          exact ⟨by rw [unhide HV]; simp [gRe, hnear, hown], (by repeat first | exact Fr.refl _ _ | refine Fr.alloc ?_ _ | refine Fr.drew ?_ | refine Fr.drewN ?_ _)⟩
      · have ir3 : ((pr : Int) == (3 : Int)) = false := by have := beq_cast pr 3; simp only [hr3, decide_false] at this; exact this
        go_wp2_with fail
        go_quiet (fail)
        go_wp2_with fail
        go_ret
        exact ⟨by rw [unhide HV]; simp [gRe, hr3, hown], (by repeat first | exact Fr.refl _ _ | refine Fr.alloc ?_ _ | refine Fr.drew ?_ | refine Fr.drewN ?_ _)⟩
set_option maxHeartbeats 2000000 in
set_option maxRecDepth 100000 in
theorem gseal_any (sv : Value) (S : List P3) (wd ow : Nat) (sl : Bool) (gv : Value) (k : Nat) (w : World) (hS : Stf w sv S) (hl : S.length ≤ 140737488355328) :
    Calls Try.prog 27 #[sv, .agg #[.int .u32 (wd : Nat), .int .u32 (ow : Nat), .bool sl, gv], .int .u32 (k : Nat)] w fun e w' => e = .returned (.int .u8 ((ansv S k fun p => gSe p k ow : Nat) : Nat)) ∧ Fr (fun _ => False) w w' := by
  have HF := hide (fun W (hf : Fr (fun _ => False) w W) => gfind_any sv S k W (hS.fr hf) hl)
  obtain ⟨xo, xc, rfl⟩ := hS.form
  rcases fnd_cases S k with ⟨h1, h2⟩ | ⟨j, hj, h1, h2, h3⟩
  · have HV := hide (show (ansv S k fun p => gSe p k ow) = 1 by rw [ansv, h2])
    simp only [fndI, h1] at HF
    clear hS h1 h2
    go_enter Try.func27, Try.ntmps27
    go_wp2_with fail
    refine ((unhide HF) _ ((Fr.refl _ _).alloc _)).mono ?_
    clear HF
    rintro e w2 ⟨rfl, rfl⟩
    go_wp2_with fail
    go_ret
    exact ⟨by rw [unhide HV]; rfl, (Fr.refl _ _).alloc _⟩
  · obtain ⟨P, hPe⟩ : ∃ P, S[j] = P := ⟨_, rfl⟩
    have HV := hide (show (ansv S k fun p => gSe p k ow) = (fun p : P3 => gSe p k ow) P by rw [ansv, h2, hPe])
    simp only [fndI, h1] at HF
    obtain ⟨g, o, rfl, c0, c1, c2⟩ := hS.at_ j hj
    rw [hPe] at c0 c1 c2 h3
    have hgl0 : g < w.heap.size := lt_of_cell c0
    clear hS h1 h2 hPe
    obtain ⟨pa, pr, pw⟩ := P
    simp only at c0 c1 c2 h3
    rw [h3] at c0
    clear h3
    go_enter Try.func27, Try.ntmps27
    go_wp2_with fail
    refine ((unhide HF) _ ((Fr.refl _ _).alloc _)).mono ?_
    clear HF
    rintro e w2 ⟨rfl, rfl⟩
    by_cases hown : k = ow
    · subst hown
      go_wp2_with fail
      go_ret
      exact ⟨by rw [unhide HV]; simp [gSe], (by repeat first | exact Fr.refl _ _ | refine Fr.alloc ?_ _ | refine Fr.drew ?_ | refine Fr.drewN ?_ _)⟩
    · go_wp2_with fail
      go_ret
      exact ⟨by rw [unhide HV]; simp [gSe, hown], (by repeat first | exact Fr.refl _ _ | refine Fr.alloc ?_ _ | refine Fr.drew ?_ | refine Fr.drewN ?_ _)⟩
set_option maxHeartbeats 2000000 in
set_option maxRecDepth 100000 in
theorem gbreak_any (sv : Value) (S : List P3) (wd ow : Nat) (sl : Bool) (gv : Value) (k : Nat) (rs : ByteArray) (w : World) (hS : Stf w sv S) (hl : S.length ≤ 140737488355328) :
    Calls Try.prog 28 #[sv, .agg #[.int .u32 (wd : Nat), .int .u32 (ow : Nat), .bool sl, gv], .int .u32 (k : Nat), .string rs] w fun e w' => e = .returned (.int .u8 ((ansv S k fun p => gBr p rs : Nat) : Nat)) ∧ Fr (fun _ => False) w w' := by
  have HF := hide (fun W (hf : Fr (fun _ => False) w W) => gfind_any sv S k W (hS.fr hf) hl)
  obtain ⟨xo, xc, rfl⟩ := hS.form
  rcases fnd_cases S k with ⟨h1, h2⟩ | ⟨j, hj, h1, h2, h3⟩
  · have HV := hide (show (ansv S k fun p => gBr p rs) = 1 by rw [ansv, h2])
    simp only [fndI, h1] at HF
    clear hS h1 h2
    go_enter Try.func28, Try.ntmps28
    go_wp2_with fail
    refine ((unhide HF) _ ((Fr.refl _ _).alloc _)).mono ?_
    clear HF
    rintro e w2 ⟨rfl, rfl⟩
    go_wp2_with fail
    go_ret
    exact ⟨by rw [unhide HV]; rfl, (Fr.refl _ _).alloc _⟩
  · obtain ⟨P, hPe⟩ : ∃ P, S[j] = P := ⟨_, rfl⟩
    have HV := hide (show (ansv S k fun p => gBr p rs) = (fun p : P3 => gBr p rs) P by rw [ansv, h2, hPe])
    simp only [fndI, h1] at HF
    obtain ⟨g, o, rfl, c0, c1, c2⟩ := hS.at_ j hj
    rw [hPe] at c0 c1 c2 h3
    have hgl0 : g < w.heap.size := lt_of_cell c0
    clear hS h1 h2 hPe
    obtain ⟨pa, pr, pw⟩ := P
    simp only at c0 c1 c2 h3
    rw [h3] at c0
    clear h3
    go_enter Try.func28, Try.ntmps28
    go_wp2_with fail
    refine ((unhide HF) _ ((Fr.refl _ _).alloc _)).mono ?_
    clear HF
    rintro e w2 ⟨rfl, rfl⟩
    by_cases hr3 : pr = 3
    · subst hr3
      rcases hz : rs.toList.isEmpty with _ | _
      · go_wp2_with fail
        go_ret
        exact ⟨by rw [unhide HV]; simp [gBr, hz], (by repeat first | exact Fr.refl _ _ | refine Fr.alloc ?_ _ | refine Fr.drew ?_ | refine Fr.drewN ?_ _)⟩
      · go_wp2_with fail
        go_ret
        exact ⟨by rw [unhide HV]; simp [gBr, hz], (by repeat first | exact Fr.refl _ _ | refine Fr.alloc ?_ _ | refine Fr.drew ?_ | refine Fr.drewN ?_ _)⟩
    · have ir3 : ¬ (pr : Int) = 3 := by omega
      by_cases hr2 : pr = 2
      · subst hr2
        rcases hz : rs.toList.isEmpty with _ | _
        · go_wp2_with fail
          go_ret
          exact ⟨by rw [unhide HV]; simp [gBr, hz], (by repeat first | exact Fr.refl _ _ | refine Fr.alloc ?_ _ | refine Fr.drew ?_ | refine Fr.drewN ?_ _)⟩
        · go_wp2_with fail
          go_ret
          exact ⟨by rw [unhide HV]; simp [gBr, hz], (by repeat first | exact Fr.refl _ _ | refine Fr.alloc ?_ _ | refine Fr.drew ?_ | refine Fr.drewN ?_ _)⟩
      · have ir2 : ¬ (pr : Int) = 2 := by omega
        go_wp2_with fail
        go_ret
        exact ⟨by rw [unhide HV]; simp [gBr, hr3, hr2], (by repeat first | exact Fr.refl _ _ | refine Fr.alloc ?_ _ | refine Fr.drew ?_ | refine Fr.drewN ?_ _)⟩
end Go.Proofs.Ytficeloegepdkaa
