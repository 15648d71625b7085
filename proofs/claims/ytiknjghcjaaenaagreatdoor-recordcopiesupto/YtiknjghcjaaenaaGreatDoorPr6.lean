import Derived.Test.YtiknjghcjaaenaaGreatDoorPr5
import Derived.Test.YtiknjghcjaaenaaGreatDoorPr2
import Derived.Test.YtiknjghcjaaenaaGreatDoorKOab
import Derived.Test.YtiknjghcjaaenaaGreatDoorPr4
import Derived.Test.YtiknjghcjaaenaaGreatDoorPr1
namespace Go.Proofs.YtiknjghcjaaenaaGreatDoor
open Go.RowKit
def gRd (p : P3) (k wd ow : Nat) (sl : Bool) (G : List Nat) : Nat := if k = ow ∨ (p.r = 3 ∧ p.w = wd) then 0 else if (p.r = 2 ∨ p.r = 1) ∧ p.w = wd ∧ sl = false then 0 else if (p.r = 3 ∨ p.r = 2) ∧ k ∈ G then 0 else if (p.r = 2 ∨ p.r = 1) ∧ p.w = wd then 6 else 5
def gRe (p : P3) (k wd ow : Nat) : Nat := if k = ow ∨ (p.r = 3 ∧ p.w = wd) then 0 else 5
def gSe (_p : P3) (k ow : Nat) : Nat := if k = ow then 0 else 5
def gBr (p : P3) (rs : ByteArray) : Nat := if (p.r = 3 ∨ p.r = 2) ∧ rs.toList.isEmpty = false then 0 else 5
set_option maxHeartbeats 2000000 in
set_option maxRecDepth 100000 in
theorem gread_any (sv : Value) (S : List P3) (wd ow : Nat) (sl : Bool) (gv : Value) (G : List Nat) (k : Nat) (w : World) (hS : Stf w sv S) (hl : S.length ≤ 140737488355328) (hG : Us w gv G) (hgl : G.length ≤ 140737488355328) :
  Calls Tryz.prog 43 #[sv, .agg #[.int .u32 (wd : Nat), .int .u32 (ow : Nat), .bool sl, gv], .int .u32 (k : Nat)] w fun e w' => e = .returned (.int .u8 ((ansv S k fun p => gRd p k wd ow sl G : Nat) : Nat)) ∧ Fr (fun _ => False) w w' := by
 have HG := hide (fun W (hf : Fr (fun _ => False) w W) => ggranted_any (.int .u32 (wd : Nat)) (.int .u32 (ow : Nat)) (.bool sl) gv G k W (hG.fr hf) hgl)
 have HF := hide (fun W (hf : Fr (fun _ => False) w W) => gfind_any sv S k W (hS.fr hf) hl)
 obtain ⟨xo, xc, rfl⟩ := hS.form
 obtain ⟨go, gc, rfl⟩ := hG.form
 clear hG
 rcases fnd_cases S k with ⟨h1, h2⟩ | ⟨j, hj, h1, h2, h3⟩
 ·have HV := hide (show (ansv S k fun p => gRd p k wd ow sl G) = 1 by rw [ansv, h2])
  simp only [fndI, h1] at HF
  clear hS h1 h2
  go_enter Tryz.func43, Tryz.ntmps43
  go_wp2_with fail
  refine ((unhide HF) _ ((Fr.refl _ _).alloc _)).mono ?_
  clear HF
  rintro e w2 ⟨rfl, rfl⟩
  go_wp2_with fail
  go_ret
  exact ⟨by rw [unhide HV]; rfl, (Fr.refl _ _).alloc _⟩
 ·obtain ⟨P, hPe⟩ : ∃ P, S[j] = P := ⟨_, rfl⟩
  have HV := hide (show (ansv S k fun p => gRd p k wd ow sl G) = (fun p : P3 => gRd p k wd ow sl G) P by rw [ansv, h2, hPe])
  simp only [fndI, h1] at HF
  obtain ⟨g, o, rfl, c0, c1, c2⟩ := hS.at_ j hj
  rw [hPe] at c0 c1 c2 h3
  have hgl0 : g < w.heap.size := lt_of_cell c0
  clear hS h1 h2 hPe
  obtain ⟨pa, pr, pw⟩ := P
  simp only at c0 c1 c2 h3
  rw [h3] at c0
  clear h3
  go_enter Tryz.func43, Tryz.ntmps43
  go_wp2_with fail
  refine ((unhide HF) _ ((Fr.refl _ _).alloc _)).mono ?_
  clear HF
  rintro e w2 ⟨rfl, rfl⟩
  go_wp2_with fail
  go_quiet (fail)
  by_cases hown : k = ow
  ·subst hown
   go_wp2_with fail
   go_ret
   exact ⟨by rw [unhide HV]; simp [gRd], (by repeat first | exact Fr.refl _ _ | refine Fr.alloc ?_ _ | refine Fr.drew ?_ | refine Fr.drewN ?_ _)⟩
  ·by_cases hr3 : pr = 3
   ·subst hr3
    by_cases hnear : pw = wd
    ·subst hnear
     go_wp2_with fail
     go_ret
     exact ⟨by rw [unhide HV]; simp [gRd, hown], (by repeat first | exact Fr.refl _ _ | refine Fr.alloc ?_ _ | refine Fr.drew ?_ | refine Fr.drewN ?_ _)⟩
    ·have ib : ((pw : Int) == (wd : Int)) = false := by rw [beq_cast]; simp [hnear]
     by_cases hg : k ∈ G
     ·have hD : decide (k ∈ G) = true := by simp [hg]
      rw [hD] at HG
      clear hD
      go_wp2_with fail
      refine Calls.mono (unhide HG _ ?_) ?_
      ·repeat first | exact Fr.refl _ _ | refine Fr.alloc ?_ _ | refine Fr.drew ?_ | refine Fr.drewN ?_ _
      clear HG
      rintro e wq ⟨rfl, hq⟩
      go_wp2_with fail
      go_ret
      exact ⟨by rw [unhide HV]; simp [gRd, hnear, hown, hg], (Fr.trans (by repeat first | exact Fr.refl _ _ | refine Fr.alloc ?_ _ | refine Fr.drew ?_ | refine Fr.drewN ?_ _) hq (fun _ _ h => h))⟩
     ·have hD : decide (k ∈ G) = false := by simp [hg]
      rw [hD] at HG
      clear hD
      go_wp2_with fail
      refine Calls.mono (unhide HG _ ?_) ?_
      ·repeat first | exact Fr.refl _ _ | refine Fr.alloc ?_ _ | refine Fr.drew ?_ | refine Fr.drewN ?_ _
      clear HG
      rintro e wq ⟨rfl, hq⟩
      go_wp2_with fail
      go_ret
      exact ⟨by rw [unhide HV]; simp [gRd, hnear, hown, hg], (Fr.trans (by repeat first | exact Fr.refl _ _ | refine Fr.alloc ?_ _ | refine Fr.drew ?_ | refine Fr.drewN ?_ _) hq (fun _ _ h => h))⟩
   ·have ir3 : ¬ (pr : Int) = 3 := by omega
    by_cases hr2 : pr = 2
    ·subst hr2
     by_cases hnear : pw = wd
     ·subst hnear
      rcases sl with _ | _
      ·go_wp2_with fail
       go_ret
       exact ⟨by rw [unhide HV]; simp [gRd, hown], (by repeat first | exact Fr.refl _ _ | refine Fr.alloc ?_ _ | refine Fr.drew ?_ | refine Fr.drewN ?_ _)⟩
      ·by_cases hg : k ∈ G
       ·have hD : decide (k ∈ G) = true := by simp [hg]
        rw [hD] at HG
        clear hD
        go_wp2_with fail
        refine Calls.mono (unhide HG _ ?_) ?_
        ·repeat first | exact Fr.refl _ _ | refine Fr.alloc ?_ _ | refine Fr.drew ?_ | refine Fr.drewN ?_ _
        clear HG
        rintro e wq ⟨rfl, hq⟩
        go_wp2_with fail
        go_ret
        exact ⟨by rw [unhide HV]; simp [gRd, hown, hg], (Fr.trans (by repeat first | exact Fr.refl _ _ | refine Fr.alloc ?_ _ | refine Fr.drew ?_ | refine Fr.drewN ?_ _) hq (fun _ _ h => h))⟩
       ·have hD : decide (k ∈ G) = false := by simp [hg]
        rw [hD] at HG
        clear hD
        go_wp2_with fail
        refine Calls.mono (unhide HG _ ?_) ?_
        ·repeat first | exact Fr.refl _ _ | refine Fr.alloc ?_ _ | refine Fr.drew ?_ | refine Fr.drewN ?_ _
        clear HG
        rintro e wq ⟨rfl, hq⟩
        go_wp2_with fail
        go_ret
        exact ⟨by rw [unhide HV]; simp [gRd, hown, hg], (Fr.trans (by repeat first | exact Fr.refl _ _ | refine Fr.alloc ?_ _ | refine Fr.drew ?_ | refine Fr.drewN ?_ _) hq (fun _ _ h => h))⟩
     ·have ib : ((pw : Int) == (wd : Int)) = false := by rw [beq_cast]; simp [hnear]
      by_cases hg : k ∈ G
      ·have hD : decide (k ∈ G) = true := by simp [hg]
       rw [hD] at HG
       clear hD
       go_wp2_with fail
       refine Calls.mono (unhide HG _ ?_) ?_
       ·repeat first | exact Fr.refl _ _ | refine Fr.alloc ?_ _ | refine Fr.drew ?_ | refine Fr.drewN ?_ _
       clear HG
       rintro e wq ⟨rfl, hq⟩
       go_wp2_with fail
       go_ret
       exact ⟨by rw [unhide HV]; simp [gRd, hnear, hown, hg], (Fr.trans (by repeat first | exact Fr.refl _ _ | refine Fr.alloc ?_ _ | refine Fr.drew ?_ | refine Fr.drewN ?_ _) hq (fun _ _ h => h))⟩
      ·have hD : decide (k ∈ G) = false := by simp [hg]
       rw [hD] at HG
       clear hD
       go_wp2_with fail
       refine Calls.mono (unhide HG _ ?_) ?_
       ·repeat first | exact Fr.refl _ _ | refine Fr.alloc ?_ _ | refine Fr.drew ?_ | refine Fr.drewN ?_ _
       clear HG
       rintro e wq ⟨rfl, hq⟩
       go_wp2_with fail
       go_ret
       exact ⟨by rw [unhide HV]; simp [gRd, hnear, hown, hg], (Fr.trans (by repeat first | exact Fr.refl _ _ | refine Fr.alloc ?_ _ | refine Fr.drew ?_ | refine Fr.drewN ?_ _) hq (fun _ _ h => h))⟩
    ·have ir2 : ¬ (pr : Int) = 2 := by omega
     by_cases hr1 : pr = 1
     ·subst hr1
      by_cases hnear : pw = wd
      ·subst hnear
       rcases sl with _ | _
       ·go_wp2_with fail
        go_ret
        exact ⟨by rw [unhide HV]; simp [gRd, hown], (by repeat first | exact Fr.refl _ _ | refine Fr.alloc ?_ _ | refine Fr.drew ?_ | refine Fr.drewN ?_ _)⟩
       ·go_wp2_with fail
        go_ret
        exact ⟨by rw [unhide HV]; simp [gRd, hown], (by repeat first | exact Fr.refl _ _ | refine Fr.alloc ?_ _ | refine Fr.drew ?_ | refine Fr.drewN ?_ _)⟩
      ·have ib : ((pw : Int) == (wd : Int)) = false := by rw [beq_cast]; simp [hnear]
       go_wp2_with fail
       go_ret
       exact ⟨by rw [unhide HV]; simp [gRd, hnear, hown], (by repeat first | exact Fr.refl _ _ | refine Fr.alloc ?_ _ | refine Fr.drew ?_ | refine Fr.drewN ?_ _)⟩
     ·have ir1 : ¬ (pr : Int) = 1 := by omega
      go_wp2_with fail
      go_ret
      exact ⟨by rw [unhide HV]; simp [gRd, hr3, hr2, hr1, hown], (by repeat first | exact Fr.refl _ _ | refine Fr.alloc ?_ _ | refine Fr.drew ?_ | refine Fr.drewN ?_ _)⟩
set_option maxHeartbeats 2000000 in
set_option maxRecDepth 100000 in
theorem gredact_any (sv : Value) (S : List P3) (wd ow : Nat) (sl : Bool) (gv : Value) (k : Nat) (w : World) (hS : Stf w sv S) (hl : S.length ≤ 140737488355328) :
  Calls Tryz.prog 44 #[sv, .agg #[.int .u32 (wd : Nat), .int .u32 (ow : Nat), .bool sl, gv], .int .u32 (k : Nat)] w fun e w' => e = .returned (.int .u8 ((ansv S k fun p => gRe p k wd ow : Nat) : Nat)) ∧ Fr (fun _ => False) w w' := by
 have HF := hide (fun W (hf : Fr (fun _ => False) w W) => gfind_any sv S k W (hS.fr hf) hl)
 obtain ⟨xo, xc, rfl⟩ := hS.form
 rcases fnd_cases S k with ⟨h1, h2⟩ | ⟨j, hj, h1, h2, h3⟩
 ·have HV := hide (show (ansv S k fun p => gRe p k wd ow) = 1 by rw [ansv, h2])
  simp only [fndI, h1] at HF
  clear hS h1 h2
  go_enter Tryz.func44, Tryz.ntmps44
  go_wp2_with fail
  refine ((unhide HF) _ ((Fr.refl _ _).alloc _)).mono ?_
  clear HF
  rintro e w2 ⟨rfl, rfl⟩
  go_wp2_with fail
  go_ret
  exact ⟨by rw [unhide HV]; rfl, (Fr.refl _ _).alloc _⟩
 ·obtain ⟨P, hPe⟩ : ∃ P, S[j] = P := ⟨_, rfl⟩
  have HV := hide (show (ansv S k fun p => gRe p k wd ow) = (fun p : P3 => gRe p k wd ow) P by rw [ansv, h2, hPe])
  simp only [fndI, h1] at HF
  obtain ⟨g, o, rfl, c0, c1, c2⟩ := hS.at_ j hj
  rw [hPe] at c0 c1 c2 h3
  have hgl0 : g < w.heap.size := lt_of_cell c0
  clear hS h1 h2 hPe
  obtain ⟨pa, pr, pw⟩ := P
  simp only at c0 c1 c2 h3
  rw [h3] at c0
  clear h3
  go_enter Tryz.func44, Tryz.ntmps44
  go_wp2_with fail
  refine ((unhide HF) _ ((Fr.refl _ _).alloc _)).mono ?_
  clear HF
  rintro e w2 ⟨rfl, rfl⟩
  by_cases hown : k = ow
  ·subst hown
   go_wp2_with fail
   go_quiet (fail)
   go_wp2_with fail
   go_ret
   exact ⟨by rw [unhide HV]; simp [gRe], (by repeat first | exact Fr.refl _ _ | refine Fr.alloc ?_ _ | refine Fr.drew ?_ | refine Fr.drewN ?_ _)⟩
  ·have io : ((k : Int) == (ow : Int)) = false := by rw [beq_cast]; simp [hown]
   by_cases hr3 : pr = 3
   ·subst hr3
    by_cases hnear : pw = wd
    ·subst hnear
     go_wp2_with fail
     go_quiet (fail)
     go_wp2_with fail
     go_ret
     exact ⟨by rw [unhide HV]; simp [gRe, hown], (by repeat first | exact Fr.refl _ _ | refine Fr.alloc ?_ _ | refine Fr.drew ?_ | refine Fr.drewN ?_ _)⟩
    ·have ib : ((pw : Int) == (wd : Int)) = false := by rw [beq_cast]; simp [hnear]
     go_wp2_with fail
     go_quiet (fail)
     go_wp2_with fail
     go_ret
     exact ⟨by rw [unhide HV]; simp [gRe, hnear, hown], (by repeat first | exact Fr.refl _ _ | refine Fr.alloc ?_ _ | refine Fr.drew ?_ | refine Fr.drewN ?_ _)⟩
   ·have ir3 : ((pr : Int) == (3 : Int)) = false := by have := beq_cast pr 3; simp only [hr3, decide_false] at this; exact this
    go_wp2_with fail
    go_quiet (fail)
    go_wp2_with fail
    go_ret
    exact ⟨by rw [unhide HV]; simp [gRe, hr3, hown], (by repeat first | exact Fr.refl _ _ | refine Fr.alloc ?_ _ | refine Fr.drew ?_ | refine Fr.drewN ?_ _)⟩
set_option maxHeartbeats 2000000 in
set_option maxRecDepth 100000 in
theorem gseal_any (sv : Value) (S : List P3) (wd ow : Nat) (sl : Bool) (gv : Value) (k : Nat) (w : World) (hS : Stf w sv S) (hl : S.length ≤ 140737488355328) :
  Calls Tryz.prog 46 #[sv, .agg #[.int .u32 (wd : Nat), .int .u32 (ow : Nat), .bool sl, gv], .int .u32 (k : Nat)] w fun e w' => e = .returned (.int .u8 ((ansv S k fun p => gSe p k ow : Nat) : Nat)) ∧ Fr (fun _ => False) w w' := by
 have HF := hide (fun W (hf : Fr (fun _ => False) w W) => gfind_any sv S k W (hS.fr hf) hl)
 obtain ⟨xo, xc, rfl⟩ := hS.form
 rcases fnd_cases S k with ⟨h1, h2⟩ | ⟨j, hj, h1, h2, h3⟩
 ·have HV := hide (show (ansv S k fun p => gSe p k ow) = 1 by rw [ansv, h2])
  simp only [fndI, h1] at HF
  clear hS h1 h2
  go_enter Tryz.func46, Tryz.ntmps46
  go_wp2_with fail
  refine ((unhide HF) _ ((Fr.refl _ _).alloc _)).mono ?_
  clear HF
  rintro e w2 ⟨rfl, rfl⟩
  go_wp2_with fail
  go_ret
  exact ⟨by rw [unhide HV]; rfl, (Fr.refl _ _).alloc _⟩
 ·obtain ⟨P, hPe⟩ : ∃ P, S[j] = P := ⟨_, rfl⟩
  have HV := hide (show (ansv S k fun p => gSe p k ow) = (fun p : P3 => gSe p k ow) P by rw [ansv, h2, hPe])
  simp only [fndI, h1] at HF
  obtain ⟨g, o, rfl, c0, c1, c2⟩ := hS.at_ j hj
  rw [hPe] at c0 c1 c2 h3
  have hgl0 : g < w.heap.size := lt_of_cell c0
  clear hS h1 h2 hPe
  obtain ⟨pa, pr, pw⟩ := P
  simp only at c0 c1 c2 h3
  rw [h3] at c0
  clear h3
  go_enter Tryz.func46, Tryz.ntmps46
  go_wp2_with fail
  refine ((unhide HF) _ ((Fr.refl _ _).alloc _)).mono ?_
  clear HF
  rintro e w2 ⟨rfl, rfl⟩
  by_cases hown : k = ow
  ·subst hown
   go_wp2_with fail
   go_ret
   exact ⟨by rw [unhide HV]; simp [gSe], (by repeat first | exact Fr.refl _ _ | refine Fr.alloc ?_ _ | refine Fr.drew ?_ | refine Fr.drewN ?_ _)⟩
  ·go_wp2_with fail
   go_ret
   exact ⟨by rw [unhide HV]; simp [gSe, hown], (by repeat first | exact Fr.refl _ _ | refine Fr.alloc ?_ _ | refine Fr.drew ?_ | refine Fr.drewN ?_ _)⟩
set_option maxHeartbeats 2000000 in
set_option maxRecDepth 100000 in
theorem gbreak_any (sv : Value) (S : List P3) (wd ow : Nat) (sl : Bool) (gv : Value) (k : Nat) (rs : ByteArray) (w : World) (hS : Stf w sv S) (hl : S.length ≤ 140737488355328) :
  Calls Tryz.prog 47 #[sv, .agg #[.int .u32 (wd : Nat), .int .u32 (ow : Nat), .bool sl, gv], .int .u32 (k : Nat), .string rs] w fun e w' => e = .returned (.int .u8 ((ansv S k fun p => gBr p rs : Nat) : Nat)) ∧ Fr (fun _ => False) w w' := by
 have HF := hide (fun W (hf : Fr (fun _ => False) w W) => gfind_any sv S k W (hS.fr hf) hl)
 obtain ⟨xo, xc, rfl⟩ := hS.form
 rcases fnd_cases S k with ⟨h1, h2⟩ | ⟨j, hj, h1, h2, h3⟩
 ·have HV := hide (show (ansv S k fun p => gBr p rs) = 1 by rw [ansv, h2])
  simp only [fndI, h1] at HF
  clear hS h1 h2
  go_enter Tryz.func47, Tryz.ntmps47
  go_wp2_with fail
  refine ((unhide HF) _ ((Fr.refl _ _).alloc _)).mono ?_
  clear HF
  rintro e w2 ⟨rfl, rfl⟩
  go_wp2_with fail
  go_ret
  exact ⟨by rw [unhide HV]; rfl, (Fr.refl _ _).alloc _⟩
 ·obtain ⟨P, hPe⟩ : ∃ P, S[j] = P := ⟨_, rfl⟩
  have HV := hide (show (ansv S k fun p => gBr p rs) = (fun p : P3 => gBr p rs) P by rw [ansv, h2, hPe])
  simp only [fndI, h1] at HF
  obtain ⟨g, o, rfl, c0, c1, c2⟩ := hS.at_ j hj
  rw [hPe] at c0 c1 c2 h3
  have hgl0 : g < w.heap.size := lt_of_cell c0
  clear hS h1 h2 hPe
  obtain ⟨pa, pr, pw⟩ := P
  simp only at c0 c1 c2 h3
  rw [h3] at c0
  clear h3
  go_enter Tryz.func47, Tryz.ntmps47
  go_wp2_with fail
  refine ((unhide HF) _ ((Fr.refl _ _).alloc _)).mono ?_
  clear HF
  rintro e w2 ⟨rfl, rfl⟩
  by_cases hr3 : pr = 3
  ·subst hr3
   rcases hz : rs.toList.isEmpty with _ | _
   ·go_wp2_with fail
    go_ret
    exact ⟨by rw [unhide HV]; simp [gBr, hz], (by repeat first | exact Fr.refl _ _ | refine Fr.alloc ?_ _ | refine Fr.drew ?_ | refine Fr.drewN ?_ _)⟩
   ·go_wp2_with fail
    go_ret
    exact ⟨by rw [unhide HV]; simp [gBr, hz], (by repeat first | exact Fr.refl _ _ | refine Fr.alloc ?_ _ | refine Fr.drew ?_ | refine Fr.drewN ?_ _)⟩
  ·have ir3 : ¬ (pr : Int) = 3 := by omega
   by_cases hr2 : pr = 2
   ·subst hr2
    rcases hz : rs.toList.isEmpty with _ | _
    ·go_wp2_with fail
     go_ret
     exact ⟨by rw [unhide HV]; simp [gBr, hz], (by repeat first | exact Fr.refl _ _ | refine Fr.alloc ?_ _ | refine Fr.drew ?_ | refine Fr.drewN ?_ _)⟩
    ·go_wp2_with fail
     go_ret
     exact ⟨by rw [unhide HV]; simp [gBr, hz], (by repeat first | exact Fr.refl _ _ | refine Fr.alloc ?_ _ | refine Fr.drew ?_ | refine Fr.drewN ?_ _)⟩
   ·have ir2 : ¬ (pr : Int) = 2 := by omega
    go_wp2_with fail
    go_ret
    exact ⟨by rw [unhide HV]; simp [gBr, hr3, hr2], (by repeat first | exact Fr.refl _ _ | refine Fr.alloc ?_ _ | refine Fr.drew ?_ | refine Fr.drewN ?_ _)⟩
def gHi (p : P3) (k wd ow : Nat) (sl : Bool) (G : List Nat) : Nat := if p.r = 4 then 0 else gRd p k wd ow sl G
def gAm (p : P3) (k wd ow : Nat) (sl : Bool) (G : List Nat) (F : List F5) : Nat := if gRd p k wd ow sl G ≠ 0 then gRd p k wd ow sl G else if p.r = 2 ∨ p.r = 3 then 0 else if p.r ≠ 1 then 5 else if txts F then 0 else 5
def gCr (S : List P3) (p : P3) (wd ow : Nat) : Nat := match perso S ow with
 | none => 1
 | some o => if o.r ≠ 5 then 1 else if p.w = wd ∧ (p.r = 1 ∨ p.r = 2 ∨ p.r = 3) then 0 else 5
set_option maxHeartbeats 2000000 in
set_option maxRecDepth 100000 in
theorem ghistory_any (sv : Value) (S : List P3) (wd ow : Nat) (sl : Bool) (gv : Value) (G : List Nat) (k : Nat) (w : World) (hS : Stf w sv S) (hl : S.length ≤ 140737488355328) (hG : Us w gv G) (hgl : G.length ≤ 140737488355328) :
  Calls Tryz.prog 45 #[sv, .agg #[.int .u32 (wd : Nat), .int .u32 (ow : Nat), .bool sl, gv], .int .u32 (k : Nat)] w fun e w' => e = .returned (.int .u8 ((ansv S k fun p => gHi p k wd ow sl G : Nat) : Nat)) ∧ Fr (fun _ => False) w w' := by
 have HR := hide (fun W (hf : Fr (fun _ => False) w W) => gread_any sv S wd ow sl gv G k W (hS.fr hf) hl (hG.fr hf) hgl)
 have HF := hide (fun W (hf : Fr (fun _ => False) w W) => gfind_any sv S k W (hS.fr hf) hl)
 obtain ⟨xo, xc, rfl⟩ := hS.form
 obtain ⟨go, gc, rfl⟩ := hG.form
 clear hG
 rcases fnd_cases S k with ⟨h1, h2⟩ | ⟨j, hj, h1, h2, h3⟩
 ·have HV := hide (show (ansv S k fun p => gHi p k wd ow sl G) = (ansv S k fun p => gRd p k wd ow sl G) by rw [ansv, ansv, h2])
  simp only [fndI, h1] at HF
  clear hS h1 h2
  go_enter Tryz.func45, Tryz.ntmps45
  go_wp2_with fail
  refine ((unhide HF) _ ((Fr.refl _ _).alloc _)).mono ?_
  clear HF
  rintro e w2 ⟨rfl, rfl⟩
  go_wp2_with fail
  refine ((unhide HR) _ ((Fr.refl _ _).alloc _)).mono ?_
  clear HR
  rintro e w2 ⟨rfl, hq⟩
  go_wp2_with fail
  go_ret
  exact ⟨by rw [unhide HV]; rfl, ((Fr.refl _ _).alloc _).trans hq (fun _ _ h => h)⟩
 ·obtain ⟨P, hPe⟩ : ∃ P, S[j] = P := ⟨_, rfl⟩
  have hV : (ansv S k fun p => gHi p k wd ow sl G) = gHi P k wd ow sl G := by rw [ansv, h2, hPe]
  have hW : (ansv S k fun p => gRd p k wd ow sl G) = gRd P k wd ow sl G := by rw [ansv, h2, hPe]
  have HV := hide (And.intro hV hW)
  simp only [fndI, h1] at HF
  obtain ⟨g, o, rfl, c0, c1, c2⟩ := hS.at_ j hj
  rw [hPe] at c0 c1 c2 h3
  have hgl0 : g < w.heap.size := lt_of_cell c0
  clear hS h1 h2 hPe hV hW
  obtain ⟨pa, pr, pw⟩ := P
  simp only at c0 c1 c2 h3
  clear h3
  by_cases hr : pr = 4
  ·subst hr
   go_enter Tryz.func45, Tryz.ntmps45
   go_wp2_with fail
   refine ((unhide HF) _ ((Fr.refl _ _).alloc _)).mono ?_
   clear HF
   rintro e w2 ⟨rfl, rfl⟩
   go_wp2_with fail
   go_ret
   exact ⟨by rw [(unhide HV).1]; rfl, (Fr.refl _ _).alloc _⟩
  ·have ir : ¬ (pr : Int) = 4 := by omega
   go_enter Tryz.func45, Tryz.ntmps45
   go_wp2_with fail
   refine ((unhide HF) _ ((Fr.refl _ _).alloc _)).mono ?_
   clear HF
   rintro e w2 ⟨rfl, rfl⟩
   go_wp2_with fail
   refine ((unhide HR) _ ((Fr.refl _ _).alloc _)).mono ?_
   clear HR
   rintro e w2 ⟨rfl, hq⟩
   go_wp2_with fail
   go_ret
   exact ⟨by rw [(unhide HV).1, (unhide HV).2]; simp [gHi, hr], ((Fr.refl _ _).alloc _).trans hq (fun _ _ h => h)⟩
set_option maxHeartbeats 2000000 in
set_option maxRecDepth 100000 in
theorem gcreate_any (sv : Value) (S : List P3) (k wd ow : Nat) (w : World) (hS : Stf w sv S) (hl : S.length ≤ 140737488355328) :
  Calls Tryz.prog 41 #[sv, .int .u32 (k : Nat), .int .u32 (wd : Nat), .int .u32 (ow : Nat)] w fun e w' => e = .returned (.int .u8 ((ansv S k fun p => gCr S p wd ow : Nat) : Nat)) ∧ Fr (fun _ => False) w w' := by
 have HF := hide (gfind_any sv S k w hS hl)
 have HO := hide (gfind_any sv S ow w hS hl)
 obtain ⟨xo, xc, rfl⟩ := hS.form
 rcases fnd_cases S k with ⟨h1, h2⟩ | ⟨j, hj, h1, h2, h3⟩
 ·have HV := hide (show (ansv S k fun p => gCr S p wd ow) = 1 by rw [ansv, h2])
  simp only [fndI, h1] at HF
  clear hS h1 h2
  go_enter Tryz.func41, Tryz.ntmps41
  go_wp2_with fail
  refine (unhide HF).mono ?_
  clear HF
  rintro e w2 ⟨rfl, rfl⟩
  go_wp2_with fail
  refine (unhide HO).mono ?_
  clear HO
  rintro e w2 ⟨rfl, rfl⟩
  go_wp2_with fail
  go_ret
  exact ⟨by rw [unhide HV]; rfl, Fr.refl _ _⟩
 ·obtain ⟨P, hPe⟩ : ∃ P, S[j] = P := ⟨_, rfl⟩
  have hV : (ansv S k fun p => gCr S p wd ow) = gCr S P wd ow := by rw [ansv, h2, hPe]
  simp only [fndI, h1] at HF
  obtain ⟨g, o, rfl, c0, c1, c2⟩ := hS.at_ j hj
  rw [hPe] at c0 c1 c2 h3
  clear h1 h2 hPe
  obtain ⟨pa, pr, pw⟩ := P
  simp only at c0 c1 c2 h3
  clear h3
  rcases fnd_cases S ow with ⟨h1, h2⟩ | ⟨i, hi, h1, h2, h3⟩
  ·have HV := hide (hV.trans (show gCr S ⟨pa, pr, pw⟩ wd ow = 1 by rw [gCr, h2]))
   simp only [fndI, h1] at HO
   clear hS h1 h2 hV
   go_enter Tryz.func41, Tryz.ntmps41
   go_wp2_with fail
   refine (unhide HF).mono ?_
   clear HF
   rintro e w2 ⟨rfl, rfl⟩
   go_wp2_with fail
   refine (unhide HO).mono ?_
   clear HO
   rintro e w2 ⟨rfl, rfl⟩
   go_wp2_with fail
   go_ret
   exact ⟨by rw [unhide HV]; rfl, Fr.refl _ _⟩
  ·obtain ⟨O, hOe⟩ : ∃ O, S[i] = O := ⟨_, rfl⟩
   obtain ⟨g', o', e1, d0, d1, d2⟩ := hS.at_ i hi
   obtain ⟨rfl, rfl⟩ : g' = g ∧ o' = o := by simpa using e1.symm
   rw [hOe] at d0 d1 d2 h3
   have hV2 := hV.trans (show gCr S ⟨pa, pr, pw⟩ wd ow = (if O.r ≠ 5 then 1 else if pw = wd ∧ (pr = 1 ∨ pr = 2 ∨ pr = 3) then 0 else 5) by rw [gCr, h2, hOe])
   simp only [fndI, h1] at HO
   clear hS h1 h2 hV hOe e1
   obtain ⟨oa, or_, ow'⟩ := O
   simp only at d0 d1 d2 h3 hV2
   clear h3
   have HV := hide hV2
   clear hV2
   by_cases h5 : or_ = 5
   ·subst h5
    by_cases hnear : pw = wd
    ·subst hnear
     by_cases hr1 : pr = 1
     ·subst hr1
      go_enter Tryz.func41, Tryz.ntmps41
      go_wp2_with fail
      refine (unhide HF).mono ?_
      clear HF
      rintro e w2 ⟨rfl, rfl⟩
      go_wp2_with fail
      refine (unhide HO).mono ?_
      clear HO
      rintro e w2 ⟨rfl, rfl⟩
      go_wp2_with fail
      go_ret
      exact ⟨by rw [unhide HV]; simp, (by repeat first | exact Fr.refl _ _ | refine Fr.alloc ?_ _ | refine Fr.drew ?_ | refine Fr.drewN ?_ _)⟩
     ·have ir1 : ¬ (pr : Int) = 1 := by omega
      have jr1 : ((pr : Int) == 1) = false := by simpa using ir1
      by_cases hr2 : pr = 2
      ·subst hr2
       go_enter Tryz.func41, Tryz.ntmps41
       go_wp2_with fail
       refine (unhide HF).mono ?_
       clear HF
       rintro e w2 ⟨rfl, rfl⟩
       go_wp2_with fail
       refine (unhide HO).mono ?_
       clear HO
       rintro e w2 ⟨rfl, rfl⟩
       go_wp2_with fail
       go_ret
       exact ⟨by rw [unhide HV]; simp, (by repeat first | exact Fr.refl _ _ | refine Fr.alloc ?_ _ | refine Fr.drew ?_ | refine Fr.drewN ?_ _)⟩
      ·have ir2 : ¬ (pr : Int) = 2 := by omega
       have jr2 : ((pr : Int) == 2) = false := by simpa using ir2
       by_cases hr3 : pr = 3
       ·subst hr3
        go_enter Tryz.func41, Tryz.ntmps41
        go_wp2_with fail
        refine (unhide HF).mono ?_
        clear HF
        rintro e w2 ⟨rfl, rfl⟩
        go_wp2_with fail
        refine (unhide HO).mono ?_
        clear HO
        rintro e w2 ⟨rfl, rfl⟩
        go_wp2_with fail
        go_ret
        exact ⟨by rw [unhide HV]; simp, (by repeat first | exact Fr.refl _ _ | refine Fr.alloc ?_ _ | refine Fr.drew ?_ | refine Fr.drewN ?_ _)⟩
       ·have ir3 : ¬ (pr : Int) = 3 := by omega
        have jr3 : ((pr : Int) == 3) = false := by simpa using ir3
        go_enter Tryz.func41, Tryz.ntmps41
        go_wp2_with fail
        refine (unhide HF).mono ?_
        clear HF
        rintro e w2 ⟨rfl, rfl⟩
        go_wp2_with fail
        refine (unhide HO).mono ?_
        clear HO
        rintro e w2 ⟨rfl, rfl⟩
        go_wp2_with fail
        go_ret
        exact ⟨by rw [unhide HV]; simp [hr1, hr2, hr3], (by repeat first | exact Fr.refl _ _ | refine Fr.alloc ?_ _ | refine Fr.drew ?_ | refine Fr.drewN ?_ _)⟩
    ·have ib : ((pw : Int) == (wd : Int)) = false := by rw [beq_cast]; simp [hnear]
     go_enter Tryz.func41, Tryz.ntmps41
     go_wp2_with fail
     refine (unhide HF).mono ?_
     clear HF
     rintro e w2 ⟨rfl, rfl⟩
     go_wp2_with fail
     refine (unhide HO).mono ?_
     clear HO
     rintro e w2 ⟨rfl, rfl⟩
     go_wp2_with fail
     go_ret
     exact ⟨by rw [unhide HV]; simp [hnear], (by repeat first | exact Fr.refl _ _ | refine Fr.alloc ?_ _ | refine Fr.drew ?_ | refine Fr.drewN ?_ _)⟩
   ·have i5 : ¬ (or_ : Int) = 5 := by omega
    have j5 : ((or_ : Int) == 5) = false := by simpa using i5
    have k5 : ((or_ : Int) != 5) = true := by simpa using i5
    go_enter Tryz.func41, Tryz.ntmps41
    go_wp2_with fail
    refine (unhide HF).mono ?_
    clear HF
    rintro e w2 ⟨rfl, rfl⟩
    go_wp2_with fail
    refine (unhide HO).mono ?_
    clear HO
    rintro e w2 ⟨rfl, rfl⟩
    go_wp2_with fail
    go_ret
    exact ⟨by rw [unhide HV]; simp [h5], Fr.refl _ _⟩
set_option maxHeartbeats 2000000 in
set_option maxRecDepth 100000 in
theorem gamend_any (sv : Value) (S : List P3) (wd ow : Nat) (sl : Bool) (gv : Value) (G : List Nat) (k : Nat) (fv : Value) (F : List F5) (w : World) (hS : Stf w sv S) (hl : S.length ≤ 140737488355328) (hG : Us w gv G) (hgl : G.length ≤ 140737488355328) (hF : Fds w fv F) (hfl : F.length ≤ 140737488355328) :
  Calls Tryz.prog 42 #[sv, .agg #[.int .u32 (wd : Nat), .int .u32 (ow : Nat), .bool sl, gv], .int .u32 (k : Nat), fv] w fun e w' => e = .returned (.int .u8 ((ansv S k fun p => gAm p k wd ow sl G F : Nat) : Nat)) ∧ Fr (fun _ => False) w w' := by
 have HR := hide (fun W (hf : Fr (fun _ => False) w W) => gread_any sv S wd ow sl gv G k W (hS.fr hf) hl (hG.fr hf) hgl)
 have HF := hide (fun W (hf : Fr (fun _ => False) w W) => gfind_any sv S k W (hS.fr hf) hl)
 have HS := hide hS
 have HFd := hide hF
 obtain ⟨xo, xc, rfl⟩ := hS.form
 obtain ⟨go, gc, rfl⟩ := hG.form
 obtain ⟨fo, fc, rfl⟩ := hF.form
 clear hG hF
 rcases fnd_cases S k with ⟨h1, h2⟩ | ⟨j, hj, h1, h2, h3⟩
 ·have hV : (ansv S k fun p => gAm p k wd ow sl G F) = 1 := by rw [ansv, h2]
  have hW : (ansv S k fun p => gRd p k wd ow sl G) = 1 := by rw [ansv, h2]
  have HV := hide hV
  rw [hW] at HR
  clear hS h1 h2 hV hW
  go_enter Tryz.func42, Tryz.ntmps42
  go_wp2_with fail
  refine ((unhide HR) _ ((Fr.refl _ _).alloc _)).mono ?_
  clear HR
  rintro e w2 ⟨rfl, hq⟩
  go_wp2_with fail
  go_ret
  exact ⟨by rw [unhide HV]; rfl, ((Fr.refl _ _).alloc _).trans hq (fun _ _ h => h)⟩
 ·obtain ⟨P, hPe⟩ : ∃ P, S[j] = P := ⟨_, rfl⟩
  have hV : (ansv S k fun p => gAm p k wd ow sl G F) = gAm P k wd ow sl G F := by rw [ansv, h2, hPe]
  have hW : (ansv S k fun p => gRd p k wd ow sl G) = gRd P k wd ow sl G := by rw [ansv, h2, hPe]
  rw [hW] at HR
  simp only [fndI, h1] at HF
  have HPe := hide hPe
  clear hS h1 h2 h3 hPe hW
  obtain ⟨c, hc⟩ : ∃ c, gRd P k wd ow sl G = c := ⟨_, rfl⟩
  rw [gAm, hc] at hV
  rw [hc] at HR
  clear hc
  by_cases hz : c = 0
  ·subst hz
   simp only [ne_eq, not_true_eq_false, if_false] at hV
   have HV := hide hV
   clear hV
   go_enter Tryz.func42, Tryz.ntmps42
   go_wp2_with fail
   refine ((unhide HR) _ ((Fr.refl _ _).alloc _)).mono ?_
   clear HR
   rintro e w2 ⟨rfl, hq⟩
   have hfr : Fr (fun _ => False) w w2 := ((Fr.refl _ _).alloc _).trans hq (fun _ _ h => h)
   have HQ := hide hfr
   obtain ⟨g, o, rfl, c0, c1, c2⟩ := ((unhide HS).fr hfr).at_ j hj
   rw [unhide HPe] at c0 c1 c2
   clear hq hfr
   obtain ⟨pa, pr, pw⟩ := P
   simp only at c0 c1 c2
   go_wp2_with fail
   refine ((unhide HF) _ (unhide HQ)).mono ?_
   clear HF
   rintro e w3 ⟨rfl, rfl⟩
   by_cases hr2 : pr = 2
   ·subst hr2
    go_wp2_with fail
    go_ret
    exact ⟨by rw [unhide HV]; simp, (by repeat first | exact unhide HQ | refine Fr.alloc ?_ _ | refine Fr.drew ?_ | refine Fr.drewN ?_ _)⟩
   ·have ir2 : ¬ (pr : Int) = 2 := by omega
    have jr2 : ((pr : Int) == 2) = false := by simpa using ir2
    by_cases hr3 : pr = 3
    ·subst hr3
     go_wp2_with fail
     go_ret
     exact ⟨by rw [unhide HV]; simp, (by repeat first | exact unhide HQ | refine Fr.alloc ?_ _ | refine Fr.drew ?_ | refine Fr.drewN ?_ _)⟩
    ·have ir3 : ¬ (pr : Int) = 3 := by omega
     have jr3 : ((pr : Int) == 3) = false := by simpa using ir3
     by_cases hr1 : pr = 1
     ·subst hr1
      have HX1 := hide ((unhide HFd).fr (unhide HQ))
      go_wp2_with fail
      go_loopw [11] (fun iv wr => ∃ i : Nat, i ≤ F.length ∧ iv = .int .i64 (i : Nat) ∧ (∀ n (hn : n < F.length), n < i → F[n].k = 1) ∧ wr = w3) (fun iv _ => F.length - (intOf iv).toNat)
      case atStart => exact ⟨0, Nat.zero_le _, rfl, fun i _ h => by omega, rfl⟩
      case round =>
       obtain ⟨i, hi, rfl, hno, rfl⟩ := hrel
       have HN := hide hno
       clear hno
       by_cases hlt : i < F.length
       ·obtain ⟨fg, fo, rfl, d0, d1, d2, d3, d4⟩ := (unhide HX1).at_ i hlt
        clear d0 d2 d3 d4
        obtain ⟨fk, hfk⟩ : ∃ fk, F[i].k = fk := ⟨_, rfl⟩
        rw [hfk] at d1
        have HK := hide hfk
        clear hfk
        by_cases hk : fk = 1
        ·subst hk
         go_wp2_with fail
         go_roundw
         case rel =>
          refine ⟨i + 1, hlt, rfl, fun n hn h => ?_, trivial⟩
          rcases Nat.lt_or_ge n i with h1 | h1
          ·exact (unhide HN) n hn h1
          ·obtain rfl : n = i := by omega
           exact unhide HK
         case measure => simp [intOf]; omega
        ·have HT := hide (show txts F = false by
          rw [txts, List.all_eq_false]
          exact ⟨F[i], List.getElem_mem hlt, by rw [unhide HK]; simpa using hk⟩)
         have ik : ¬ (fk : Int) = 1 := by omega
         go_wp2_with fail
         go_ret
         exact ⟨by rw [unhide HV, unhide HT]; simp, (by repeat first | exact unhide HQ | refine Fr.alloc ?_ _ | refine Fr.drew ?_ | refine Fr.drewN ?_ _)⟩
       ·have HT := hide (show txts F = true by
         rw [txts, List.all_eq_true]
         intro x hx
         obtain ⟨n, hn, rfl⟩ := List.mem_iff_getElem.1 hx
         simpa using (unhide HN) n hn (by omega))
        go_wp2_with fail
        go_ret
        exact ⟨by rw [unhide HV, unhide HT]; simp, (by repeat first | exact unhide HQ | refine Fr.alloc ?_ _ | refine Fr.drew ?_ | refine Fr.drewN ?_ _)⟩
     ·have ir1 : ¬ (pr : Int) = 1 := by omega
      have jr1 : ((pr : Int) == 1) = false := by simpa using ir1
      go_wp2_with fail
      go_ret
      exact ⟨by rw [unhide HV]; simp [hr1, hr2, hr3], (by repeat first | exact unhide HQ | refine Fr.alloc ?_ _ | refine Fr.drew ?_ | refine Fr.drewN ?_ _)⟩
  ·simp only [ne_eq, hz, not_false_eq_true, if_true] at hV
   have HV := hide hV
   have iz : ¬ (c : Int) = 0 := by omega
   clear hV
   go_enter Tryz.func42, Tryz.ntmps42
   go_wp2_with fail
   refine ((unhide HR) _ ((Fr.refl _ _).alloc _)).mono ?_
   clear HR
   rintro e w2 ⟨rfl, hq⟩
   go_wp2_with fail
   go_ret
   exact ⟨by rw [unhide HV]; rfl, ((Fr.refl _ _).alloc _).trans hq (fun _ _ h => h)⟩
end Go.Proofs.YtiknjghcjaaenaaGreatDoor
namespace Go.Proofs.YtiknjghcjaaenaaGreatDoor
open Go.RowKit Go.Shelf
theorem ansv_congr {S : List P3} {k : Nat} {f g : P3 → Nat} (h : ∀ p : P3, p.a = k → f p = g p) : ansv S k f = ansv S k g := by
 rcases fnd_cases S k with ⟨_, h2⟩ | ⟨j, hj, _, h2, h3⟩
 ·simp only [ansv, h2]
 ·simp only [ansv, h2]
  exact h _ h3
theorem eq_read (sv gv fv : Value) (rs : ByteArray) (p : P3) (k wd ow : Nat) (sl : Bool) (G : List Nat) (hp : p.a = k) : (if rdF (⟨sv, p, wd, ow, sl, gv, fv, rs⟩ : QM) G then 0 else whyRd (⟨sv, p, wd, ow, sl, gv, fv, rs⟩ : QM)) = gRd p k wd ow sl G := by
 subst hp
 unfold rdF whyRd gRd QM.own QM.near QM.role
 by_cases h1 : p.a = ow <;> by_cases h2 : p.w = wd <;> by_cases h3 : p.r = 3 <;> by_cases h4 : p.r = 2 <;> by_cases h5 : p.r = 1 <;> cases sl <;> by_cases h6 : p.a ∈ G <;> simp_all
theorem eq_hist (sv gv fv : Value) (rs : ByteArray) (p : P3) (k wd ow : Nat) (sl : Bool) (G : List Nat) (hp : p.a = k) : (if hiF (⟨sv, p, wd, ow, sl, gv, fv, rs⟩ : QM) G then 0 else whyRd (⟨sv, p, wd, ow, sl, gv, fv, rs⟩ : QM)) = gHi p k wd ow sl G := by
 have e := eq_read sv gv fv rs p k wd ow sl G hp
 unfold hiF gHi
 rw [← e]
 by_cases h4 : p.r = 4
 ·simp [QM.role, h4]
 ·simp [QM.role, h4]
theorem eq_amend (sv gv fv : Value) (rs : ByteArray) (p : P3) (k wd ow : Nat) (sl : Bool) (G : List Nat) (F : List F5) (hp : p.a = k) : (if amF (⟨sv, p, wd, ow, sl, gv, fv, rs⟩ : QM) G F then 0 else whyAm (⟨sv, p, wd, ow, sl, gv, fv, rs⟩ : QM) G) = gAm p k wd ow sl G F := by
 have e := eq_read sv gv fv rs p k wd ow sl G hp
 have hw : whyRd (⟨sv, p, wd, ow, sl, gv, fv, rs⟩ : QM) ≠ 0 := by unfold whyRd; split <;> decide
 unfold amF whyAm gAm
 rw [← e]
 cases hr : rdF (⟨sv, p, wd, ow, sl, gv, fv, rs⟩ : QM) G
 ·simp [hw]
 ·by_cases h3 : p.r = 3 <;> by_cases h4 : p.r = 2 <;> by_cases h5 : p.r = 1 <;> cases txts F <;> simp_all [QM.role]
theorem eq_redact (sv gv fv : Value) (rs : ByteArray) (p : P3) (k wd ow : Nat) (sl : Bool) (hp : p.a = k) : (if reF (⟨sv, p, wd, ow, sl, gv, fv, rs⟩ : QM) then 0 else 5) = gRe p k wd ow := by
 subst hp
 unfold reF gRe QM.own QM.near QM.role
 by_cases h1 : p.a = ow <;> by_cases h2 : p.w = wd <;> by_cases h3 : p.r = 3 <;> simp_all
theorem eq_seal (sv gv fv : Value) (rs : ByteArray) (p : P3) (k wd ow : Nat) (sl : Bool) (hp : p.a = k) : (if seF (⟨sv, p, wd, ow, sl, gv, fv, rs⟩ : QM) then 0 else 5) = gSe p k ow := by
 subst hp
 unfold seF gSe QM.own
 by_cases h1 : p.a = ow <;> simp_all
theorem eq_break (sv gv fv : Value) (rs : ByteArray) (p : P3) (wd ow : Nat) (sl : Bool) : (if brF (⟨sv, p, wd, ow, sl, gv, fv, rs⟩ : QM) then 0 else 5) = gBr p rs := by
 unfold brF gBr QM.role
 cases rs.toList.isEmpty <;> by_cases h3 : p.r = 3 <;> by_cases h4 : p.r = 2 <;> simp_all
theorem eq_create (sv gv fv : Value) (rs : ByteArray) (S : List P3) (p : P3) (wd ow : Nat) (sl : Bool) : (if crF (⟨sv, p, wd, ow, sl, gv, fv, rs⟩ : QM) S then 0 else whyCr (⟨sv, p, wd, ow, sl, gv, fv, rs⟩ : QM) S) = gCr S p wd ow := by
 unfold crF whyCr gCr QM.near QM.role ownP
 rcases perso S ow with _ | o
 ·simp
 ·by_cases h5 : o.r = 5 <;> by_cases h2 : p.w = wd <;> by_cases h3 : p.r = 3 <;> by_cases h4 : p.r = 2 <;> by_cases h6 : p.r = 1 <;> simp_all
theorem rd_code (S : List P3) (k : Nat) (c : CM) : rdCode S k c = ansv S k fun p => gRd p k c.wa c.ow c.sl c.G := ansv_congr fun p hp => eq_read _ _ _ _ p k _ _ _ _ hp
theorem hi_code (S : List P3) (k : Nat) (c : CM) : hiCode S k c = ansv S k fun p => gHi p k c.wa c.ow c.sl c.G := ansv_congr fun p hp => eq_hist _ _ _ _ p k _ _ _ _ hp
theorem am_code (S : List P3) (k : Nat) (c : CM) (F : List F5) : amCode S k c F = ansv S k fun p => gAm p k c.wa c.ow c.sl c.G F := ansv_congr fun p hp => eq_amend _ _ _ _ p k _ _ _ _ F hp
theorem re_code (S : List P3) (k : Nat) (c : CM) : reCode S k c = ansv S k fun p => gRe p k c.wa c.ow := ansv_congr fun p hp => eq_redact _ _ _ _ p k _ _ _ hp
theorem se_code (S : List P3) (k : Nat) (c : CM) : seCode S k c = ansv S k fun p => gSe p k c.ow := ansv_congr fun p hp => eq_seal _ _ _ _ p k _ _ _ hp
theorem br_code (S : List P3) (k : Nat) (c : CM) (rs : ByteArray) : brCode S k c rs = ansv S k fun p => gBr p rs := ansv_congr fun p _ => eq_break _ _ _ _ p _ _ _
theorem cr_code (S : List P3) (k wa ow : Nat) : crCode S k wa ow = ansv S k fun p => gCr S p wa ow := ansv_congr fun p _ => eq_create _ _ _ _ S p _ _ _
set_option maxHeartbeats 1000000 in
set_option maxRecDepth 100000 in
theorem gjudged_1 (so : Option Addr) (sn sc : Nat) (rg : Option Addr) (rn rcap rc : Nat) (cl nu ac ve wa ow : Nat) (fo : Option Addr) (fn fc : Nat) (rs : ByteArray) (co : Nat) (w : World)
  (HC : Hid (∀ W, Fr (fun _ => False) w W → Calls Tryz.prog 41 #[.slice so sn sc, .int .u32 (ac : Nat), .int .u32 (wa : Nat), .int .u32 (ow : Nat)] W fun e w' => e = .returned (.int .u8 (co : Nat)) ∧ Fr (fun _ => False) w w')) :
  Calls Tryz.prog 26 #[.agg #[.slice so sn sc, .slice rg rn rcap], .agg #[.int .u32 (cl : Nat), .int .u32 (nu : Nat), .int .u32 (ac : Nat), .int .u8 1, .int .u32 (rc : Nat), .int .u32 (ve : Nat), .int .u32 (wa : Nat), .int .u32 (ow : Nat), .slice fo fn fc, .string rs]] w fun e w' => e = .returned (.int .u8 (co : Nat)) ∧ Fr (fun _ => False) w w' := by
 go_enter Tryz.func26, Tryz.ntmps26
 go_wp2_with fail
 refine ((unhide HC) _ (by repeat first | exact Fr.refl _ _ | refine Fr.alloc ?_ _ | refine Fr.setCell (p := ⟨_, _, none⟩) ?_ (.inr (by simp)) _)).mono ?_
 rintro e w2 ⟨rfl, hf2⟩
 go_wp2_with fail
 go_ret
 exact ⟨rfl, hf2⟩
set_option maxHeartbeats 1000000 in
set_option maxRecDepth 100000 in
theorem gjudged_2 (so : Option Addr) (sn sc : Nat) (rg rr rn rcap i xw xo : Nat) (xs : Bool) (go : Option Addr) (gn gc : Nat) (cl nu ac ve wa ow : Nat) (fo : Option Addr) (fn fc : Nat) (rs : ByteArray) (co : Nat) (w : World)
  (HC : Hid (∀ W, Fr (fun _ => False) w W → Calls Tryz.prog 42 #[.slice so sn sc, .agg #[.int .u32 (xw : Nat), .int .u32 (xo : Nat), .bool xs, .slice go gn gc], .int .u32 (ac : Nat), .slice fo fn fc] W fun e w' => e = .returned (.int .u8 (co : Nat)) ∧ Fr (fun _ => False) w w')) (hi : i < rn) (hn : rn ≤ 1000000) (c0 : w.cell? ⟨rg, rr + i * 5, none⟩ = some (.int .u32 (xw : Nat))) (c1 : w.cell? ⟨rg, rr + i * 5 + 1, none⟩ = some (.int .u32 (xo : Nat))) (c2 : w.cell? ⟨rg, rr + i * 5 + 2, none⟩ = some (.bool xs)) (c3 : w.cell? ⟨rg, rr + i * 5 + 3, none⟩ = some (.slice go gn gc)) :
  Calls Tryz.prog 26 #[.agg #[.slice so sn sc, .slice (some ⟨rg, rr, none⟩) rn rcap], .agg #[.int .u32 (cl : Nat), .int .u32 (nu : Nat), .int .u32 (ac : Nat), .int .u8 2, .int .u32 ((i + 1 : Nat) : Int), .int .u32 (ve : Nat), .int .u32 (wa : Nat), .int .u32 (ow : Nat), .slice fo fn fc, .string rs]] w fun e w' => e = .returned (.int .u8 (co : Nat)) ∧ Fr (fun _ => False) w w' := by
 have hgl : rg < w.heap.size := lt_of_cell c0
 have a1 : IntKind.u32.wrap (i : Int) = (i : Int) := by rw [IntKind.wrap_u32]; omega
 have a2 : (i : Int) < (rn : Int) := by omega
 clear hn
 go_enter Tryz.func26, Tryz.ntmps26
 go_wp2_with fail
 refine ((unhide HC) _ (by repeat first | exact Fr.refl _ _ | refine Fr.alloc ?_ _ | refine Fr.setCell (p := ⟨_, _, none⟩) ?_ (.inr (by simp)) _)).mono ?_
 rintro e w2 ⟨rfl, hf2⟩
 go_wp2_with fail
 go_ret
 exact ⟨rfl, hf2⟩
set_option maxHeartbeats 1000000 in
set_option maxRecDepth 100000 in
theorem gjudged_3 (so : Option Addr) (sn sc : Nat) (rg rr rn rcap i xw xo : Nat) (xs : Bool) (go : Option Addr) (gn gc : Nat) (cl nu ac ve wa ow : Nat) (fo : Option Addr) (fn fc : Nat) (rs : ByteArray) (co : Nat) (w : World)
  (HC : Hid (∀ W, Fr (fun _ => False) w W → Calls Tryz.prog 43 #[.slice so sn sc, .agg #[.int .u32 (xw : Nat), .int .u32 (xo : Nat), .bool xs, .slice go gn gc], .int .u32 (ac : Nat)] W fun e w' => e = .returned (.int .u8 (co : Nat)) ∧ Fr (fun _ => False) w w')) (hi : i < rn) (hn : rn ≤ 1000000) (c0 : w.cell? ⟨rg, rr + i * 5, none⟩ = some (.int .u32 (xw : Nat))) (c1 : w.cell? ⟨rg, rr + i * 5 + 1, none⟩ = some (.int .u32 (xo : Nat))) (c2 : w.cell? ⟨rg, rr + i * 5 + 2, none⟩ = some (.bool xs)) (c3 : w.cell? ⟨rg, rr + i * 5 + 3, none⟩ = some (.slice go gn gc)) :
  Calls Tryz.prog 26 #[.agg #[.slice so sn sc, .slice (some ⟨rg, rr, none⟩) rn rcap], .agg #[.int .u32 (cl : Nat), .int .u32 (nu : Nat), .int .u32 (ac : Nat), .int .u8 3, .int .u32 ((i + 1 : Nat) : Int), .int .u32 (ve : Nat), .int .u32 (wa : Nat), .int .u32 (ow : Nat), .slice fo fn fc, .string rs]] w fun e w' => e = .returned (.int .u8 (co : Nat)) ∧ Fr (fun _ => False) w w' := by
 have hgl : rg < w.heap.size := lt_of_cell c0
 have a1 : IntKind.u32.wrap (i : Int) = (i : Int) := by rw [IntKind.wrap_u32]; omega
 have a2 : (i : Int) < (rn : Int) := by omega
 clear hn
 go_enter Tryz.func26, Tryz.ntmps26
 go_wp2_with fail
 refine ((unhide HC) _ (by repeat first | exact Fr.refl _ _ | refine Fr.alloc ?_ _ | refine Fr.setCell (p := ⟨_, _, none⟩) ?_ (.inr (by simp)) _)).mono ?_
 rintro e w2 ⟨rfl, hf2⟩
 go_wp2_with fail
 go_ret
 exact ⟨rfl, hf2⟩
set_option maxHeartbeats 1000000 in
set_option maxRecDepth 100000 in
theorem gjudged_4 (so : Option Addr) (sn sc : Nat) (rg rr rn rcap i xw xo : Nat) (xs : Bool) (go : Option Addr) (gn gc : Nat) (cl nu ac ve wa ow : Nat) (fo : Option Addr) (fn fc : Nat) (rs : ByteArray) (co : Nat) (w : World)
  (HC : Hid (∀ W, Fr (fun _ => False) w W → Calls Tryz.prog 44 #[.slice so sn sc, .agg #[.int .u32 (xw : Nat), .int .u32 (xo : Nat), .bool xs, .slice go gn gc], .int .u32 (ac : Nat)] W fun e w' => e = .returned (.int .u8 (co : Nat)) ∧ Fr (fun _ => False) w w')) (hi : i < rn) (hn : rn ≤ 1000000) (c0 : w.cell? ⟨rg, rr + i * 5, none⟩ = some (.int .u32 (xw : Nat))) (c1 : w.cell? ⟨rg, rr + i * 5 + 1, none⟩ = some (.int .u32 (xo : Nat))) (c2 : w.cell? ⟨rg, rr + i * 5 + 2, none⟩ = some (.bool xs)) (c3 : w.cell? ⟨rg, rr + i * 5 + 3, none⟩ = some (.slice go gn gc)) :
  Calls Tryz.prog 26 #[.agg #[.slice so sn sc, .slice (some ⟨rg, rr, none⟩) rn rcap], .agg #[.int .u32 (cl : Nat), .int .u32 (nu : Nat), .int .u32 (ac : Nat), .int .u8 4, .int .u32 ((i + 1 : Nat) : Int), .int .u32 (ve : Nat), .int .u32 (wa : Nat), .int .u32 (ow : Nat), .slice fo fn fc, .string rs]] w fun e w' => e = .returned (.int .u8 (co : Nat)) ∧ Fr (fun _ => False) w w' := by
 have hgl : rg < w.heap.size := lt_of_cell c0
 have a1 : IntKind.u32.wrap (i : Int) = (i : Int) := by rw [IntKind.wrap_u32]; omega
 have a2 : (i : Int) < (rn : Int) := by omega
 clear hn
 go_enter Tryz.func26, Tryz.ntmps26
 go_wp2_with fail
 refine ((unhide HC) _ (by repeat first | exact Fr.refl _ _ | refine Fr.alloc ?_ _ | refine Fr.setCell (p := ⟨_, _, none⟩) ?_ (.inr (by simp)) _)).mono ?_
 rintro e w2 ⟨rfl, hf2⟩
 go_wp2_with fail
 go_ret
 exact ⟨rfl, hf2⟩
set_option maxHeartbeats 1000000 in
set_option maxRecDepth 100000 in
theorem gjudged_5 (so : Option Addr) (sn sc : Nat) (rg rr rn rcap i xw xo : Nat) (xs : Bool) (go : Option Addr) (gn gc : Nat) (cl nu ac ve wa ow : Nat) (fo : Option Addr) (fn fc : Nat) (rs : ByteArray) (co : Nat) (w : World)
  (HC : Hid (∀ W, Fr (fun _ => False) w W → Calls Tryz.prog 45 #[.slice so sn sc, .agg #[.int .u32 (xw : Nat), .int .u32 (xo : Nat), .bool xs, .slice go gn gc], .int .u32 (ac : Nat)] W fun e w' => e = .returned (.int .u8 (co : Nat)) ∧ Fr (fun _ => False) w w')) (hi : i < rn) (hn : rn ≤ 1000000) (c0 : w.cell? ⟨rg, rr + i * 5, none⟩ = some (.int .u32 (xw : Nat))) (c1 : w.cell? ⟨rg, rr + i * 5 + 1, none⟩ = some (.int .u32 (xo : Nat))) (c2 : w.cell? ⟨rg, rr + i * 5 + 2, none⟩ = some (.bool xs)) (c3 : w.cell? ⟨rg, rr + i * 5 + 3, none⟩ = some (.slice go gn gc)) :
  Calls Tryz.prog 26 #[.agg #[.slice so sn sc, .slice (some ⟨rg, rr, none⟩) rn rcap], .agg #[.int .u32 (cl : Nat), .int .u32 (nu : Nat), .int .u32 (ac : Nat), .int .u8 5, .int .u32 ((i + 1 : Nat) : Int), .int .u32 (ve : Nat), .int .u32 (wa : Nat), .int .u32 (ow : Nat), .slice fo fn fc, .string rs]] w fun e w' => e = .returned (.int .u8 (co : Nat)) ∧ Fr (fun _ => False) w w' := by
 have hgl : rg < w.heap.size := lt_of_cell c0
 have a1 : IntKind.u32.wrap (i : Int) = (i : Int) := by rw [IntKind.wrap_u32]; omega
 have a2 : (i : Int) < (rn : Int) := by omega
 clear hn
 go_enter Tryz.func26, Tryz.ntmps26
 go_wp2_with fail
 refine ((unhide HC) _ (by repeat first | exact Fr.refl _ _ | refine Fr.alloc ?_ _ | refine Fr.setCell (p := ⟨_, _, none⟩) ?_ (.inr (by simp)) _)).mono ?_
 rintro e w2 ⟨rfl, hf2⟩
 go_wp2_with fail
 go_ret
 exact ⟨rfl, hf2⟩
set_option maxHeartbeats 1000000 in
set_option maxRecDepth 100000 in
theorem gjudged_6 (so : Option Addr) (sn sc : Nat) (rg rr rn rcap i xw xo : Nat) (xs : Bool) (go : Option Addr) (gn gc : Nat) (cl nu ac ve wa ow : Nat) (fo : Option Addr) (fn fc : Nat) (rs : ByteArray) (co : Nat) (w : World)
  (HC : Hid (∀ W, Fr (fun _ => False) w W → Calls Tryz.prog 46 #[.slice so sn sc, .agg #[.int .u32 (xw : Nat), .int .u32 (xo : Nat), .bool xs, .slice go gn gc], .int .u32 (ac : Nat)] W fun e w' => e = .returned (.int .u8 (co : Nat)) ∧ Fr (fun _ => False) w w')) (hi : i < rn) (hn : rn ≤ 1000000) (c0 : w.cell? ⟨rg, rr + i * 5, none⟩ = some (.int .u32 (xw : Nat))) (c1 : w.cell? ⟨rg, rr + i * 5 + 1, none⟩ = some (.int .u32 (xo : Nat))) (c2 : w.cell? ⟨rg, rr + i * 5 + 2, none⟩ = some (.bool xs)) (c3 : w.cell? ⟨rg, rr + i * 5 + 3, none⟩ = some (.slice go gn gc)) :
  Calls Tryz.prog 26 #[.agg #[.slice so sn sc, .slice (some ⟨rg, rr, none⟩) rn rcap], .agg #[.int .u32 (cl : Nat), .int .u32 (nu : Nat), .int .u32 (ac : Nat), .int .u8 6, .int .u32 ((i + 1 : Nat) : Int), .int .u32 (ve : Nat), .int .u32 (wa : Nat), .int .u32 (ow : Nat), .slice fo fn fc, .string rs]] w fun e w' => e = .returned (.int .u8 (co : Nat)) ∧ Fr (fun _ => False) w w' := by
 have hgl : rg < w.heap.size := lt_of_cell c0
 have a1 : IntKind.u32.wrap (i : Int) = (i : Int) := by rw [IntKind.wrap_u32]; omega
 have a2 : (i : Int) < (rn : Int) := by omega
 clear hn
 go_enter Tryz.func26, Tryz.ntmps26
 go_wp2_with fail
 refine ((unhide HC) _ (by repeat first | exact Fr.refl _ _ | refine Fr.alloc ?_ _ | refine Fr.setCell (p := ⟨_, _, none⟩) ?_ (.inr (by simp)) _)).mono ?_
 rintro e w2 ⟨rfl, hf2⟩
 go_wp2_with fail
 go_ret
 exact ⟨rfl, hf2⟩
set_option maxHeartbeats 1000000 in
set_option maxRecDepth 100000 in
theorem gjudged_7 (so : Option Addr) (sn sc : Nat) (rg rr rn rcap i xw xo : Nat) (xs : Bool) (go : Option Addr) (gn gc : Nat) (cl nu ac ve wa ow : Nat) (fo : Option Addr) (fn fc : Nat) (rs : ByteArray) (co : Nat) (w : World)
  (HC : Hid (∀ W, Fr (fun _ => False) w W → Calls Tryz.prog 47 #[.slice so sn sc, .agg #[.int .u32 (xw : Nat), .int .u32 (xo : Nat), .bool xs, .slice go gn gc], .int .u32 (ac : Nat), .string rs] W fun e w' => e = .returned (.int .u8 (co : Nat)) ∧ Fr (fun _ => False) w w')) (hi : i < rn) (hn : rn ≤ 1000000) (c0 : w.cell? ⟨rg, rr + i * 5, none⟩ = some (.int .u32 (xw : Nat))) (c1 : w.cell? ⟨rg, rr + i * 5 + 1, none⟩ = some (.int .u32 (xo : Nat))) (c2 : w.cell? ⟨rg, rr + i * 5 + 2, none⟩ = some (.bool xs)) (c3 : w.cell? ⟨rg, rr + i * 5 + 3, none⟩ = some (.slice go gn gc)) :
  Calls Tryz.prog 26 #[.agg #[.slice so sn sc, .slice (some ⟨rg, rr, none⟩) rn rcap], .agg #[.int .u32 (cl : Nat), .int .u32 (nu : Nat), .int .u32 (ac : Nat), .int .u8 7, .int .u32 ((i + 1 : Nat) : Int), .int .u32 (ve : Nat), .int .u32 (wa : Nat), .int .u32 (ow : Nat), .slice fo fn fc, .string rs]] w fun e w' => e = .returned (.int .u8 (co : Nat)) ∧ Fr (fun _ => False) w w' := by
 have hgl : rg < w.heap.size := lt_of_cell c0
 have a1 : IntKind.u32.wrap (i : Int) = (i : Int) := by rw [IntKind.wrap_u32]; omega
 have a2 : (i : Int) < (rn : Int) := by omega
 clear hn
 go_enter Tryz.func26, Tryz.ntmps26
 go_wp2_with fail
 refine ((unhide HC) _ (by repeat first | exact Fr.refl _ _ | refine Fr.alloc ?_ _ | refine Fr.setCell (p := ⟨_, _, none⟩) ?_ (.inr (by simp)) _)).mono ?_
 rintro e w2 ⟨rfl, hf2⟩
 go_wp2_with fail
 go_ret
 exact ⟨rfl, hf2⟩
theorem results_cells2 {P : Program} {fn : Func} {p q : Tmp} {ty uy : TypeId} (h : fn.results = #[.cell p ty, .cell q uy]) (tmps : Array Value) (w : World) (b c : Nat) (cs ds : List Value) (d e : TypeDesc)
  (hp : tmps.getD p undef = .pointer (some ⟨b, 0, none⟩)) (hq : tmps.getD q undef = .pointer (some ⟨c, 0, none⟩)) (hc : w.rangeAt b 0 cs) (hd : w.rangeAt c 0 ds)
  (hu : P.underlying ty = some d) (hr : d.isRow = true) (hi : (P.info? ty).map (·.size) = some cs.length) (hu2 : P.underlying uy = some e) (hr2 : e.isRow = true) (hi2 : (P.info? uy).map (·.size) = some ds.length) :
  (results fn tmps).run P w = .ok (.tuple #[.agg cs.toArray, .agg ds.toArray]) w := by
 have hp' : tmps[p]?.getD undef = .pointer (some ⟨b, 0, none⟩) := by simpa using hp
 have hq' : tmps[q]?.getD undef = .pointer (some ⟨c, 0, none⟩) := by simpa using hq
 simp [results, h, hp', hq', asAddr, run_loadVar_mid w b 0 ty cs d hc hu hr hi, run_loadVar_mid w c 0 uy ds e hd hu2 hr2 hi2]
theorem st_put {W : World} {g : Nat} {a0 a1 : Value} (hb : W.heap[g]? = some (.cells #[a0, a1] 36)) (c0 c1 : Value) (h1 : ∀ v ∈ [c0, c1], v.oneCell' = true) :
  ∃ W8, (Instr.storeAt 36 (.pointer (some ⟨g, 0, none⟩)) (.agg #[c0, c1])).run Tryz.prog W = .ok () W8 ∧ W8.heap[g]? = some (.cells #[c0, c1] 36) ∧ Fr (fun k => k = g) W W8 := by
 refine ⟨W.setCells g 0 [c0, c1], run_storeAt_mid W g 0 36 #[c0, c1] (fun j hj => ?_) (by kernel_rfl) (all_oneCell_toArray (cs := [c0, c1]) h1), ?_, ?_⟩
 ·have hj : j < 2 := hj
  refine ⟨?_, by simp [World.frozen?, hb]⟩
  rcases j with _ | _ | j
  ·simp [World.cell?, hb]
  ·simp [World.cell?, hb]
  ·omega
 ·have k0 := heap_setCell_same W g 0 #[a0, a1] 36 c0 hb
  have k1 := heap_setCell_same _ g 1 _ 36 c1 k0
  simp only [List.setIfInBounds_toArray, List.set_cons_zero, List.set_cons_succ] at k1
  exact k1
 ·exact ((Fr.refl (fun k => k = g) W).setCell (p := ⟨g, 0, none⟩) (.inl rfl) c0).setCell (p := ⟨g, 1, none⟩) (.inl rfl) c1
structure AB (w W : World) (sv rv : Value) (rq : Array Value) (s2 s7 : Array Value) : Prop where
 s : W.heap[w.heap.size]? = some (.cells #[sv, rv] 36)
 r : W.heap[w.heap.size + 1]? = some (.cells rq 41)
 a : W.heap[w.heap.size + 2]? = some (.cells s2 36)
 b : W.heap[w.heap.size + 3]? = some (.cells s7 45)
 f : Fr (fun _ => False) w W
theorem AB.fr {w W W' : World} {sv rv : Value} {rq s2 s7 : Array Value} (h : AB w W sv rv rq s2 s7) (hf : Fr (fun _ => False) W W') : AB w W' sv rv rq s2 s7 :=
 ⟨(hf.block _ (lt_of_block h.s) (fun h => h)).trans h.s, (hf.block _ (lt_of_block h.r) (fun h => h)).trans h.r, (hf.block _ (lt_of_block h.a) (fun h => h)).trans h.a, (hf.block _ (lt_of_block h.b) (fun h => h)).trans h.b, h.f.trans hf (fun _ _ h => h)⟩
theorem AB.putA {w W : World} {sv rv : Value} {rq s7 : Array Value} {a0 a1 : Value} (h : AB w W sv rv rq #[a0, a1] s7) (c0 c1 : Value) (h1 : ∀ v ∈ [c0, c1], v.oneCell' = true) :
  ∃ W8, (Instr.storeAt 36 (.pointer (some ⟨w.heap.size + 2, 0, none⟩)) (.agg #[c0, c1])).run Tryz.prog W = .ok () W8 ∧ AB w W8 sv rv rq #[c0, c1] s7 ∧ Fr (fun k => k = w.heap.size + 2) W W8 := by
 obtain ⟨W8, h2, h3, h4⟩ := st_put h.a c0 c1 h1
 exact ⟨W8, h2, ⟨(h4.block _ (lt_of_block h.s) (by omega)).trans h.s, (h4.block _ (lt_of_block h.r) (by omega)).trans h.r, h3, (h4.block _ (lt_of_block h.b) (by omega)).trans h.b, h.f.absorb h4 (fun k hk => by omega)⟩, h4⟩
theorem AB.putB {w W : World} {sv rv : Value} {rq s2 : Array Value} {a0 a1 a2 a3 a4 a5 a6 : Value} (h : AB w W sv rv rq s2 #[a0, a1, a2, a3, a4, a5, a6]) (c0 c1 c2 c3 c4 c5 c6 : Value) (h1 : ∀ v ∈ [c0, c1, c2, c3, c4, c5, c6], v.oneCell' = true) :
  ∃ W8, (Instr.storeAt 45 (.pointer (some ⟨w.heap.size + 3, 0, none⟩)) (.agg #[c0, c1, c2, c3, c4, c5, c6])).run Tryz.prog W = .ok () W8 ∧ AB w W8 sv rv rq s2 #[c0, c1, c2, c3, c4, c5, c6] ∧ Fr (fun k => k = w.heap.size + 3) W W8 := by
 obtain ⟨W8, h2, h3, h4⟩ := ans_put h.b c0 c1 c2 c3 c4 c5 c6 h1
 exact ⟨W8, h2, ⟨(h4.block _ (lt_of_block h.s) (by omega)).trans h.s, (h4.block _ (lt_of_block h.r) (by omega)).trans h.r, (h4.block _ (lt_of_block h.a) (by omega)).trans h.a, h3, h.f.absorb h4 (fun k hk => by omega)⟩, h4⟩
theorem AB.range {w W : World} {sv rv : Value} {rq : Array Value} {cs ds : List Value} (h : AB w W sv rv rq cs.toArray ds.toArray) : W.rangeAt (w.heap.size + 2) 0 cs ∧ W.rangeAt (w.heap.size + 3) 0 ds := ⟨range_of_block h.a, range_of_block h.b⟩
theorem AB.frS {w W W' : World} {sv rv : Value} {rq s2 s7 : Array Value} {S : Nat → Prop} (h : AB w W sv rv rq s2 s7) (hf : Fr S W W') (hS : ∀ k, S k → w.heap.size + 4 ≤ k) : AB w W' sv rv rq s2 s7 :=
 ⟨(hf.block _ (lt_of_block h.s) (fun h => by have := hS _ h; omega)).trans h.s, (hf.block _ (lt_of_block h.r) (fun h => by have := hS _ h; omega)).trans h.r, (hf.block _ (lt_of_block h.a) (fun h => by have := hS _ h; omega)).trans h.a, (hf.block _ (lt_of_block h.b) (fun h => by have := hS _ h; omega)).trans h.b, h.f.absorb hf (fun k hk => by have := hS k hk; omega)⟩
abbrev S12W (w : World) (so : Option Addr) (sn sc : Nat) (ro : Option Addr) (rn rcap : Nat) (cl nu ac op rc ve wa ow : Nat) (fo : Option Addr) (fn fc : Nat) (rs : ByteArray) (W : World) : Prop := (W.cell? ⟨w.heap.size, 0, none⟩ = some (.slice so sn sc) ∧ W.cell? ⟨w.heap.size, 1, none⟩ = some (.slice ro rn rcap)) ∧ W.cell? ⟨w.heap.size + 1, 0, none⟩ = some (.int .u32 (cl : Nat)) ∧ W.cell? ⟨w.heap.size + 1, 1, none⟩ = some (.int .u32 (nu : Nat)) ∧ W.cell? ⟨w.heap.size + 1, 2, none⟩ = some (.int .u32 (ac : Nat)) ∧ W.cell? ⟨w.heap.size + 1, 3, none⟩ = some (.int .u8 (op : Nat)) ∧ W.cell? ⟨w.heap.size + 1, 4, none⟩ = some (.int .u32 (rc : Nat)) ∧ W.cell? ⟨w.heap.size + 1, 5, none⟩ = some (.int .u32 (ve : Nat)) ∧ W.cell? ⟨w.heap.size + 1, 6, none⟩ = some (.int .u32 (wa : Nat)) ∧ W.cell? ⟨w.heap.size + 1, 7, none⟩ = some (.int .u32 (ow : Nat)) ∧ W.cell? ⟨w.heap.size + 1, 8, none⟩ = some (.slice fo fn fc) ∧ W.cell? ⟨w.heap.size + 1, 9, none⟩ = some (.string rs)
abbrev S19W (w : World) (so : Option Addr) (sn sc : Nat) (ro : Option Addr) (rn rcap : Nat) (cl nu ac op rc ve wa ow : Nat) (fo : Option Addr) (fn fc : Nat) (rs : ByteArray) (b9 : Nat) (a0 a1 a2 a3 a4 a5 a6 : Value) (W : World) : Prop := S12W w so sn sc ro rn rcap cl nu ac op rc ve wa ow fo fn fc rs W ∧ W.cell? ⟨b9, 0, none⟩ = some a0 ∧ W.cell? ⟨b9, 1, none⟩ = some a1 ∧ W.cell? ⟨b9, 2, none⟩ = some a2 ∧ W.cell? ⟨b9, 3, none⟩ = some a3 ∧ W.cell? ⟨b9, 4, none⟩ = some a4 ∧ W.cell? ⟨b9, 5, none⟩ = some a5 ∧ W.cell? ⟨b9, 6, none⟩ = some a6
abbrev S74W (w : World) (so : Option Addr) (sn sc : Nat) (ro : Option Addr) (rn rcap : Nat) (cl nu ac op rc ve wa ow : Nat) (fo : Option Addr) (fn fc : Nat) (rs : ByteArray) (b9 : Nat) (a0 a1 a2 a3 a4 a5 a6 : Value) (bx : Nat) (x0 x1 x2 x3 x4 : Value) (W : World) : Prop := S12W w so sn sc ro rn rcap cl nu ac op rc ve wa ow fo fn fc rs W ∧ (W.cell? ⟨b9, 0, none⟩ = some a0 ∧ W.cell? ⟨b9, 1, none⟩ = some a1 ∧ W.cell? ⟨b9, 2, none⟩ = some a2 ∧ W.cell? ⟨b9, 3, none⟩ = some a3 ∧ W.cell? ⟨b9, 4, none⟩ = some a4 ∧ W.cell? ⟨b9, 5, none⟩ = some a5 ∧ W.cell? ⟨b9, 6, none⟩ = some a6) ∧ W.cell? ⟨bx, 0, none⟩ = some x0 ∧ W.cell? ⟨bx, 1, none⟩ = some x1 ∧ W.cell? ⟨bx, 2, none⟩ = some x2 ∧ W.cell? ⟨bx, 3, none⟩ = some x3 ∧ W.cell? ⟨bx, 4, none⟩ = some x4
section
variable {w W : World} {so : Option Addr} {sn sc : Nat} {ro : Option Addr} {rn rcap : Nat} {cl nu ac op rc ve wa ow : Nat} {fo : Option Addr} {fn fc : Nat} {rs : ByteArray} {s2 s7 : Array Value}
theorem AB.s12 (h : AB w W (.slice so sn sc) (.slice ro rn rcap) #[.int .u32 (cl : Nat), .int .u32 (nu : Nat), .int .u32 (ac : Nat), .int .u8 (op : Nat), .int .u32 (rc : Nat), .int .u32 (ve : Nat), .int .u32 (wa : Nat), .int .u32 (ow : Nat), .slice fo fn fc, .string rs] s2 s7) : S12W w so sn sc ro rn rcap cl nu ac op rc ve wa ow fo fn fc rs W := by
 have h1 := h.s
 have h2 := h.r
 refine ⟨⟨?_, ?_⟩, ?_, ?_, ?_, ?_, ?_, ?_, ?_, ?_, ?_, ?_⟩ <;> simp [World.cell?, h1, h2]
theorem AB.s19 (h : AB w W (.slice so sn sc) (.slice ro rn rcap) #[.int .u32 (cl : Nat), .int .u32 (nu : Nat), .int .u32 (ac : Nat), .int .u8 (op : Nat), .int .u32 (rc : Nat), .int .u32 (ve : Nat), .int .u32 (wa : Nat), .int .u32 (ow : Nat), .slice fo fn fc, .string rs] s2 s7) {b9 : Nat} {a0 a1 a2 a3 a4 a5 a6 : Value} (h9 : W.heap[b9]? = some (.cells #[a0, a1, a2, a3, a4, a5, a6] 45)) : S19W w so sn sc ro rn rcap cl nu ac op rc ve wa ow fo fn fc rs b9 a0 a1 a2 a3 a4 a5 a6 W :=
 ⟨h.s12, by refine ⟨?_, ?_, ?_, ?_, ?_, ?_, ?_⟩ <;> simp [World.cell?, h9]⟩
theorem AB.s74 (h : AB w W (.slice so sn sc) (.slice ro rn rcap) #[.int .u32 (cl : Nat), .int .u32 (nu : Nat), .int .u32 (ac : Nat), .int .u8 (op : Nat), .int .u32 (rc : Nat), .int .u32 (ve : Nat), .int .u32 (wa : Nat), .int .u32 (ow : Nat), .slice fo fn fc, .string rs] s2 s7) {b9 bx : Nat} {a0 a1 a2 a3 a4 a5 a6 x0 x1 x2 x3 x4 : Value} (h9 : W.heap[b9]? = some (.cells #[a0, a1, a2, a3, a4, a5, a6] 45)) (hx : W.heap[bx]? = some (.cells #[x0, x1, x2, x3, x4] 78)) : S74W w so sn sc ro rn rcap cl nu ac op rc ve wa ow fo fn fc rs b9 a0 a1 a2 a3 a4 a5 a6 bx x0 x1 x2 x3 x4 W :=
 ⟨h.s12, by refine ⟨?_, ?_, ?_, ?_, ?_, ?_, ?_⟩ <;> simp [World.cell?, h9], by refine ⟨?_, ?_, ?_, ?_, ?_⟩ <;> simp [World.cell?, hx]⟩
end
theorem ab_new (w : World) (so : Option Addr) (sn sc : Nat) (ro : Option Addr) (rn rcap : Nat) (cl nu ac op rc ve wa ow : Nat) (fo : Option Addr) (fn fc : Nat) (rs : ByteArray) : ∃ W4, W4 = (((w.alloc (.cells #[.slice so sn sc, .slice ro rn rcap] 36)).alloc (.cells #[.int .u32 (cl : Nat), .int .u32 (nu : Nat), .int .u32 (ac : Nat), .int .u8 (op : Nat), .int .u32 (rc : Nat), .int .u32 (ve : Nat), .int .u32 (wa : Nat), .int .u32 (ow : Nat), .slice fo fn fc, .string rs] 41)).alloc (.cells #[.slice none 0 0, .slice none 0 0] 36)).alloc (.cells #[.int .u32 0, .int .u32 0, .int .u8 0, .int .u32 0, .int .u32 0, .slice none 0 0, .slice none 0 0] 45) ∧ AB w W4 (.slice so sn sc) (.slice ro rn rcap) #[.int .u32 (cl : Nat), .int .u32 (nu : Nat), .int .u32 (ac : Nat), .int .u8 (op : Nat), .int .u32 (rc : Nat), .int .u32 (ve : Nat), .int .u32 (wa : Nat), .int .u32 (ow : Nat), .slice fo fn fc, .string rs] #[.slice none 0 0, .slice none 0 0] #[.int .u32 0, .int .u32 0, .int .u8 0, .int .u32 0, .int .u32 0, .slice none 0 0, .slice none 0 0] := by
 refine ⟨_, rfl, ?_⟩
 have e1 := heap_two w (.cells #[.slice so sn sc, .slice ro rn rcap] 36) (.cells #[.int .u32 (cl : Nat), .int .u32 (nu : Nat), .int .u32 (ac : Nat), .int .u8 (op : Nat), .int .u32 (rc : Nat), .int .u32 (ve : Nat), .int .u32 (wa : Nat), .int .u32 (ow : Nat), .slice fo fn fc, .string rs] 41)
 have e2 := heap_two (w.alloc (.cells #[.slice so sn sc, .slice ro rn rcap] 36)) (.cells #[.int .u32 (cl : Nat), .int .u32 (nu : Nat), .int .u32 (ac : Nat), .int .u8 (op : Nat), .int .u32 (rc : Nat), .int .u32 (ve : Nat), .int .u32 (wa : Nat), .int .u32 (ow : Nat), .slice fo fn fc, .string rs] 41) (.cells #[.slice none 0 0, .slice none 0 0] 36)
 have e3 := heap_two ((w.alloc (.cells #[.slice so sn sc, .slice ro rn rcap] 36)).alloc (.cells #[.int .u32 (cl : Nat), .int .u32 (nu : Nat), .int .u32 (ac : Nat), .int .u8 (op : Nat), .int .u32 (rc : Nat), .int .u32 (ve : Nat), .int .u32 (wa : Nat), .int .u32 (ow : Nat), .slice fo fn fc, .string rs] 41)) (.cells #[.slice none 0 0, .slice none 0 0] 36) (.cells #[.int .u32 0, .int .u32 0, .int .u8 0, .int .u32 0, .int .u32 0, .slice none 0 0, .slice none 0 0] 45)
 exact ⟨((((Fr.refl (fun _ => False) _).alloc _).alloc _).alloc _ |>.block _ (by simp) (fun h => h)).trans Array.getElem?_push_size, (((Fr.refl (fun _ => False) _).alloc _).alloc _ |>.block _ (by simp) (fun h => h)).trans e1, ((box1 _ _).block _ (by simp) (fun h => h)).trans (by simpa using e2), by simpa using e3, (((box1 w _).alloc _).alloc _).alloc _⟩
abbrev FoH (w : World) (cl nu ac op rc ve wa ow : Nat) (fo : Option Addr) (fn fc : Nat) (rs : ByteArray) (b : Bool) : Prop := ∀ W, Fr (fun _ => False) w W → Calls Tryz.prog 23 #[.agg #[.int .u32 (cl : Nat), .int .u32 (nu : Nat), .int .u32 (ac : Nat), .int .u8 (op : Nat), .int .u32 (rc : Nat), .int .u32 (ve : Nat), .int .u32 (wa : Nat), .int .u32 (ow : Nat), .slice fo fn fc, .string rs]] W fun e w' => e = .returned (.bool b) ∧ Fr (fun _ => False) W w'
abbrev FdH (w : World) (so : Option Addr) (sn sc ac : Nat) (z : Int) : Prop := ∀ W, Fr (fun _ => False) w W → Calls Tryz.prog 25 #[.slice so sn sc, .int .u32 (ac : Nat)] W fun e w' => e = .returned (.int .i64 z) ∧ w' = W
abbrev JdH (w : World) (so : Option Addr) (sn sc : Nat) (ro : Option Addr) (rn rcap : Nat) (cl nu ac op rc ve wa ow : Nat) (fo : Option Addr) (fn fc : Nat) (rs : ByteArray) (jc : Nat) : Prop := ∀ W, Fr (fun _ => False) w W → Calls Tryz.prog 26 #[.agg #[.slice so sn sc, .slice ro rn rcap], .agg #[.int .u32 (cl : Nat), .int .u32 (nu : Nat), .int .u32 (ac : Nat), .int .u8 (op : Nat), .int .u32 (rc : Nat), .int .u32 (ve : Nat), .int .u32 (wa : Nat), .int .u32 (ow : Nat), .slice fo fn fc, .string rs]] W fun e w' => e = .returned (.int .u8 (jc : Nat)) ∧ Fr (fun _ => False) W w'
abbrev RefP (w : World) (so : Option Addr) (sn sc : Nat) (ro : Option Addr) (rn rcap cl nu co : Nat) (e : Ending) (w' : World) : Prop := e = .returned (.tuple #[.agg #[.slice so sn sc, .slice ro rn rcap], .agg #[.int .u32 (cl : Nat), .int .u32 (nu : Nat), .int .u8 (co : Nat), .int .u32 0, .int .u32 0, .slice none 0 0, .slice none 0 0]]) ∧ Fr (fun _ => False) w w'
set_option maxHeartbeats 4000000 in
set_option maxRecDepth 100000 in
theorem gapply_early (so : Option Addr) (sn sc : Nat) (ro : Option Addr) (rn rcap : Nat) (cl nu ac op rc ve wa ow : Nat) (fo : Option Addr) (fn fc : Nat) (rs : ByteArray) (place : Nat) (w : World) (b : Bool) (HFo : Hid (FoH w cl nu ac op rc ve wa ow fo fn fc rs b)) (z : Int) (HFd : Hid (FdH w so sn sc ac z)) (jc : Nat) (HJ0 : Hid (b = true → ¬ z < 0 → (op = 1 ∨ (¬ rc = 0 ∧ rc ≤ rn)) → JdH w so sn sc ro rn rcap cl nu ac op rc ve wa ow fo fn fc rs jc)) (hrb : rc < 4294967296) (co : Nat) (h2 : b = false → co = 2) (h1 : b = true → z < 0 → co = 1) (h3 : b = true → ¬ z < 0 → ¬ op = 1 → (rc = 0 ∨ rn < rc) → co = 3) (hj : b = true → ¬ z < 0 → (op = 1 ∨ (¬ rc = 0 ∧ rc ≤ rn)) → ¬ jc = 0 ∧ co = jc) :
  Calls Tryz.prog 12 #[.agg #[.slice so sn sc, .slice ro rn rcap], .agg #[.int .u32 (cl : Nat), .int .u32 (nu : Nat), .int .u32 (ac : Nat), .int .u8 (op : Nat), .int .u32 (rc : Nat), .int .u32 (ve : Nat), .int .u32 (wa : Nat), .int .u32 (ow : Nat), .slice fo fn fc, .string rs], .int .u32 (place : Nat)] w fun e w' => RefP w so sn sc ro rn rcap cl nu co e w' := by
 have HH := hide (And.intro h2 (And.intro h1 (And.intro h3 hj)))
 clear h2 h1 h3 hj
 obtain ⟨W4, hW4, a4⟩ := ab_new w so sn sc ro rn rcap cl nu ac op rc ve wa ow fo fn fc rs
 have A4 := hide a4
 clear a4
 have HRf := hide (fun (co : Nat) W => grefused_any cl nu ac op rc ve wa ow co fo fn fc rs W)
 go_enter Tryz.func12, Tryz.ntmps12
 go_wp2_with fail
 rw [← hW4]
 clear hW4
 refine ((unhide HFo) _ (unhide A4).f).mono ?_
 rintro e w5 ⟨rfl, hf5⟩
 have A5 := hide ((unhide A4).fr hf5)
 clear hf5 A4
 cases b
 ·go_wp2_with fail
  refine wp_region_noPanic ?_
  have B0 := hide ((unhide A5).fr (Fr.refl _ _).drew)
  refine wp_region_held_drew (S := S12W w so sn sc ro rn rcap cl nu ac op rc ve wa ow fo fn fc rs) (by kernel_rfl) (unhide B0).s12 (fun hHeld => ?_)
  refine wtk (i := 0) (v := ?_) rfl (Or.inl ⟨by rfl, ?_⟩) hHeld ?_
  rotate_left
  ·intro w hSw; dsimp only [S12W] at hSw; go_simp; (try with_reducible rfl)
  (try simp only [Act.put, nrm])
  refine wtk (i := 1) (v := ?_) rfl (Or.inl ⟨by rfl, ?_⟩) hHeld ?_
  rotate_left
  ·intro w hSw; dsimp only [S12W] at hSw; go_simp; (try with_reducible rfl)
  (try simp only [Act.put, nrm])
  refine wpAnyH_ready (rs := [2]) (by kernel_rfl) (by simp) (AllReadyH.cons rfl (fun K hK => ?_) (AllReadyH.nil))
  go_simp
  refine ((unhide HRf) 2 _).mono ?_
  rintro e w1 ⟨rfl, f1⟩
  have B1 := hide ((unhide B0).fr f1)
  clear f1
  go_simp
  refine hK.out _ _ (unhide B1).s12 (fun hHeld => ?_)
  clear hK K
  (try simp only [Act.put, nrm])
  refine wpAnyH_ready (rs := [3]) (by kernel_rfl) (by simp) (AllReadyH.cons rfl (fun K hK => ?_) (AllReadyH.nil))
  obtain ⟨W2, st2, a2, _⟩ := (unhide B1).putA (.slice so sn sc) (.slice ro rn rcap) (fun u hu => by simp at hu; rcases hu with rfl | rfl <;> rfl)
  have H2 := hide st2
  have B2 := hide a2
  clear st2 a2
  refine step_stN rfl 36 (.tmp 6) (.tmp 26) rfl _ _ (by simp [Act.eval]) (by simp [Act.eval]) (unhide H2) ?_
  refine hK.out _ _ (unhide B2).s12 (fun hHeld => ?_)
  clear hK K
  (try simp only [Act.put])
  refine wpAnyH_ready (rs := [4]) (by kernel_rfl) (by simp) (AllReadyH.cons rfl (fun K hK => ?_) (AllReadyH.nil))
  obtain ⟨W3, st3, a3, _⟩ := (unhide B2).putB (.int .u32 (cl : Nat)) (.int .u32 (nu : Nat)) (.int .u8 2) (.int .u32 0) (.int .u32 0) (.slice none 0 0) (.slice none 0 0) (fun u hu => by simp at hu; rcases hu with rfl | rfl | rfl | rfl | rfl | rfl | rfl <;> rfl)
  have H3 := hide st3
  have B3 := hide a3
  clear st3 a3
  refine step_stN rfl 45 (.tmp 7) (.tmp 28) rfl _ _ (by simp [Act.eval]) (by simp [Act.eval]) (unhide H3) ?_
  refine hK.out _ _ (unhide B3).s12 (fun hHeld => ?_)
  clear hK K
  (try simp only [Act.put])
  refine wpAnyH_done (by kernel_rfl) ?_ _
  refine NoPanic.normal ?_
  go_wp2_with fail
  refine bodyPost_ret (results_cells2 rfl _ _ (w.heap.size + 2) (w.heap.size + 3) [.slice so sn sc, .slice ro rn rcap] [.int .u32 (cl : Nat), .int .u32 (nu : Nat), .int .u8 2, .int .u32 0, .int .u32 0, .slice none 0 0, .slice none 0 0] _ _ rfl rfl (unhide B3).range.1 (unhide B3).range.2 Tryz.underlying36 rfl (by kernel_rfl) Tryz.underlying45 rfl (by kernel_rfl)) rfl ?_
  exact ⟨by rw [(unhide HH).1 (by trivial)]; rfl, (unhide B3).f⟩
 ·by_cases hz : z < 0
  ·have z1 : decide (z < 0) = true := decide_eq_true hz
   obtain ⟨⟨p0, p1⟩, q0, q1, q2, q3, q4, q5, q6, q7, q8, q9⟩ := (unhide A5).s12
   go_wp2_with fail
   refine ((unhide HFd) _ (unhide A5).f).mono ?_
   rintro e w6 ⟨rfl, hw6⟩
   obtain rfl := hw6.symm
   clear hw6
   go_wp2_with fail
   clear p0 p1 q0 q1 q2 q3 q4 q5 q6 q7 q8 q9
   refine wp_region_noPanic ?_
   have B0 := hide ((unhide A5).fr (Fr.refl _ _).drew)
   refine wp_region_held_drew (S := S12W w so sn sc ro rn rcap cl nu ac op rc ve wa ow fo fn fc rs) (by kernel_rfl) (unhide B0).s12 (fun hHeld => ?_)
   refine wtk (i := 0) (v := ?_) rfl (Or.inl ⟨by rfl, ?_⟩) hHeld ?_
   rotate_left
   ·intro w hSw; dsimp only [S12W] at hSw; go_simp; (try with_reducible rfl)
   (try simp only [Act.put, nrm])
   refine wtk (i := 1) (v := ?_) rfl (Or.inl ⟨by rfl, ?_⟩) hHeld ?_
   rotate_left
   ·intro w hSw; dsimp only [S12W] at hSw; go_simp; (try with_reducible rfl)
   (try simp only [Act.put, nrm])
   refine wpAnyH_ready (rs := [2]) (by kernel_rfl) (by simp) (AllReadyH.cons rfl (fun K hK => ?_) (AllReadyH.nil))
   go_simp
   refine ((unhide HRf) 1 _).mono ?_
   rintro e w1 ⟨rfl, f1⟩
   have B1 := hide ((unhide B0).fr f1)
   clear f1
   go_simp
   refine hK.out _ _ (unhide B1).s12 (fun hHeld => ?_)
   clear hK K
   (try simp only [Act.put, nrm])
   refine wpAnyH_ready (rs := [3]) (by kernel_rfl) (by simp) (AllReadyH.cons rfl (fun K hK => ?_) (AllReadyH.nil))
   obtain ⟨W2, st2, a2, _⟩ := (unhide B1).putA (.slice so sn sc) (.slice ro rn rcap) (fun u hu => by simp at hu; rcases hu with rfl | rfl <;> rfl)
   have H2 := hide st2
   have B2 := hide a2
   clear st2 a2
   refine step_stN rfl 36 (.tmp 6) (.tmp 35) rfl _ _ (by simp [Act.eval]) (by simp [Act.eval]) (unhide H2) ?_
   refine hK.out _ _ (unhide B2).s12 (fun hHeld => ?_)
   clear hK K
   (try simp only [Act.put])
   refine wpAnyH_ready (rs := [4]) (by kernel_rfl) (by simp) (AllReadyH.cons rfl (fun K hK => ?_) (AllReadyH.nil))
   obtain ⟨W3, st3, a3, _⟩ := (unhide B2).putB (.int .u32 (cl : Nat)) (.int .u32 (nu : Nat)) (.int .u8 1) (.int .u32 0) (.int .u32 0) (.slice none 0 0) (.slice none 0 0) (fun u hu => by simp at hu; rcases hu with rfl | rfl | rfl | rfl | rfl | rfl | rfl <;> rfl)
   have H3 := hide st3
   have B3 := hide a3
   clear st3 a3
   refine step_stN rfl 45 (.tmp 7) (.tmp 37) rfl _ _ (by simp [Act.eval]) (by simp [Act.eval]) (unhide H3) ?_
   refine hK.out _ _ (unhide B3).s12 (fun hHeld => ?_)
   clear hK K
   (try simp only [Act.put])
   refine wpAnyH_done (by kernel_rfl) ?_ _
   refine NoPanic.normal ?_
   go_wp2_with fail
   refine bodyPost_ret (results_cells2 rfl _ _ (w.heap.size + 2) (w.heap.size + 3) [.slice so sn sc, .slice ro rn rcap] [.int .u32 (cl : Nat), .int .u32 (nu : Nat), .int .u8 1, .int .u32 0, .int .u32 0, .slice none 0 0, .slice none 0 0] _ _ rfl rfl (unhide B3).range.1 (unhide B3).range.2 Tryz.underlying36 rfl (by kernel_rfl) Tryz.underlying45 rfl (by kernel_rfl)) rfl ?_
   exact ⟨by rw [(unhide HH).2.1 (by trivial) hz]; rfl, (unhide B3).f⟩
  have z1 : decide (z < 0) = false := decide_eq_false (by omega)
  have z2 : ¬ z < 0 := by omega
  have HZ := hide hz
  clear hz
  obtain ⟨⟨p0, p1⟩, q0, q1, q2, q3, q4, q5, q6, q7, q8, q9⟩ := (unhide A5).s12
  go_wp2_with fail
  refine ((unhide HFd) _ (unhide A5).f).mono ?_
  rintro e w6 ⟨rfl, hw6⟩
  obtain rfl := hw6.symm
  clear hw6
  clear p0 p1 q0 q1 q2 q3 q4 q5 q6 q7 q8 q9
  by_cases ho : op = 1
  ·have o1 : ((op : Int) != 1) = false := by rw [bne_eq_false_iff_eq]; omega
   obtain ⟨hj0, hcj⟩ := (unhide HH).2.2.2 (by trivial) (unhide HZ) (.inl ho)
   have HJd := hide ((unhide HJ0) (by trivial) (unhide HZ) (.inl ho))
   have j1 : ((jc : Int) != 0) = true := by rw [bne_iff_ne]; omega
   have HCJ := hide hcj
   clear hcj hj0
   clear ho
   obtain ⟨⟨p0, p1⟩, q0, q1, q2, q3, q4, q5, q6, q7, q8, q9⟩ := (unhide A5).s12
   go_wp2_with fail
   refine ((unhide HJd) _ (unhide A5).f).mono ?_
   rintro e w7 ⟨rfl, f7⟩
   have A7 := hide ((unhide A5).fr f7)
   clear f7 A5
   go_wp2_with fail
   clear p0 p1 q0 q1 q2 q3 q4 q5 q6 q7 q8 q9
   refine wp_region_noPanic ?_
   have B0 := hide ((unhide A7).fr (Fr.refl _ _).drew)
   refine wp_region_held_drew (S := S12W w so sn sc ro rn rcap cl nu ac op rc ve wa ow fo fn fc rs) (by kernel_rfl) (unhide B0).s12 (fun hHeld => ?_)
   refine wtk (i := 0) (v := ?_) rfl (Or.inl ⟨by rfl, ?_⟩) hHeld ?_
   rotate_left
   ·intro w hSw; dsimp only [S12W] at hSw; go_simp; (try with_reducible rfl)
   (try simp only [Act.put, nrm])
   refine wtk (i := 1) (v := ?_) rfl (Or.inl ⟨by rfl, ?_⟩) hHeld ?_
   rotate_left
   ·intro w hSw; dsimp only [S12W] at hSw; go_simp; (try with_reducible rfl)
   (try simp only [Act.put, nrm])
   refine wtk (i := 2) (v := ?_) rfl (Or.inl ⟨by rfl, ?_⟩) hHeld ?_
   rotate_left
   ·intro w hSw; dsimp only [S12W] at hSw; go_simp; (try with_reducible rfl)
   (try simp only [Act.put, nrm])
   refine wpAnyH_ready (rs := [3]) (by kernel_rfl) (by simp) (AllReadyH.cons rfl (fun K hK => ?_) (AllReadyH.nil))
   go_simp
   refine ((unhide HRf) jc _).mono ?_
   rintro e w1 ⟨rfl, f1⟩
   have B1 := hide ((unhide B0).fr f1)
   clear f1
   go_simp
   refine hK.out _ _ (unhide B1).s12 (fun hHeld => ?_)
   clear hK K
   (try simp only [Act.put, nrm])
   refine wpAnyH_ready (rs := [4]) (by kernel_rfl) (by simp) (AllReadyH.cons rfl (fun K hK => ?_) (AllReadyH.nil))
   obtain ⟨W2, st2, a2, _⟩ := (unhide B1).putA (.slice so sn sc) (.slice ro rn rcap) (fun u hu => by simp at hu; rcases hu with rfl | rfl <;> rfl)
   have H2 := hide st2
   have B2 := hide a2
   clear st2 a2
   refine step_stN rfl 36 (.tmp 6) (.tmp 63) rfl _ _ (by simp [Act.eval]) (by simp [Act.eval]) (unhide H2) ?_
   refine hK.out _ _ (unhide B2).s12 (fun hHeld => ?_)
   clear hK K
   (try simp only [Act.put])
   refine wpAnyH_ready (rs := [5]) (by kernel_rfl) (by simp) (AllReadyH.cons rfl (fun K hK => ?_) (AllReadyH.nil))
   obtain ⟨W3, st3, a3, _⟩ := (unhide B2).putB (.int .u32 (cl : Nat)) (.int .u32 (nu : Nat)) (.int .u8 (jc : Nat)) (.int .u32 0) (.int .u32 0) (.slice none 0 0) (.slice none 0 0) (fun u hu => by simp at hu; rcases hu with rfl | rfl | rfl | rfl | rfl | rfl | rfl <;> rfl)
   have H3 := hide st3
   have B3 := hide a3
   clear st3 a3
   refine step_stN rfl 45 (.tmp 7) (.tmp 66) rfl _ _ (by simp [Act.eval]) (by simp [Act.eval]) (unhide H3) ?_
   refine hK.out _ _ (unhide B3).s12 (fun hHeld => ?_)
   clear hK K
   (try simp only [Act.put])
   refine wpAnyH_done (by kernel_rfl) ?_ _
   refine NoPanic.normal ?_
   go_wp2_with fail
   refine bodyPost_ret (results_cells2 rfl _ _ (w.heap.size + 2) (w.heap.size + 3) [.slice so sn sc, .slice ro rn rcap] [.int .u32 (cl : Nat), .int .u32 (nu : Nat), .int .u8 (jc : Nat), .int .u32 0, .int .u32 0, .slice none 0 0, .slice none 0 0] _ _ rfl rfl (unhide B3).range.1 (unhide B3).range.2 Tryz.underlying36 rfl (by kernel_rfl) Tryz.underlying45 rfl (by kernel_rfl)) rfl ?_
   exact ⟨by rw [unhide HCJ], (unhide B3).f⟩
  ·by_cases hr : rc = 0 ∨ rn < rc
   ·have HC3 := hide ((unhide HH).2.2.1 (by trivial) (unhide HZ) ho hr)
    rcases hr with hr | hr
    ·have o1 : ((op : Int) != 1) = true := by rw [bne_iff_ne]; omega
     have r1 : ((rc : Int) == 0) = true := by rw [beq_iff_eq]; omega
     clear ho hr
     obtain ⟨⟨p0, p1⟩, q0, q1, q2, q3, q4, q5, q6, q7, q8, q9⟩ := (unhide A5).s12
     go_wp2_with fail
     clear p0 p1 q0 q1 q2 q3 q4 q5 q6 q7 q8 q9
     refine wp_region_noPanic ?_
     have B0 := hide ((unhide A5).fr (Fr.refl _ _).drew)
     refine wp_region_held_drew (S := S12W w so sn sc ro rn rcap cl nu ac op rc ve wa ow fo fn fc rs) (by kernel_rfl) (unhide B0).s12 (fun hHeld => ?_)
     refine wtk (i := 0) (v := ?_) rfl (Or.inl ⟨by rfl, ?_⟩) hHeld ?_
     rotate_left
     ·intro w hSw; dsimp only [S12W] at hSw; go_simp; (try with_reducible rfl)
     (try simp only [Act.put, nrm])
     refine wtk (i := 1) (v := ?_) rfl (Or.inl ⟨by rfl, ?_⟩) hHeld ?_
     rotate_left
     ·intro w hSw; dsimp only [S12W] at hSw; go_simp; (try with_reducible rfl)
     (try simp only [Act.put, nrm])
     refine wpAnyH_ready (rs := [2]) (by kernel_rfl) (by simp) (AllReadyH.cons rfl (fun K hK => ?_) (AllReadyH.nil))
     go_simp
     refine ((unhide HRf) 3 _).mono ?_
     rintro e w1 ⟨rfl, f1⟩
     have B1 := hide ((unhide B0).fr f1)
     clear f1
     go_simp
     refine hK.out _ _ (unhide B1).s12 (fun hHeld => ?_)
     clear hK K
     (try simp only [Act.put, nrm])
     refine wpAnyH_ready (rs := [3]) (by kernel_rfl) (by simp) (AllReadyH.cons rfl (fun K hK => ?_) (AllReadyH.nil))
     obtain ⟨W2, st2, a2, _⟩ := (unhide B1).putA (.slice so sn sc) (.slice ro rn rcap) (fun u hu => by simp at hu; rcases hu with rfl | rfl <;> rfl)
     have H2 := hide st2
     have B2 := hide a2
     clear st2 a2
     refine step_stN rfl 36 (.tmp 6) (.tmp 55) rfl _ _ (by simp [Act.eval]) (by simp [Act.eval]) (unhide H2) ?_
     refine hK.out _ _ (unhide B2).s12 (fun hHeld => ?_)
     clear hK K
     (try simp only [Act.put])
     refine wpAnyH_ready (rs := [4]) (by kernel_rfl) (by simp) (AllReadyH.cons rfl (fun K hK => ?_) (AllReadyH.nil))
     obtain ⟨W3, st3, a3, _⟩ := (unhide B2).putB (.int .u32 (cl : Nat)) (.int .u32 (nu : Nat)) (.int .u8 3) (.int .u32 0) (.int .u32 0) (.slice none 0 0) (.slice none 0 0) (fun u hu => by simp at hu; rcases hu with rfl | rfl | rfl | rfl | rfl | rfl | rfl <;> rfl)
     have H3 := hide st3
     have B3 := hide a3
     clear st3 a3
     refine step_stN rfl 45 (.tmp 7) (.tmp 57) rfl _ _ (by simp [Act.eval]) (by simp [Act.eval]) (unhide H3) ?_
     refine hK.out _ _ (unhide B3).s12 (fun hHeld => ?_)
     clear hK K
     (try simp only [Act.put])
     refine wpAnyH_done (by kernel_rfl) ?_ _
     refine NoPanic.normal ?_
     go_wp2_with fail
     refine bodyPost_ret (results_cells2 rfl _ _ (w.heap.size + 2) (w.heap.size + 3) [.slice so sn sc, .slice ro rn rcap] [.int .u32 (cl : Nat), .int .u32 (nu : Nat), .int .u8 3, .int .u32 0, .int .u32 0, .slice none 0 0, .slice none 0 0] _ _ rfl rfl (unhide B3).range.1 (unhide B3).range.2 Tryz.underlying36 rfl (by kernel_rfl) Tryz.underlying45 rfl (by kernel_rfl)) rfl ?_
     exact ⟨by rw [unhide HC3]; rfl, (unhide B3).f⟩
    by_cases hr0 : rc = 0
    ·have o1 : ((op : Int) != 1) = true := by rw [bne_iff_ne]; omega
     have r1 : ((rc : Int) == 0) = true := by rw [beq_iff_eq]; omega
     clear ho hr hr0
     obtain ⟨⟨p0, p1⟩, q0, q1, q2, q3, q4, q5, q6, q7, q8, q9⟩ := (unhide A5).s12
     go_wp2_with fail
     clear p0 p1 q0 q1 q2 q3 q4 q5 q6 q7 q8 q9
     refine wp_region_noPanic ?_
     have B0 := hide ((unhide A5).fr (Fr.refl _ _).drew)
     refine wp_region_held_drew (S := S12W w so sn sc ro rn rcap cl nu ac op rc ve wa ow fo fn fc rs) (by kernel_rfl) (unhide B0).s12 (fun hHeld => ?_)
     refine wtk (i := 0) (v := ?_) rfl (Or.inl ⟨by rfl, ?_⟩) hHeld ?_
     rotate_left
     ·intro w hSw; dsimp only [S12W] at hSw; go_simp; (try with_reducible rfl)
     (try simp only [Act.put, nrm])
     refine wtk (i := 1) (v := ?_) rfl (Or.inl ⟨by rfl, ?_⟩) hHeld ?_
     rotate_left
     ·intro w hSw; dsimp only [S12W] at hSw; go_simp; (try with_reducible rfl)
     (try simp only [Act.put, nrm])
     refine wpAnyH_ready (rs := [2]) (by kernel_rfl) (by simp) (AllReadyH.cons rfl (fun K hK => ?_) (AllReadyH.nil))
     go_simp
     refine ((unhide HRf) 3 _).mono ?_
     rintro e w1 ⟨rfl, f1⟩
     have B1 := hide ((unhide B0).fr f1)
     clear f1
     go_simp
     refine hK.out _ _ (unhide B1).s12 (fun hHeld => ?_)
     clear hK K
     (try simp only [Act.put, nrm])
     refine wpAnyH_ready (rs := [3]) (by kernel_rfl) (by simp) (AllReadyH.cons rfl (fun K hK => ?_) (AllReadyH.nil))
     obtain ⟨W2, st2, a2, _⟩ := (unhide B1).putA (.slice so sn sc) (.slice ro rn rcap) (fun u hu => by simp at hu; rcases hu with rfl | rfl <;> rfl)
     have H2 := hide st2
     have B2 := hide a2
     clear st2 a2
     refine step_stN rfl 36 (.tmp 6) (.tmp 55) rfl _ _ (by simp [Act.eval]) (by simp [Act.eval]) (unhide H2) ?_
     refine hK.out _ _ (unhide B2).s12 (fun hHeld => ?_)
     clear hK K
     (try simp only [Act.put])
     refine wpAnyH_ready (rs := [4]) (by kernel_rfl) (by simp) (AllReadyH.cons rfl (fun K hK => ?_) (AllReadyH.nil))
     obtain ⟨W3, st3, a3, _⟩ := (unhide B2).putB (.int .u32 (cl : Nat)) (.int .u32 (nu : Nat)) (.int .u8 3) (.int .u32 0) (.int .u32 0) (.slice none 0 0) (.slice none 0 0) (fun u hu => by simp at hu; rcases hu with rfl | rfl | rfl | rfl | rfl | rfl | rfl <;> rfl)
     have H3 := hide st3
     have B3 := hide a3
     clear st3 a3
     refine step_stN rfl 45 (.tmp 7) (.tmp 57) rfl _ _ (by simp [Act.eval]) (by simp [Act.eval]) (unhide H3) ?_
     refine hK.out _ _ (unhide B3).s12 (fun hHeld => ?_)
     clear hK K
     (try simp only [Act.put])
     refine wpAnyH_done (by kernel_rfl) ?_ _
     refine NoPanic.normal ?_
     go_wp2_with fail
     refine bodyPost_ret (results_cells2 rfl _ _ (w.heap.size + 2) (w.heap.size + 3) [.slice so sn sc, .slice ro rn rcap] [.int .u32 (cl : Nat), .int .u32 (nu : Nat), .int .u8 3, .int .u32 0, .int .u32 0, .slice none 0 0, .slice none 0 0] _ _ rfl rfl (unhide B3).range.1 (unhide B3).range.2 Tryz.underlying36 rfl (by kernel_rfl) Tryz.underlying45 rfl (by kernel_rfl)) rfl ?_
     exact ⟨by rw [unhide HC3]; rfl, (unhide B3).f⟩
    have o1 : ((op : Int) != 1) = true := by rw [bne_iff_ne]; omega
    have r1 : ((rc : Int) == 0) = false := by rw [beq_eq_false_iff_ne]; omega
    have r2 : IntKind.i64.wrap (rc : Int) = (rc : Int) := by rw [IntKind.wrap_i64]; omega
    have r3 : rn < rc := by omega
    have r4 : (rn : Int) < (rc : Int) := by omega
    clear ho hr hr0
    obtain ⟨⟨p0, p1⟩, q0, q1, q2, q3, q4, q5, q6, q7, q8, q9⟩ := (unhide A5).s12
    go_wp2_with fail
    clear p0 p1 q0 q1 q2 q3 q4 q5 q6 q7 q8 q9
    refine wp_region_noPanic ?_
    have B0 := hide ((unhide A5).fr (Fr.refl _ _).drew)
    refine wp_region_held_drew (S := S12W w so sn sc ro rn rcap cl nu ac op rc ve wa ow fo fn fc rs) (by kernel_rfl) (unhide B0).s12 (fun hHeld => ?_)
    refine wtk (i := 0) (v := ?_) rfl (Or.inl ⟨by rfl, ?_⟩) hHeld ?_
    rotate_left
    ·intro w hSw; dsimp only [S12W] at hSw; go_simp; (try with_reducible rfl)
    (try simp only [Act.put, nrm])
    refine wtk (i := 1) (v := ?_) rfl (Or.inl ⟨by rfl, ?_⟩) hHeld ?_
    rotate_left
    ·intro w hSw; dsimp only [S12W] at hSw; go_simp; (try with_reducible rfl)
    (try simp only [Act.put, nrm])
    refine wpAnyH_ready (rs := [2]) (by kernel_rfl) (by simp) (AllReadyH.cons rfl (fun K hK => ?_) (AllReadyH.nil))
    go_simp
    refine ((unhide HRf) 3 _).mono ?_
    rintro e w1 ⟨rfl, f1⟩
    have B1 := hide ((unhide B0).fr f1)
    clear f1
    go_simp
    refine hK.out _ _ (unhide B1).s12 (fun hHeld => ?_)
    clear hK K
    (try simp only [Act.put, nrm])
    refine wpAnyH_ready (rs := [3]) (by kernel_rfl) (by simp) (AllReadyH.cons rfl (fun K hK => ?_) (AllReadyH.nil))
    obtain ⟨W2, st2, a2, _⟩ := (unhide B1).putA (.slice so sn sc) (.slice ro rn rcap) (fun u hu => by simp at hu; rcases hu with rfl | rfl <;> rfl)
    have H2 := hide st2
    have B2 := hide a2
    clear st2 a2
    refine step_stN rfl 36 (.tmp 6) (.tmp 55) rfl _ _ (by simp [Act.eval]) (by simp [Act.eval]) (unhide H2) ?_
    refine hK.out _ _ (unhide B2).s12 (fun hHeld => ?_)
    clear hK K
    (try simp only [Act.put])
    refine wpAnyH_ready (rs := [4]) (by kernel_rfl) (by simp) (AllReadyH.cons rfl (fun K hK => ?_) (AllReadyH.nil))
    obtain ⟨W3, st3, a3, _⟩ := (unhide B2).putB (.int .u32 (cl : Nat)) (.int .u32 (nu : Nat)) (.int .u8 3) (.int .u32 0) (.int .u32 0) (.slice none 0 0) (.slice none 0 0) (fun u hu => by simp at hu; rcases hu with rfl | rfl | rfl | rfl | rfl | rfl | rfl <;> rfl)
    have H3 := hide st3
    have B3 := hide a3
    clear st3 a3
    refine step_stN rfl 45 (.tmp 7) (.tmp 57) rfl _ _ (by simp [Act.eval]) (by simp [Act.eval]) (unhide H3) ?_
    refine hK.out _ _ (unhide B3).s12 (fun hHeld => ?_)
    clear hK K
    (try simp only [Act.put])
    refine wpAnyH_done (by kernel_rfl) ?_ _
    refine NoPanic.normal ?_
    go_wp2_with fail
    refine bodyPost_ret (results_cells2 rfl _ _ (w.heap.size + 2) (w.heap.size + 3) [.slice so sn sc, .slice ro rn rcap] [.int .u32 (cl : Nat), .int .u32 (nu : Nat), .int .u8 3, .int .u32 0, .int .u32 0, .slice none 0 0, .slice none 0 0] _ _ rfl rfl (unhide B3).range.1 (unhide B3).range.2 Tryz.underlying36 rfl (by kernel_rfl) Tryz.underlying45 rfl (by kernel_rfl)) rfl ?_
    exact ⟨by rw [unhide HC3]; rfl, (unhide B3).f⟩
   have o1 : ((op : Int) != 1) = true := by rw [bne_iff_ne]; omega
   have hr0 : ¬ rc = 0 := fun e => hr (.inl e)
   have hrn : rc ≤ rn := by omega
   have r1 : ((rc : Int) == 0) = false := by rw [beq_eq_false_iff_ne]; omega
   have r2 : IntKind.i64.wrap (rc : Int) = (rc : Int) := by rw [IntKind.wrap_i64]; omega
   have r3 : ¬ rn < rc := by omega
   have r4 : ¬ (rn : Int) < (rc : Int) := by omega
   obtain ⟨hj0, hcj⟩ := (unhide HH).2.2.2 (by trivial) (unhide HZ) (.inr ⟨hr0, hrn⟩)
   have HJd := hide ((unhide HJ0) (by trivial) (unhide HZ) (.inr ⟨hr0, hrn⟩))
   have j1 : ((jc : Int) != 0) = true := by rw [bne_iff_ne]; omega
   have HCJ := hide hcj
   clear hcj hj0
   clear ho hr hr0 hrn
   obtain ⟨⟨p0, p1⟩, q0, q1, q2, q3, q4, q5, q6, q7, q8, q9⟩ := (unhide A5).s12
   go_wp2_with fail
   refine ((unhide HJd) _ (unhide A5).f).mono ?_
   rintro e w7 ⟨rfl, f7⟩
   have A7 := hide ((unhide A5).fr f7)
   clear f7 A5
   go_wp2_with fail
   clear p0 p1 q0 q1 q2 q3 q4 q5 q6 q7 q8 q9
   refine wp_region_noPanic ?_
   have B0 := hide ((unhide A7).fr (Fr.refl _ _).drew)
   refine wp_region_held_drew (S := S12W w so sn sc ro rn rcap cl nu ac op rc ve wa ow fo fn fc rs) (by kernel_rfl) (unhide B0).s12 (fun hHeld => ?_)
   refine wtk (i := 0) (v := ?_) rfl (Or.inl ⟨by rfl, ?_⟩) hHeld ?_
   rotate_left
   ·intro w hSw; dsimp only [S12W] at hSw; go_simp; (try with_reducible rfl)
   (try simp only [Act.put, nrm])
   refine wtk (i := 1) (v := ?_) rfl (Or.inl ⟨by rfl, ?_⟩) hHeld ?_
   rotate_left
   ·intro w hSw; dsimp only [S12W] at hSw; go_simp; (try with_reducible rfl)
   (try simp only [Act.put, nrm])
   refine wtk (i := 2) (v := ?_) rfl (Or.inl ⟨by rfl, ?_⟩) hHeld ?_
   rotate_left
   ·intro w hSw; dsimp only [S12W] at hSw; go_simp; (try with_reducible rfl)
   (try simp only [Act.put, nrm])
   refine wpAnyH_ready (rs := [3]) (by kernel_rfl) (by simp) (AllReadyH.cons rfl (fun K hK => ?_) (AllReadyH.nil))
   go_simp
   refine ((unhide HRf) jc _).mono ?_
   rintro e w1 ⟨rfl, f1⟩
   have B1 := hide ((unhide B0).fr f1)
   clear f1
   go_simp
   refine hK.out _ _ (unhide B1).s12 (fun hHeld => ?_)
   clear hK K
   (try simp only [Act.put, nrm])
   refine wpAnyH_ready (rs := [4]) (by kernel_rfl) (by simp) (AllReadyH.cons rfl (fun K hK => ?_) (AllReadyH.nil))
   obtain ⟨W2, st2, a2, _⟩ := (unhide B1).putA (.slice so sn sc) (.slice ro rn rcap) (fun u hu => by simp at hu; rcases hu with rfl | rfl <;> rfl)
   have H2 := hide st2
   have B2 := hide a2
   clear st2 a2
   refine step_stN rfl 36 (.tmp 6) (.tmp 63) rfl _ _ (by simp [Act.eval]) (by simp [Act.eval]) (unhide H2) ?_
   refine hK.out _ _ (unhide B2).s12 (fun hHeld => ?_)
   clear hK K
   (try simp only [Act.put])
   refine wpAnyH_ready (rs := [5]) (by kernel_rfl) (by simp) (AllReadyH.cons rfl (fun K hK => ?_) (AllReadyH.nil))
   obtain ⟨W3, st3, a3, _⟩ := (unhide B2).putB (.int .u32 (cl : Nat)) (.int .u32 (nu : Nat)) (.int .u8 (jc : Nat)) (.int .u32 0) (.int .u32 0) (.slice none 0 0) (.slice none 0 0) (fun u hu => by simp at hu; rcases hu with rfl | rfl | rfl | rfl | rfl | rfl | rfl <;> rfl)
   have H3 := hide st3
   have B3 := hide a3
   clear st3 a3
   refine step_stN rfl 45 (.tmp 7) (.tmp 66) rfl _ _ (by simp [Act.eval]) (by simp [Act.eval]) (unhide H3) ?_
   refine hK.out _ _ (unhide B3).s12 (fun hHeld => ?_)
   clear hK K
   (try simp only [Act.put])
   refine wpAnyH_done (by kernel_rfl) ?_ _
   refine NoPanic.normal ?_
   go_wp2_with fail
   refine bodyPost_ret (results_cells2 rfl _ _ (w.heap.size + 2) (w.heap.size + 3) [.slice so sn sc, .slice ro rn rcap] [.int .u32 (cl : Nat), .int .u32 (nu : Nat), .int .u8 (jc : Nat), .int .u32 0, .int .u32 0, .slice none 0 0, .slice none 0 0] _ _ rfl rfl (unhide B3).range.1 (unhide B3).range.2 Tryz.underlying36 rfl (by kernel_rfl) Tryz.underlying45 rfl (by kernel_rfl)) rfl ?_
   exact ⟨by rw [unhide HCJ], (unhide B3).f⟩
set_option maxHeartbeats 4000000 in
set_option maxRecDepth 100000 in
theorem gapply_create (so : Option Addr) (sn sc : Nat) (ro : Option Addr) (rn rcap : Nat) (cl nu ac op rc ve wa ow : Nat) (fo : Option Addr) (fn fc : Nat) (rs : ByteArray) (place : Nat) (w : World) (HFo : Hid (FoH w cl nu ac op rc ve wa ow fo fn fc rs true)) (z : Int) (HFd : Hid (FdH w so sn sc ac z)) (hz : ¬ z < 0) (jc : Nat) (HJd : Hid (JdH w so sn sc ro rn rcap cl nu ac op rc ve wa ow fo fn fc rs jc)) (hj : jc = 0) (ho : op = 1) (hn : rn ≤ 256) (S : List P3) (L : List GC) (T : Nat → Prop) (F : List F5) (hst : GSt w T (.slice so sn sc) (.slice ro rn rcap) S L) (hF : Fds w (.slice fo fn fc) F) (hFT : ∀ k, Blk (.slice fo fn fc) k → T k) (hone : ∀ y ∈ L, y.one) :
  Calls Tryz.prog 12 #[.agg #[.slice so sn sc, .slice ro rn rcap], .agg #[.int .u32 (cl : Nat), .int .u32 (nu : Nat), .int .u32 (ac : Nat), .int .u8 (op : Nat), .int .u32 (rc : Nat), .int .u32 (ve : Nat), .int .u32 (wa : Nat), .int .u32 (ow : Nat), .slice fo fn fc, .string rs], .int .u32 (place : Nat)] w fun e w' => (rn = 256 ∧ RefP w so sn sc ro rn rcap cl nu 9 e w') ∨ (¬ rn = 256 ∧ ∃ v vb, e = .returned (.tuple #[.agg #[.slice so sn sc, v], .agg #[.int .u32 (cl : Nat), .int .u32 (nu : Nat), .int .u8 0, .int .u32 ((rn : Int) + 1), .int .u32 1, .slice none 0 0, .slice none 0 0]]) ∧ GSt w' (fun k => T k ∨ w.heap.size ≤ k) (.slice so sn sc) v S (L ++ [(⟨wa, ow, false, [], [⟨⟨ac, place, F, false⟩, .slice fo fn fc⟩], .slice none 0 0, .slice (some ⟨vb, 0, none⟩) 1 1⟩ : GC)]) ∧ Fr (fun _ => False) w w') := by
 have o1 : ((op : Int) != 1) = false := by rw [bne_eq_false_iff_eq]; omega
 have o2 : ((op : Int) == 1) = true := by rw [beq_iff_eq]; omega
 have z1 : decide (z < 0) = false := decide_eq_false (by omega)
 have z2 : ¬ z < 0 := by omega
 have j1 : ((jc : Int) != 0) = false := by rw [bne_eq_false_iff_eq]; omega
 have hrn : L.length = rn := by
  obtain ⟨_, _, e⟩ := hst.r.form
  cases e
  rfl
 have HN := hide hn
 have HG0 := hide (And.intro hst (And.intro hF (And.intro hFT (And.intro hone hrn))))
 clear ho hz hj hst hF hFT hone hrn hn
 obtain ⟨W4, hW4, a4⟩ := ab_new w so sn sc ro rn rcap cl nu ac op rc ve wa ow fo fn fc rs
 have A4 := hide a4
 clear a4
 have HRf := hide (fun (co : Nat) W => grefused_any cl nu ac op rc ve wa ow co fo fn fc rs W)
 go_enter Tryz.func12, Tryz.ntmps12
 go_wp2_with fail
 rw [← hW4]
 clear hW4
 refine ((unhide HFo) _ (unhide A4).f).mono ?_
 rintro e w5 ⟨rfl, hf5⟩
 have A5 := hide ((unhide A4).fr hf5)
 clear hf5 A4
 obtain ⟨⟨p0, p1⟩, q0, q1, q2, q3, q4, q5, q6, q7, q8, q9⟩ := (unhide A5).s12
 go_wp2_with fail
 refine ((unhide HFd) _ (unhide A5).f).mono ?_
 rintro e w6 ⟨rfl, hw6⟩
 obtain rfl := hw6.symm
 clear hw6
 clear p0 p1 q0 q1 q2 q3 q4 q5 q6 q7 q8 q9
 obtain ⟨⟨p0, p1⟩, q0, q1, q2, q3, q4, q5, q6, q7, q8, q9⟩ := (unhide A5).s12
 go_wp2_with fail
 refine ((unhide HJd) _ (unhide A5).f).mono ?_
 rintro e w7 ⟨rfl, f7⟩
 have A7 := hide ((unhide A5).fr f7)
 clear f7 A5
 obtain ⟨⟨p0, p1⟩, q0, q1, q2, q3, q4, q5, q6, q7, q8, q9⟩ := (unhide A7).s12
 have l0 := lt_of_block (unhide A7).s
 have l1 := lt_of_block (unhide A7).r
 by_cases hn : rn = 256
 ·have n1 : ((rn : Int) == 256) = true := by rw [beq_iff_eq]; omega
  have HN2 := hide hn
  clear hn
  go_wp2_with fail
  clear p0 p1 q0 q1 q2 q3 q4 q5 q6 q7 q8 q9
  have A8 := hide ((unhide A7).fr (box1 w7 (.cells #[.int .u32 (cl : Nat), .int .u32 (nu : Nat), .int .u8 0, .int .u32 (rc : Nat), .int .u32 0, .slice none 0 0, .slice none 0 0] 45)))
  refine wp_region_noPanic ?_
  have B0 := hide ((unhide A8).fr (Fr.refl _ _).drew)
  refine wp_region_held_drew (S := S12W w so sn sc ro rn rcap cl nu ac op rc ve wa ow fo fn fc rs) (by kernel_rfl) (unhide B0).s12 (fun hHeld => ?_)
  refine wtk (i := 0) (v := ?_) rfl (Or.inl ⟨by rfl, ?_⟩) hHeld ?_
  rotate_left
  ·intro w hSw; dsimp only [S12W] at hSw; go_simp; (try with_reducible rfl)
  (try simp only [Act.put, nrm])
  refine wtk (i := 1) (v := ?_) rfl (Or.inl ⟨by rfl, ?_⟩) hHeld ?_
  rotate_left
  ·intro w hSw; dsimp only [S12W] at hSw; go_simp; (try with_reducible rfl)
  (try simp only [Act.put, nrm])
  refine wpAnyH_ready (rs := [2]) (by kernel_rfl) (by simp) (AllReadyH.cons rfl (fun K hK => ?_) (AllReadyH.nil))
  go_simp
  refine ((unhide HRf) 9 _).mono ?_
  rintro e w1 ⟨rfl, f1⟩
  have B1 := hide ((unhide B0).fr f1)
  clear f1
  go_simp
  refine hK.out _ _ (unhide B1).s12 (fun hHeld => ?_)
  clear hK K
  (try simp only [Act.put, nrm])
  refine wpAnyH_ready (rs := [3]) (by kernel_rfl) (by simp) (AllReadyH.cons rfl (fun K hK => ?_) (AllReadyH.nil))
  obtain ⟨W2, st2, a2, _⟩ := (unhide B1).putA (.slice so sn sc) (.slice ro rn rcap) (fun u hu => by simp at hu; rcases hu with rfl | rfl <;> rfl)
  have H2 := hide st2
  have B2 := hide a2
  clear st2 a2
  refine step_stN rfl 36 (.tmp 6) (.tmp 79) rfl _ _ (by simp [Act.eval]) (by simp [Act.eval]) (unhide H2) ?_
  refine hK.out _ _ (unhide B2).s12 (fun hHeld => ?_)
  clear hK K
  (try simp only [Act.put])
  refine wpAnyH_ready (rs := [4]) (by kernel_rfl) (by simp) (AllReadyH.cons rfl (fun K hK => ?_) (AllReadyH.nil))
  obtain ⟨W3, st3, a3, _⟩ := (unhide B2).putB (.int .u32 (cl : Nat)) (.int .u32 (nu : Nat)) (.int .u8 9) (.int .u32 0) (.int .u32 0) (.slice none 0 0) (.slice none 0 0) (fun u hu => by simp at hu; rcases hu with rfl | rfl | rfl | rfl | rfl | rfl | rfl <;> rfl)
  have H3 := hide st3
  have B3 := hide a3
  clear st3 a3
  refine step_stN rfl 45 (.tmp 7) (.tmp 81) rfl _ _ (by simp [Act.eval]) (by simp [Act.eval]) (unhide H3) ?_
  refine hK.out _ _ (unhide B3).s12 (fun hHeld => ?_)
  clear hK K
  (try simp only [Act.put])
  refine wpAnyH_done (by kernel_rfl) ?_ _
  refine NoPanic.normal ?_
  go_wp2_with fail
  refine bodyPost_ret (results_cells2 rfl _ _ (w.heap.size + 2) (w.heap.size + 3) [.slice so sn sc, .slice ro rn rcap] [.int .u32 (cl : Nat), .int .u32 (nu : Nat), .int .u8 9, .int .u32 0, .int .u32 0, .slice none 0 0, .slice none 0 0] _ _ rfl rfl (unhide B3).range.1 (unhide B3).range.2 Tryz.underlying36 rfl (by kernel_rfl) Tryz.underlying45 rfl (by kernel_rfl)) rfl ?_
  exact .inl ⟨unhide HN2, rfl, (unhide B3).f⟩
 have n1 : ((rn : Int) == 256) = false := by rw [beq_eq_false_iff_ne]; omega
 have n2 : IntKind.i64.wrap ((rn : Int) + 1) = (rn : Int) + 1 := by have := unhide HN; rw [IntKind.wrap_i64]; omega
 have n3 : IntKind.u32.wrap ((rn : Int) + 1) = (rn : Int) + 1 := by have := unhide HN; rw [IntKind.wrap_u32]; omega
 have HN2 := hide hn
 have HG := hide (And.intro (unhide HG0).1 (And.intro (unhide HG0).2.1 (And.intro (unhide HG0).2.2.1 (And.intro (unhide HG0).2.2.2.1 (And.intro (unhide HG0).2.2.2.2 (show rn < 256 by have := unhide HN; omega))))))
 clear hn HRf HG0
 go_wp2_with fail
 clear p0 p1 q0 q1 q2 q3 q4 q5 q6 q7 q8 q9 l0 l1
 obtain ⟨b9, hb9⟩ : ∃ b9, b9 = w7.heap.size := ⟨_, rfl⟩
 obtain ⟨WA, hWA⟩ : ∃ WA, WA = w7.alloc (.cells #[.int .u32 (cl : Nat), .int .u32 (nu : Nat), .int .u8 0, .int .u32 ((rn : Int) + 1), .int .u32 1, .slice none 0 0, .slice none 0 0] 45) := ⟨_, rfl⟩
 have A8 : Hid (AB w WA (.slice so sn sc) (.slice ro rn rcap) #[.int .u32 (cl : Nat), .int .u32 (nu : Nat), .int .u32 (ac : Nat), .int .u8 (op : Nat), .int .u32 (rc : Nat), .int .u32 (ve : Nat), .int .u32 (wa : Nat), .int .u32 (ow : Nat), .slice fo fn fc, .string rs] #[.slice none 0 0, .slice none 0 0] #[.int .u32 0, .int .u32 0, .int .u8 0, .int .u32 0, .int .u32 0, .slice none 0 0, .slice none 0 0] ∧ WA.heap[b9]? = some (.cells #[.int .u32 (cl : Nat), .int .u32 (nu : Nat), .int .u8 0, .int .u32 ((rn : Int) + 1), .int .u32 1, .slice none 0 0, .slice none 0 0] 45)) := ⟨by rw [hWA]; exact (unhide A7).fr (box1 w7 _), by rw [hWA, hb9]; exact Array.getElem?_push_size⟩
 have B9L := hide (show w.heap.size + 4 ≤ b9 by have := lt_of_block (unhide A7).b; omega)
 rw [← hWA, ← hb9]
 clear hWA hb9 A7
 refine wp_region_noPanic ?_
 refine wp_region_held_drew (S := S19W w so sn sc ro rn rcap cl nu ac op rc ve wa ow fo fn fc rs b9 (.int .u32 (cl : Nat)) (.int .u32 (nu : Nat)) (.int .u8 0) (.int .u32 ((rn : Int) + 1)) (.int .u32 1) (.slice none 0 0) (.slice none 0 0)) (by kernel_rfl) (((unhide A8).1.fr (Fr.refl _ _).drew).s19 (unhide A8).2) (fun hHeld => ?_)
 refine wtk (i := 0) (v := ?_) rfl (Or.inl ⟨by rfl, ?_⟩) hHeld ?_
 rotate_left
 ·intro w hSw; dsimp only [S19W, S12W] at hSw; go_simp; (try with_reducible rfl)
 (try simp only [Act.put, nrm])
 refine wtk (i := 1) (v := ?_) rfl (Or.inl ⟨by rfl, ?_⟩) hHeld ?_
 rotate_left
 ·intro w hSw; dsimp only [S19W, S12W] at hSw; go_simp; (try with_reducible rfl)
 (try simp only [Act.put, nrm])
 refine wtk (i := 2) (v := ?_) rfl (Or.inl ⟨by rfl, ?_⟩) hHeld ?_
 rotate_left
 ·intro w hSw; dsimp only [S19W, S12W] at hSw; go_simp; (try with_reducible rfl)
 (try simp only [Act.put, nrm])
 refine wtk (i := 3) (v := ?_) rfl (Or.inl ⟨by rfl, ?_⟩) hHeld ?_
 rotate_left
 ·intro w hSw; dsimp only [S19W, S12W] at hSw; go_simp; (try with_reducible rfl)
 (try simp only [Act.put, nrm])
 refine wtk (i := 4) (v := ?_) rfl (Or.inl ⟨by rfl, ?_⟩) hHeld ?_
 rotate_left
 ·intro w hSw; dsimp only [S19W, S12W] at hSw; go_simp; (try with_reducible rfl)
 (try simp only [Act.put, nrm])
 refine wtk (i := 5) (v := ?_) rfl (Or.inl ⟨by rfl, ?_⟩) hHeld ?_
 rotate_left
 ·intro w hSw; dsimp only [S19W, S12W] at hSw; go_simp; (try with_reducible rfl)
 (try simp only [Act.put, nrm])
 refine wtk (i := 6) (v := ?_) rfl (Or.inl ⟨by rfl, ?_⟩) hHeld ?_
 rotate_left
 ·intro w hSw; dsimp only [S19W, S12W] at hSw; go_simp; (try with_reducible rfl)
 (try simp only [Act.put, nrm])
 refine wtk (i := 7) (v := ?_) rfl (Or.inl ⟨by rfl, ?_⟩) hHeld ?_
 rotate_left
 ·intro w hSw; dsimp only [S19W, S12W] at hSw; go_simp; (try with_reducible rfl)
 (try simp only [Act.put, nrm])
 refine wtk (i := 8) (v := ?_) rfl (Or.inl ⟨by rfl, ?_⟩) hHeld ?_
 rotate_left
 ·intro w hSw; dsimp only [S19W, S12W] at hSw; go_simp; (try with_reducible rfl)
 (try simp only [Act.put, nrm])
 refine wtk (i := 9) (v := ?_) rfl (Or.inl ⟨by rfl, ?_⟩) hHeld ?_
 rotate_left
 ·intro w hSw; dsimp only [S19W, S12W] at hSw; go_simp; (try with_reducible rfl)
 (try simp only [Act.put, nrm])
 refine wtk (i := 10) (v := ?_) rfl (Or.inl ⟨by rfl, ?_⟩) hHeld ?_
 rotate_left
 ·intro w hSw; dsimp only [S19W, S12W] at hSw; go_simp; (try with_reducible rfl)
 (try simp only [Act.put, nrm])
 refine wtk (i := 11) (v := ?_) rfl (Or.inl ⟨by rfl, ?_⟩) hHeld ?_
 rotate_left
 ·intro w hSw; dsimp only [S19W, S12W] at hSw; go_simp; (try with_reducible rfl)
 (try simp only [Act.put, nrm])
 refine wtk (i := 12) (v := ?_) rfl (Or.inl ⟨by rfl, ?_⟩) hHeld ?_
 rotate_left
 ·intro w hSw; dsimp only [S19W, S12W] at hSw; go_simp; (try with_reducible rfl)
 (try simp only [Act.put, nrm])
 refine wtk (i := 13) (v := ?_) rfl (Or.inl ⟨by rfl, ?_⟩) hHeld ?_
 rotate_left
 ·intro w hSw; dsimp only [S19W, S12W] at hSw; go_simp; (try with_reducible rfl)
 (try simp only [Act.put, nrm])
 refine wtk (i := 14) (v := ?_) rfl (Or.inl ⟨by rfl, ?_⟩) hHeld ?_
 rotate_left
 ·intro w hSw; dsimp only [S19W, S12W] at hSw; go_simp; (try with_reducible rfl)
 (try simp only [Act.put, nrm])
 refine wtk (i := 18) (v := ?_) rfl (Or.inl ⟨by rfl, ?_⟩) hHeld ?_
 rotate_left
 ·intro w hSw; dsimp only [S19W, S12W] at hSw; go_simp; (try with_reducible rfl)
 (try simp only [Act.put, nrm])
 refine wpAnyH_ready (rs := [15]) (by kernel_rfl) (by simp) (AllReadyH.cons rfl (fun K hK => ?_) (AllReadyH.nil))
 go_simp
 obtain ⟨vb, hvb⟩ : ∃ vb, vb = WA.heap.size := ⟨_, rfl⟩
 obtain ⟨WB, hWB⟩ : ∃ WB, WB = (WA.alloc (.cells #[.int .u32 (ac : Nat), .int .u32 (place : Nat), .slice fo fn fc, .bool false] 75)).drew := ⟨_, rfl⟩
 rw [← hWB, ← hvb]
 have hfB : Fr (fun _ => False) WA WB := by rw [hWB]; exact (box1 WA _).drew
 have hkB : WB.heap[vb]? = some (.cells #[.int .u32 (ac : Nat), .int .u32 (place : Nat), .slice fo fn fc, .bool false] 75) := by rw [hWB, hvb]; exact Array.getElem?_push_size
 have hvw : w.heap.size + 4 ≤ vb := by rw [hvb]; have := lt_of_block (unhide A8).1.b; omega
 have B1 := hide ((unhide A8).1.fr hfB)
 have K1 := hide ((hfB.block b9 (lt_of_block (unhide A8).2) (fun h => h)).trans (unhide A8).2)
 have KV := hide (And.intro hkB hvw)
 clear hWB hvb hfB hkB hvw
 refine hK.out _ _ ((unhide B1).s19 (unhide K1)) (fun hHeld => ?_)
 clear hK K
 (try simp only [Act.put, nrm])
 refine wtk (i := 16) (v := ?_) rfl (Or.inl ⟨by rfl, ?_⟩) hHeld ?_
 rotate_left
 ·intro w hSw; dsimp only [S19W, S12W] at hSw; go_simp; (try with_reducible rfl)
 (try simp only [Act.put, nrm])
 refine wpAnyH_ready (rs := [17]) (by kernel_rfl) (by simp) (AllReadyH.cons rfl (fun K hK => ?_) (AllReadyH.nil))
 go_simp
 have HP := hide (gput_any so sn sc (.slice ro rn rcap) L rn (⟨wa, ow, false, [], [⟨⟨ac, place, F, false⟩, .slice fo fn fc⟩], .slice none 0 0, .slice (some ⟨vb, 0, none⟩) 1 1⟩ : GC) WB ((unhide HG).1.fr (unhide B1).f).r (unhide HG).2.2.2.1 ⟨rfl, rfl⟩ (by have := (unhide HG).2.2.2.2; omega) (by have := (unhide HG).2.2.2.2.1; omega))
 refine (unhide HP).mono ?_
 rintro e w9 ⟨v, rfl, hov, f9⟩
 rw [show putL L rn (⟨wa, ow, false, [], [⟨⟨ac, place, F, false⟩, .slice fo fn fc⟩], .slice none 0 0, .slice (some ⟨vb, 0, none⟩) 1 1⟩ : GC) = L ++ [(⟨wa, ow, false, [], [⟨⟨ac, place, F, false⟩, .slice fo fn fc⟩], .slice none 0 0, .slice (some ⟨vb, 0, none⟩) 1 1⟩ : GC)] from if_pos (unhide HG).2.2.2.2.1.symm] at hov
 obtain ⟨vo, vc, rfl⟩ := own_formX hov
 have B2 := hide ((unhide B1).fr f9)
 have K2 := hide ((f9.block b9 (lt_of_block (unhide K1)) (fun h => h)).trans (unhide K1))
 have KV2 := hide ((f9.block vb (lt_of_block (unhide KV).1) (fun h => h)).trans (unhide KV).1)
 have HOV := hide hov
 have hzB : w.heap.size + 4 ≤ WB.heap.size := by have := lt_of_block (unhide B1).b; omega
 have HZ := hide hzB
 clear hov f9 HP hzB
 go_simp
 refine hK.out _ _ ((unhide B2).s19 (unhide K2)) (fun hHeld => ?_)
 clear hK K
 (try simp only [Act.put, nrm])
 refine wpAnyH_ready (rs := [19]) (by kernel_rfl) (by simp) (AllReadyH.cons rfl (fun K hK => ?_) (AllReadyH.nil))
 obtain ⟨W10, st10, a10, fa10⟩ := (unhide B2).putA (.slice so sn sc) (.slice vo (L ++ [(⟨wa, ow, false, [], [⟨⟨ac, place, F, false⟩, .slice fo fn fc⟩], .slice none 0 0, .slice (some ⟨vb, 0, none⟩) 1 1⟩ : GC)]).length vc) (fun u hu => by simp at hu; rcases hu with rfl | rfl <;> rfl)
 have H10 := hide st10
 have B3 := hide (And.intro a10 fa10)
 have K3 := hide ((fa10.block b9 (lt_of_block (unhide K2)) (fun e => by have := (unhide B9L); omega)).trans (unhide K2))
 clear st10 a10 fa10
 refine step_stN rfl 36 (.tmp 6) (.tmp 106) rfl _ _ (by simp [Act.eval]) (by simp [Act.eval]) (unhide H10) ?_
 refine hK.out _ _ ((unhide B3).1.s19 (unhide K3)) (fun hHeld => ?_)
 clear hK K
 (try simp only [Act.put])
 refine wpAnyH_ready (rs := [20]) (by kernel_rfl) (by simp) (AllReadyH.cons rfl (fun K hK => ?_) (AllReadyH.nil))
 obtain ⟨W11, st11, a11, fa11⟩ := (unhide B3).1.putB (.int .u32 (cl : Nat)) (.int .u32 (nu : Nat)) (.int .u8 0) (.int .u32 ((rn : Int) + 1)) (.int .u32 1) (.slice none 0 0) (.slice none 0 0) (fun u hu => by simp at hu; rcases hu with rfl | rfl | rfl | rfl | rfl | rfl | rfl <;> rfl)
 have H11 := hide st11
 have B4 := hide (And.intro a11 fa11)
 have K4 := hide ((fa11.block b9 (lt_of_block (unhide K3)) (fun e => by have := (unhide B9L); omega)).trans (unhide K3))
 clear st11 a11 fa11
 refine step_stN rfl 45 (.tmp 7) (.tmp 107) rfl _ _ (by simp [Act.eval]) (by simp [Act.eval]) (unhide H11) ?_
 refine hK.out _ _ ((unhide B4).1.s19 (unhide K4)) (fun hHeld => ?_)
 clear hK K
 (try simp only [Act.put])
 refine wpAnyH_done (by kernel_rfl) ?_ _
 refine NoPanic.normal ?_
 go_wp2_with fail
 refine bodyPost_ret (results_cells2 rfl _ _ (w.heap.size + 2) (w.heap.size + 3) [.slice so sn sc, .slice vo (L ++ [(⟨wa, ow, false, [], [⟨⟨ac, place, F, false⟩, .slice fo fn fc⟩], .slice none 0 0, .slice (some ⟨vb, 0, none⟩) 1 1⟩ : GC)]).length vc] [.int .u32 (cl : Nat), .int .u32 (nu : Nat), .int .u8 0, .int .u32 ((rn : Int) + 1), .int .u32 1, .slice none 0 0, .slice none 0 0] _ _ rfl rfl (unhide B4).1.range.1 (unhide B4).1.range.2 Tryz.underlying36 rfl (by kernel_rfl) Tryz.underlying45 rfl (by kernel_rfl)) rfl ?_
 have hfw := (unhide B4).1.f
 have hown := ownsRow_of_block (ownsRow_of_block (unhide HOV) (fun g hg => (unhide B3).2.block g ((unhide HOV).lt g hg).2 (fun e => by have := ((unhide HOV).lt g hg).1; have := unhide HZ; omega))) (fun g hg => (unhide B4).2.block g (Nat.lt_of_lt_of_le ((unhide HOV).lt g hg).2 (unhide B3).2.size) (fun e => by have := ((unhide HOV).lt g hg).1; have := unhide HZ; omega))
 have hkv := ((unhide B4).2.block vb (Nat.lt_of_lt_of_le (lt_of_block (unhide KV2)) (unhide B3).2.size) (fun e => by have := (unhide KV).2; omega)).trans (((unhide B3).2.block vb (lt_of_block (unhide KV2)) (fun e => by have := (unhide KV).2; omega)).trans (unhide KV2))
 refine .inr ⟨unhide HN2, _, vb, rfl, ⟨(unhide HG).1.s.fr hfw, fun k hk => .inl ((unhide HG).1.sb k hk), own_rd hown, fun k hk => .inr (by have := (own_blkX hown hk).1; have := unhide HZ; omega), fun y hy => ?_⟩, hfw⟩
 rcases List.mem_append.1 hy with hy | hy
 ·exact (((unhide HG).1.c y hy).frS hfw (fun _ h => h.elim)).mono (fun k hk => .inl hk)
 ·rw [List.mem_singleton] at hy
  subst hy
  refine ⟨.inl ⟨none, 0, rfl, rfl⟩, fun k hk => (by obtain ⟨_, _, _, e, _⟩ := hk; cases e), ⟨rfl, .inr ⟨vb, 0, 1, rfl, fun i u hu => ?_⟩⟩, fun k hk => .inr ?_, fun y hy => ?_, fun y hy k hk => ?_⟩
  ·simp only [World.cell?, hkv, Nat.zero_add]
   simpa [vgc, GV.cs] using hu
  ·obtain ⟨_, _, _, e, _⟩ := hk
   cases e
   have := (unhide KV).2
   omega
  ·rw [List.mem_singleton] at hy
   subst hy
   exact (unhide HG).2.1.fr hfw
  ·rw [List.mem_singleton] at hy
   subst hy
   exact .inl ((unhide HG).2.2.1 k hk)
set_option maxRecDepth 100000 in
theorem gffind_any (x : Value) (l : List F5) (n : ByteArray) (w : World) (hx : Fds w x l) (hl : l.length ≤ 140737488355328) :
  Calls Tryz.prog 48 #[x, .string n] w fun e w' => e = .returned (.int .i64 (fix (fidx l n))) ∧ w' = w := by
 have HX := hide hx
 obtain ⟨xo, xc, rfl⟩ := hx.form
 have heq := Tryz.eqlS
 clear hx
 go_enter Tryz.func48, Tryz.ntmps48
 go_wp2_with fail
 go_loopw [5] (fun iv wr => ∃ j : Nat, j ≤ l.length ∧ iv = .int .i64 (j : Nat) ∧ (∀ i (hi : i < l.length), i < j → (l[i].n.toList == n.toList) = false) ∧ wr = w) (fun iv _ => l.length - (intOf iv).toNat)
 case atStart => exact ⟨0, Nat.zero_le _, rfl, fun i _ h => by omega, rfl⟩
 case round =>
  obtain ⟨j, hj, rfl, hno, rfl⟩ := hrel
  have HF := hide hno
  clear hno
  by_cases hlt : j < l.length
  ·obtain ⟨g, o, rfl, c0, _⟩ := (unhide HX).at_ j hlt
   obtain ⟨a, ha⟩ : ∃ a, l[j].n = a := ⟨_, rfl⟩
   rw [ha] at c0
   have HA := hide ha
   clear ha
   have hkl : (j : Int) < (l.length : Int) := by omega
   cases hk : (a.toList == n.toList) with
   | true =>
    have HE := hide (fidx_at hlt (unhide HF) (by rw [unhide HA]; exact hk))
    go_wp2_with fail
    go_ret
    exact ⟨by rw [unhide HE]; rfl, rfl⟩
   | false =>
    have HK := hide hk
    go_wp2_with fail
    go_roundw
    case rel =>
     refine ⟨j + 1, hlt, by go_num, fun i hi h => ?_, trivial⟩
     rcases Nat.lt_or_ge i j with h1 | h1
     ·exact (unhide HF) i hi h1
     ·obtain rfl : i = j := by omega
      rw [unhide HA]; exact unhide HK
    case measure => simp [intOf]; omega
  ·have HE := hide (fidx_no (l := l) (n := n) (fun i hi => (unhide HF) i hi (by omega)))
   have hkl : ¬ (j : Int) < (l.length : Int) := by omega
   go_wp2_with fail
   go_ret
   exact ⟨by rw [unhide HE]; rfl, rfl⟩
set_option maxHeartbeats 2000000 in
set_option maxRecDepth 100000 in
theorem gsameU_any (a b : Nat) (w : World) (ha : a < 256) (hb : b < 256) : Calls Tryz.prog 49 #[.int .u8 (a : Nat), .int .u8 (b : Nat)] w fun e w' => e = .returned (.bool (sameU a b)) ∧ Fr (fun _ => False) w w' := by
 have HA := hide (fun W => gname_any a W ha)
 have HB := hide (fun W => gname_any b W hb)
 have hna := nameU_empty a
 have hnb := nameU_empty b
 cases hua : isU a with
 | false =>
  have HV := hide (show sameU a b = false by unfold sameU; rw [hua]; rfl)
  rw [hua] at hna
  simp only [Bool.not_false] at hna
  clear hnb HB ha hb hua
  go_enter Tryz.func49, Tryz.ntmps49
  go_wp2_with fail
  refine wp_region_noPanic ?_
  refine wp_region_held_drew (S := (fun _ => True)) (by kernel_rfl) trivial (fun hHeld => ?_)
  have F0 := hide ((Fr.refl (fun _ => False) w).drew)
  refine wtk2 (i := 0) rfl hHeld ?_
  (try simp only [Act.put, nrm])
  refine wpAnyH_ready (rs := [1]) (by kernel_rfl) (by simp) (AllReadyH.cons rfl (fun K hK => ?_) (AllReadyH.nil))
  go_simp
  refine ((unhide HA) _).mono ?_
  rintro e w1 ⟨rfl, f1⟩
  have F1 := hide ((unhide F0).trans f1 (fun _ _ h => h))
  clear f1 F0
  go_simp
  refine hK.out _ _ trivial (fun hHeld => ?_)
  clear hK K
  (try simp only [Act.put, nrm])
  refine wtk2 (i := 2) rfl hHeld ?_
  (try simp only [Act.put, nrm])
  refine wtk2 (i := 3) rfl hHeld ?_
  (try simp only [Act.put, nrm])
  refine wpAnyH_take (i := 4) (v := undef) rfl (by kernel_rfl) (by kernel_rfl) (by kernel_rfl) (fun _ _ _ h => h) (Or.inr ⟨by rfl, rfl⟩) hHeld ?_
  (try simp only [Act.put, nrm])
  refine wpAnyH_take (i := 5) (v := undef) rfl (by kernel_rfl) (by kernel_rfl) (by kernel_rfl) (fun _ _ _ h => h) (Or.inr ⟨by rfl, rfl⟩) hHeld ?_
  (try simp only [Act.put, nrm])
  refine wpAnyH_take (i := 6) (v := undef) rfl (by kernel_rfl) (by kernel_rfl) (by kernel_rfl) (fun _ _ _ h => h) (Or.inr ⟨by rfl, rfl⟩) hHeld ?_
  (try simp only [Act.put, nrm])
  refine wtk2 (i := 7) rfl hHeld ?_
  (try simp only [Act.put, nrm])
  refine wtk2 (i := 8) rfl hHeld ?_
  (try simp only [Act.put, nrm])
  refine wpAnyH_take (i := 9) (v := undef) rfl (by kernel_rfl) (by kernel_rfl) (by kernel_rfl) (fun _ _ _ h => h) (Or.inr ⟨by rfl, rfl⟩) hHeld ?_
  (try simp only [Act.put, nrm])
  refine wpAnyH_take (i := 10) (v := undef) rfl (by kernel_rfl) (by kernel_rfl) (by kernel_rfl) (fun _ _ _ h => h) (Or.inr ⟨by rfl, rfl⟩) hHeld ?_
  (try simp only [Act.put, nrm])
  refine wpAnyH_take (i := 11) (v := undef) rfl (by kernel_rfl) (by kernel_rfl) (by kernel_rfl) (fun _ _ _ h => h) (Or.inr ⟨by rfl, rfl⟩) hHeld ?_
  (try simp only [Act.put, nrm])
  refine wpAnyH_take (i := 12) (v := undef) rfl (by kernel_rfl) (by kernel_rfl) (by kernel_rfl) (fun _ _ _ h => h) (Or.inr ⟨by rfl, rfl⟩) hHeld ?_
  (try simp only [Act.put, nrm])
  refine wpAnyH_take (i := 13) (v := undef) rfl (by kernel_rfl) (by kernel_rfl) (by kernel_rfl) (fun _ _ _ h => h) (Or.inr ⟨by rfl, rfl⟩) hHeld ?_
  (try simp only [Act.put, nrm])
  refine wpAnyH_take (i := 14) (v := undef) rfl (by kernel_rfl) (by kernel_rfl) (by kernel_rfl) (fun _ _ _ h => h) (Or.inr ⟨by rfl, rfl⟩) hHeld ?_
  (try simp only [Act.put, nrm])
  refine wpAnyH_take (i := 15) (v := undef) rfl (by kernel_rfl) (by kernel_rfl) (by kernel_rfl) (fun _ _ _ h => h) (Or.inr ⟨by rfl, rfl⟩) hHeld ?_
  (try simp only [Act.put, nrm])
  refine wpAnyH_take (i := 16) (v := undef) rfl (by kernel_rfl) (by kernel_rfl) (by kernel_rfl) (fun _ _ _ h => h) (Or.inr ⟨by rfl, rfl⟩) hHeld ?_
  (try simp only [Act.put, nrm])
  refine wpAnyH_take (i := 17) (v := undef) rfl (by kernel_rfl) (by kernel_rfl) (by kernel_rfl) (fun _ _ _ h => h) (Or.inr ⟨by rfl, rfl⟩) hHeld ?_
  (try simp only [Act.put, nrm])
  refine wpAnyH_take (i := 18) (v := undef) rfl (by kernel_rfl) (by kernel_rfl) (by kernel_rfl) (fun _ _ _ h => h) (Or.inr ⟨by rfl, rfl⟩) hHeld ?_
  (try simp only [Act.put, nrm])
  refine wpAnyH_take (i := 19) (v := undef) rfl (by kernel_rfl) (by kernel_rfl) (by kernel_rfl) (fun _ _ _ h => h) (Or.inr ⟨by rfl, rfl⟩) hHeld ?_
  (try simp only [Act.put, nrm])
  refine wpAnyH_take (i := 20) (v := undef) rfl (by kernel_rfl) (by kernel_rfl) (by kernel_rfl) (fun _ _ _ h => h) (Or.inr ⟨by rfl, rfl⟩) hHeld ?_
  (try simp only [Act.put, nrm])
  refine wpAnyH_take (i := 21) (v := undef) rfl (by kernel_rfl) (by kernel_rfl) (by kernel_rfl) (fun _ _ _ h => h) (Or.inr ⟨by rfl, rfl⟩) hHeld ?_
  (try simp only [Act.put, nrm])
  refine wtk2 (i := 22) rfl hHeld ?_
  (try simp only [Act.put, nrm])
  refine wtk2 (i := 23) rfl hHeld ?_
  (try simp only [Act.put, nrm])
  refine wpAnyH_done (by kernel_rfl) ?_ _
  refine NoPanic.normal ?_
  go_wp2_with fail
  go_ret
  exact ⟨congrArg (fun b => Ending.returned (.bool b)) (unhide HV).symm, unhide F1⟩
 | true =>
  rw [hua] at hna
  simp only [Bool.not_true] at hna
  cases hub : isU b with
  | false =>
   have HV := hide (show sameU a b = false by unfold sameU; rw [hua, hub]; rfl)
   rw [hub] at hnb
   simp only [Bool.not_false] at hnb
   clear ha hb hua hub
   go_enter Tryz.func49, Tryz.ntmps49
   go_wp2_with fail
   refine wp_region_noPanic ?_
   refine wp_region_held_drew (S := (fun _ => True)) (by kernel_rfl) trivial (fun hHeld => ?_)
   have F0 := hide ((Fr.refl (fun _ => False) w).drew)
   refine wtk2 (i := 0) rfl hHeld ?_
   (try simp only [Act.put, nrm])
   refine wpAnyH_ready (rs := [1]) (by kernel_rfl) (by simp) (AllReadyH.cons rfl (fun K hK => ?_) (AllReadyH.nil))
   go_simp
   refine ((unhide HA) _).mono ?_
   rintro e w1 ⟨rfl, f1⟩
   have F1 := hide ((unhide F0).trans f1 (fun _ _ h => h))
   clear f1 F0
   go_simp
   refine hK.out _ _ trivial (fun hHeld => ?_)
   clear hK K
   (try simp only [Act.put, nrm])
   refine wtk2 (i := 2) rfl hHeld ?_
   (try simp only [Act.put, nrm])
   refine wtk2 (i := 3) rfl hHeld ?_
   (try simp only [Act.put, nrm])
   refine wtk2 (i := 4) rfl hHeld ?_
   (try simp only [Act.put, nrm])
   refine wpAnyH_ready (rs := [5]) (by kernel_rfl) (by simp) (AllReadyH.cons rfl (fun K hK => ?_) (AllReadyH.nil))
   go_simp
   refine ((unhide HB) _).mono ?_
   rintro e w2 ⟨rfl, f2⟩
   have F2 := hide ((unhide F1).trans f2 (fun _ _ h => h))
   clear f2 F1
   go_simp
   refine hK.out _ _ trivial (fun hHeld => ?_)
   clear hK K
   (try simp only [Act.put, nrm])
   refine wtk2 (i := 6) rfl hHeld ?_
   (try simp only [Act.put, nrm])
   refine wtk2 (i := 7) rfl hHeld ?_
   (try simp only [Act.put, nrm])
   refine wtk2 (i := 8) rfl hHeld ?_
   (try simp only [Act.put, nrm])
   refine wpAnyH_take (i := 9) (v := undef) rfl (by kernel_rfl) (by kernel_rfl) (by kernel_rfl) (fun _ _ _ h => h) (Or.inr ⟨by rfl, rfl⟩) hHeld ?_
   (try simp only [Act.put, nrm])
   refine wpAnyH_take (i := 10) (v := undef) rfl (by kernel_rfl) (by kernel_rfl) (by kernel_rfl) (fun _ _ _ h => h) (Or.inr ⟨by rfl, rfl⟩) hHeld ?_
   (try simp only [Act.put, nrm])
   refine wpAnyH_take (i := 11) (v := undef) rfl (by kernel_rfl) (by kernel_rfl) (by kernel_rfl) (fun _ _ _ h => h) (Or.inr ⟨by rfl, rfl⟩) hHeld ?_
   (try simp only [Act.put, nrm])
   refine wpAnyH_take (i := 12) (v := undef) rfl (by kernel_rfl) (by kernel_rfl) (by kernel_rfl) (fun _ _ _ h => h) (Or.inr ⟨by rfl, rfl⟩) hHeld ?_
   (try simp only [Act.put, nrm])
   refine wpAnyH_take (i := 13) (v := undef) rfl (by kernel_rfl) (by kernel_rfl) (by kernel_rfl) (fun _ _ _ h => h) (Or.inr ⟨by rfl, rfl⟩) hHeld ?_
   (try simp only [Act.put, nrm])
   refine wpAnyH_take (i := 14) (v := undef) rfl (by kernel_rfl) (by kernel_rfl) (by kernel_rfl) (fun _ _ _ h => h) (Or.inr ⟨by rfl, rfl⟩) hHeld ?_
   (try simp only [Act.put, nrm])
   refine wpAnyH_take (i := 15) (v := undef) rfl (by kernel_rfl) (by kernel_rfl) (by kernel_rfl) (fun _ _ _ h => h) (Or.inr ⟨by rfl, rfl⟩) hHeld ?_
   (try simp only [Act.put, nrm])
   refine wpAnyH_take (i := 16) (v := undef) rfl (by kernel_rfl) (by kernel_rfl) (by kernel_rfl) (fun _ _ _ h => h) (Or.inr ⟨by rfl, rfl⟩) hHeld ?_
   (try simp only [Act.put, nrm])
   refine wpAnyH_take (i := 17) (v := undef) rfl (by kernel_rfl) (by kernel_rfl) (by kernel_rfl) (fun _ _ _ h => h) (Or.inr ⟨by rfl, rfl⟩) hHeld ?_
   (try simp only [Act.put, nrm])
   refine wpAnyH_take (i := 18) (v := undef) rfl (by kernel_rfl) (by kernel_rfl) (by kernel_rfl) (fun _ _ _ h => h) (Or.inr ⟨by rfl, rfl⟩) hHeld ?_
   (try simp only [Act.put, nrm])
   refine wpAnyH_take (i := 19) (v := undef) rfl (by kernel_rfl) (by kernel_rfl) (by kernel_rfl) (fun _ _ _ h => h) (Or.inr ⟨by rfl, rfl⟩) hHeld ?_
   (try simp only [Act.put, nrm])
   refine wpAnyH_take (i := 20) (v := undef) rfl (by kernel_rfl) (by kernel_rfl) (by kernel_rfl) (fun _ _ _ h => h) (Or.inr ⟨by rfl, rfl⟩) hHeld ?_
   (try simp only [Act.put, nrm])
   refine wpAnyH_take (i := 21) (v := undef) rfl (by kernel_rfl) (by kernel_rfl) (by kernel_rfl) (fun _ _ _ h => h) (Or.inr ⟨by rfl, rfl⟩) hHeld ?_
   (try simp only [Act.put, nrm])
   refine wtk2 (i := 22) rfl hHeld ?_
   (try simp only [Act.put, nrm])
   refine wtk2 (i := 23) rfl hHeld ?_
   (try simp only [Act.put, nrm])
   refine wpAnyH_done (by kernel_rfl) ?_ _
   refine NoPanic.normal ?_
   go_wp2_with fail
   go_ret
   exact ⟨congrArg (fun b => Ending.returned (.bool b)) (unhide HV).symm, unhide F2⟩
  | true =>
   rw [hub] at hnb
   simp only [Bool.not_true] at hnb
   obtain ⟨k, rfl⟩ : ∃ k, a = k + 1 := ⟨a - 1, by simp [isU] at hua; omega⟩
   obtain ⟨m, rfl⟩ : ∃ m, b = m + 1 := ⟨b - 1, by simp [isU] at hub; omega⟩
   have hk : k < 21 := by simp [isU] at hua; omega
   have hm : m < 21 := by simp [isU] at hub; omega
   obtain ⟨p, hp⟩ : ∃ p, measL.getD (k + 1) 0 = p := ⟨_, rfl⟩
   obtain ⟨q, hq⟩ : ∃ q, measL.getD (m + 1) 0 = q := ⟨_, rfl⟩
   have HV := hide (show sameU (k + 1) (m + 1) = ((p : Int) == (q : Int)) by unfold sameU; rw [hua, hub, hp, hq]; rfl)
   have HL1 := hide hp
   have HL2 := hide hq
   have a3 : IntKind.u8.wrap (k : Int) = (k : Int) := by rw [IntKind.wrap_u8]; omega
   have b3 : IntKind.u8.wrap (m : Int) = (m : Int) := by rw [IntKind.wrap_u8]; omega
   have a4 : (k : Int) < 21 := by omega
   have b4 : (m : Int) < 21 := by omega
   clear ha hb hua hub hp hq
   go_enter Tryz.func49, Tryz.ntmps49
   go_wp2_with fail
   refine wp_region_noPanic ?_
   refine wp_region_held_drew (S := (fun _ => True)) (by kernel_rfl) trivial (fun hHeld => ?_)
   have F0 := hide ((Fr.refl (fun _ => False) w).drew)
   refine wtk2 (i := 0) rfl hHeld ?_
   (try simp only [Act.put, nrm])
   refine wpAnyH_ready (rs := [1]) (by kernel_rfl) (by simp) (AllReadyH.cons rfl (fun K hK => ?_) (AllReadyH.nil))
   go_simp
   refine ((unhide HA) _).mono ?_
   rintro e w1 ⟨rfl, f1⟩
   have F1 := hide ((unhide F0).trans f1 (fun _ _ h => h))
   clear f1 F0
   go_simp
   refine hK.out _ _ trivial (fun hHeld => ?_)
   clear hK K
   (try simp only [Act.put, nrm])
   refine wtk2 (i := 2) rfl hHeld ?_
   (try simp only [Act.put, nrm])
   refine wtk2 (i := 3) rfl hHeld ?_
   (try simp only [Act.put, nrm])
   refine wtk2 (i := 4) rfl hHeld ?_
   (try simp only [Act.put, nrm])
   refine wpAnyH_ready (rs := [5]) (by kernel_rfl) (by simp) (AllReadyH.cons rfl (fun K hK => ?_) (AllReadyH.nil))
   go_simp
   refine ((unhide HB) _).mono ?_
   rintro e w2 ⟨rfl, f2⟩
   have F2 := hide ((unhide F1).trans f2 (fun _ _ h => h))
   clear f2 F1
   go_simp
   refine hK.out _ _ trivial (fun hHeld => ?_)
   clear hK K
   (try simp only [Act.put, nrm])
   refine wtk2 (i := 6) rfl hHeld ?_
   (try simp only [Act.put, nrm])
   refine wtk2 (i := 7) rfl hHeld ?_
   (try simp only [Act.put, nrm])
   refine wtk2 (i := 8) rfl hHeld ?_
   (try simp only [Act.put, nrm])
   refine wtk2 (i := 10) rfl hHeld ?_
   (try simp only [Act.put, nrm])
   refine wtk2 (i := 11) rfl hHeld ?_
   (try simp only [Act.put, nrm])
   refine wtk2 (i := 16) rfl hHeld ?_
   (try simp only [Act.put, nrm])
   refine wtk2 (i := 17) rfl hHeld ?_
   (try simp only [Act.put, nrm])
   refine wpAnyH_ready (rs := [9]) (by kernel_rfl) (by simp) (AllReadyH.cons rfl (fun K hK => ?_) (AllReadyH.nil))
   go_simp
   refine (gunits_any _).mono ?_
   rintro e w3 ⟨rfl, hw3⟩
   have f3 : Fr (fun _ => False) w2 w3 := by rw [hw3]; exact box1 _ _
   have k3 : w3.heap[w2.heap.size]? = some (.cells unitC 116) := by rw [hw3]; exact Array.getElem?_push_size
   have F3 := hide ((unhide F2).trans f3 (fun _ _ h => h))
   have K3 := hide k3
   obtain ⟨u1, hu1⟩ : ∃ u1, u1 = w2.heap.size := ⟨_, rfl⟩
   rw [← hu1] at K3 ⊢
   clear f3 k3 hw3 F2 hu1
   go_simp
   refine hK.out _ _ trivial (fun hHeld => ?_)
   clear hK K
   (try simp only [Act.put, nrm])
   refine wtk2 (i := 12) rfl hHeld ?_
   (try simp only [Act.put, nrm])
   refine wtk2 (i := 13) rfl hHeld ?_
   (try simp only [Act.put, nrm])
   refine wpAnyH_ready (rs := [14, 15]) (by kernel_rfl) (by simp) (AllReadyH.cons rfl (fun K hK => ?_) (AllReadyH.cons rfl (fun K hK => ?_) (AllReadyH.nil)))
   focus
    obtain ⟨_, c3⟩ := unit_at (unhide K3) k hk
    rw [unhide HL1] at c3
    go_simp
    refine hK.out _ _ trivial (fun hHeld => ?_)
    clear hK K
    (try simp only [Act.put, nrm])
    refine wpAnyH_ready (rs := [15]) (by kernel_rfl) (by simp) (AllReadyH.cons rfl (fun K hK => ?_) (AllReadyH.nil))
    go_simp
    refine (gunits_any _).mono ?_
    rintro e w4 ⟨rfl, hw4⟩
    have f4 : Fr (fun _ => False) w3 w4 := by rw [hw4]; exact box1 _ _
    have k4 : w4.heap[w3.heap.size]? = some (.cells unitC 116) := by rw [hw4]; exact Array.getElem?_push_size
    have F4 := hide ((unhide F3).trans f4 (fun _ _ h => h))
    have K4 := hide k4
    obtain ⟨u2, hu2⟩ : ∃ u2, u2 = w3.heap.size := ⟨_, rfl⟩
    rw [← hu2] at K4 ⊢
    clear f4 k4 hw4 F3 hu2 c3
    go_simp
    refine hK.out _ _ trivial (fun hHeld => ?_)
    clear hK K
    (try simp only [Act.put, nrm])
    refine wtk2 (i := 18) rfl hHeld ?_
    (try simp only [Act.put, nrm])
    refine wtk2 (i := 19) rfl hHeld ?_
    (try simp only [Act.put, nrm])
    refine wpAnyH_ready (rs := [20]) (by kernel_rfl) (by simp) (AllReadyH.cons rfl (fun K hK => ?_) (AllReadyH.nil))
    obtain ⟨_, c4⟩ := unit_at (unhide K4) m hm
    rw [unhide HL2] at c4
    go_simp
    refine hK.out _ _ trivial (fun hHeld => ?_)
    clear hK K
    (try simp only [Act.put, nrm])
    refine wtk2 (i := 21) rfl hHeld ?_
    (try simp only [Act.put, nrm])
    refine wtk2 (i := 22) rfl hHeld ?_
    (try simp only [Act.put, nrm])
    refine wtk2 (i := 23) rfl hHeld ?_
    (try simp only [Act.put, nrm])
    refine wpAnyH_done (by kernel_rfl) ?_ _
    refine NoPanic.normal ?_
    go_wp2_with fail
    go_ret
    exact ⟨congrArg (fun b => Ending.returned (.bool b)) (unhide HV).symm, unhide F4⟩
   focus
    go_simp
    refine (gunits_any _).mono ?_
    rintro e w4 ⟨rfl, hw4⟩
    have f4 : Fr (fun _ => False) w3 w4 := by rw [hw4]; exact box1 _ _
    have k4 : w4.heap[w3.heap.size]? = some (.cells unitC 116) := by rw [hw4]; exact Array.getElem?_push_size
    have F4 := hide ((unhide F3).trans f4 (fun _ _ h => h))
    have K4 := hide k4
    have K5 := hide ((f4.block u1 (lt_of_block (unhide K3)) (fun h => h)).trans (unhide K3))
    obtain ⟨u2, hu2⟩ : ∃ u2, u2 = w3.heap.size := ⟨_, rfl⟩
    rw [← hu2] at K4 ⊢
    clear f4 k4 hw4 F3 hu2
    go_simp
    refine hK.out _ _ trivial (fun hHeld => ?_)
    clear hK K
    (try simp only [Act.put, nrm])
    refine wtk2 (i := 18) rfl hHeld ?_
    (try simp only [Act.put, nrm])
    refine wtk2 (i := 19) rfl hHeld ?_
    (try simp only [Act.put, nrm])
    refine wpAnyH_ready (rs := [14, 20]) (by kernel_rfl) (by simp) (AllReadyH.cons rfl (fun K hK => ?_) (AllReadyH.cons rfl (fun K hK => ?_) (AllReadyH.nil)))
    focus
     obtain ⟨_, c3⟩ := unit_at (unhide K5) k hk
     rw [unhide HL1] at c3
     go_simp
     refine hK.out _ _ trivial (fun hHeld => ?_)
     clear hK K
     (try simp only [Act.put, nrm])
     refine wpAnyH_ready (rs := [20]) (by kernel_rfl) (by simp) (AllReadyH.cons rfl (fun K hK => ?_) (AllReadyH.nil))
     obtain ⟨_, c4⟩ := unit_at (unhide K4) m hm
     rw [unhide HL2] at c4
     go_simp
     refine hK.out _ _ trivial (fun hHeld => ?_)
     clear hK K
     (try simp only [Act.put, nrm])
     refine wtk2 (i := 21) rfl hHeld ?_
     (try simp only [Act.put, nrm])
     refine wtk2 (i := 22) rfl hHeld ?_
     (try simp only [Act.put, nrm])
     refine wtk2 (i := 23) rfl hHeld ?_
     (try simp only [Act.put, nrm])
     refine wpAnyH_done (by kernel_rfl) ?_ _
     refine NoPanic.normal ?_
     go_wp2_with fail
     go_ret
     exact ⟨congrArg (fun b => Ending.returned (.bool b)) (unhide HV).symm, unhide F4⟩
    focus
     obtain ⟨_, c4⟩ := unit_at (unhide K4) m hm
     rw [unhide HL2] at c4
     go_simp
     refine hK.out _ _ trivial (fun hHeld => ?_)
     clear hK K
     (try simp only [Act.put, nrm])
     refine wpAnyH_ready (rs := [14]) (by kernel_rfl) (by simp) (AllReadyH.cons rfl (fun K hK => ?_) (AllReadyH.nil))
     obtain ⟨_, c3⟩ := unit_at (unhide K5) k hk
     rw [unhide HL1] at c3
     go_simp
     refine hK.out _ _ trivial (fun hHeld => ?_)
     clear hK K
     (try simp only [Act.put, nrm])
     refine wtk2 (i := 21) rfl hHeld ?_
     (try simp only [Act.put, nrm])
     refine wtk2 (i := 22) rfl hHeld ?_
     (try simp only [Act.put, nrm])
     refine wtk2 (i := 23) rfl hHeld ?_
     (try simp only [Act.put, nrm])
     refine wpAnyH_done (by kernel_rfl) ?_ _
     refine NoPanic.normal ?_
     go_wp2_with fail
     go_ret
     exact ⟨congrArg (fun b => Ending.returned (.bool b)) (unhide HV).symm, unhide F4⟩
theorem fcells_set (f : F5) : ∀ (L : List F5) (k : Nat), k < L.length → (((((fcells L).set (k * 5) (.string f.n)).set (k * 5 + 1) (.int .u8 (f.k : Nat))).set (k * 5 + 1 + 1) (.string f.t)).set (k * 5 + 1 + 1 + 1) (.float .f32 f.v)).set (k * 5 + 1 + 1 + 1 + 1) (.int .u8 (f.u : Nat)) = fcells (L.set k f)
 | [], k, h => by simp at h
 | y :: r, 0, _ => by simp [fcells]
 | y :: r, k + 1, h => by
  have ih := fcells_set f r k (by simpa using h)
  have e : ∀ z : F5, ∀ l, fcells (z :: l) = [.string z.n, .int .u8 (z.k : Nat), .string z.t, .float .f32 z.v, .int .u8 (z.u : Nat)] ++ fcells l := fun z l => by simp [fcells]
  rw [List.set_cons_succ, e, e, ← ih, show (k + 1) * 5 = k * 5 + 1 + 1 + 1 + 1 + 1 by omega]
  rfl
theorem fld_put {W : World} {base g cap n : Nat} {L : List F5} (h : OwF W base (.slice (some ⟨g, 0, none⟩) n cap) L) (hn : n = L.length) (k : Nat) (hk : k < L.length) (f : F5) :
  ∃ W8, (Instr.storeAt 55 (.pointer (some ⟨g, k * 5, none⟩)) (.agg #[.string f.n, .int .u8 (f.k : Nat), .string f.t, .float .f32 f.v, .int .u8 (f.u : Nat)])).run Tryz.prog W = .ok () W8 ∧ OwF W8 base (.slice (some ⟨g, 0, none⟩) n cap) (L.set k f) ∧ Fr (fun i => i = g) W W8 := by
 subst hn
 have ho : W.ownsRow base 55 5 (.slice (some ⟨g, 0, none⟩) L.length cap) L.length (fcells L) := h
 refine ⟨W.setCells g (k * 5) [.string f.n, .int .u8 (f.k : Nat), .string f.t, .float .f32 f.v, .int .u8 (f.u : Nat)], run_storeAt_mid W g (k * 5) 55 #[.string f.n, .int .u8 (f.k : Nat), .string f.t, .float .f32 f.v, .int .u8 (f.u : Nat)] (fun j hj => ?_) (by kernel_rfl) (all_oneCell_toArray (cs := [.string f.n, .int .u8 (f.k : Nat), .string f.t, .float .f32 f.v, .int .u8 (f.u : Nat)]) (fun u hu => by simp at hu; rcases hu with rfl | rfl | rfl | rfl | rfl <;> rfl)), ?_, ?_⟩
 ·have hj : j < 5 := hj
  refine ⟨?_, ho.frozenAt _⟩
  rw [ho.cellAt _ (by omega)]
  have hl := fcells_len L
  rw [List.getElem?_eq_getElem (by omega)]
  rfl
 ·have h0 := own_set ho rfl (k * 5) (.string f.n)
  have h1 := own_set h0 rfl (k * 5 + 1) (.int .u8 (f.k : Nat))
  have h2 := own_set h1 rfl (k * 5 + 1 + 1) (.string f.t)
  have h3 := own_set h2 rfl (k * 5 + 1 + 1 + 1) (.float .f32 f.v)
  have h4 := own_set h3 rfl (k * 5 + 1 + 1 + 1 + 1) (.int .u8 (f.u : Nat))
  rw [fcells_set f L k hk] at h4
  unfold OwF
  rw [List.length_set]
  exact h4
 ·have h0 := (Fr.refl (fun i => i = g) W).setCell (p := ⟨g, k * 5, none⟩) (.inl rfl) (.string f.n)
  have h1 := h0.setCell (p := ⟨g, k * 5 + 1, none⟩) (.inl rfl) (.int .u8 (f.k : Nat))
  have h2 := h1.setCell (p := ⟨g, k * 5 + 1 + 1, none⟩) (.inl rfl) (.string f.t)
  have h3 := h2.setCell (p := ⟨g, k * 5 + 1 + 1 + 1, none⟩) (.inl rfl) (.float .f32 f.v)
  exact h3.setCell (p := ⟨g, k * 5 + 1 + 1 + 1 + 1, none⟩) (.inl rfl) (.int .u8 (f.u : Nat))
theorem fld_box (W : World) (f : F5) :
  ∃ W8, (Instr.storeAt 55 (.pointer (some ⟨W.heap.size, 0, none⟩)) (.agg #[.string f.n, .int .u8 (f.k : Nat), .string f.t, .float .f32 f.v, .int .u8 (f.u : Nat)])).run Tryz.prog (W.alloc (.cells #[.string ⟨#[]⟩, .int .u8 0, .string ⟨#[]⟩, .float .f32 0, .int .u8 0] 55)) = .ok () W8 ∧ W8.heap[W.heap.size]? = some (.cells #[.string f.n, .int .u8 (f.k : Nat), .string f.t, .float .f32 f.v, .int .u8 (f.u : Nat)] 55) ∧ Fr (fun _ => False) W W8 := by
 have hb : (W.alloc (.cells #[.string ⟨#[]⟩, .int .u8 0, .string ⟨#[]⟩, .float .f32 0, .int .u8 0] 55)).heap[W.heap.size]? = some (.cells #[.string ⟨#[]⟩, .int .u8 0, .string ⟨#[]⟩, .float .f32 0, .int .u8 0] 55) := Array.getElem?_push_size
 have hf0 := box1 W (.cells #[.string ⟨#[]⟩, .int .u8 0, .string ⟨#[]⟩, .float .f32 0, .int .u8 0] 55)
 generalize W.alloc (.cells #[.string ⟨#[]⟩, .int .u8 0, .string ⟨#[]⟩, .float .f32 0, .int .u8 0] 55) = Z at hb hf0 ⊢
 refine ⟨Z.setCells W.heap.size 0 [.string f.n, .int .u8 (f.k : Nat), .string f.t, .float .f32 f.v, .int .u8 (f.u : Nat)], run_storeAt_mid Z W.heap.size 0 55 #[.string f.n, .int .u8 (f.k : Nat), .string f.t, .float .f32 f.v, .int .u8 (f.u : Nat)] (fun j hj => ?_) (by kernel_rfl) (all_oneCell_toArray (cs := [.string f.n, .int .u8 (f.k : Nat), .string f.t, .float .f32 f.v, .int .u8 (f.u : Nat)]) (fun u hu => by simp at hu; rcases hu with rfl | rfl | rfl | rfl | rfl <;> rfl)), ?_, ?_⟩
 ·have hj : j < 5 := hj
  refine ⟨?_, by simp [World.frozen?, hb]⟩
  rcases j with _ | _ | _ | _ | _ | j
  ·simp [World.cell?, hb]
  ·simp [World.cell?, hb]
  ·simp [World.cell?, hb]
  ·simp [World.cell?, hb]
  ·simp [World.cell?, hb]
  ·omega
 ·have k0 := heap_setCell_same Z W.heap.size 0 _ 55 (.string f.n) hb
  have k1 := heap_setCell_same _ W.heap.size 1 _ 55 (.int .u8 (f.k : Nat)) k0
  have k2 := heap_setCell_same _ W.heap.size 2 _ 55 (.string f.t) k1
  have k3 := heap_setCell_same _ W.heap.size 3 _ 55 (.float .f32 f.v) k2
  have k4 := heap_setCell_same _ W.heap.size 4 _ 55 (.int .u8 (f.u : Nat)) k3
  simp only [List.setIfInBounds_toArray, List.set_cons_zero, List.set_cons_succ] at k4
  exact k4
 ·have h0 := (Fr.refl (fun i => i = W.heap.size) Z).setCell (p := ⟨W.heap.size, 0, none⟩) (.inl rfl) (.string f.n)
  have h1 := h0.setCell (p := ⟨W.heap.size, 1, none⟩) (.inl rfl) (.int .u8 (f.k : Nat))
  have h2 := h1.setCell (p := ⟨W.heap.size, 2, none⟩) (.inl rfl) (.string f.t)
  have h3 := h2.setCell (p := ⟨W.heap.size, 3, none⟩) (.inl rfl) (.float .f32 f.v)
  have h4 := h3.setCell (p := ⟨W.heap.size, 4, none⟩) (.inl rfl) (.int .u8 (f.u : Nat))
  exact hf0.absorb h4 (fun k hk => by omega)
theorem OwF.cells {W : World} {base g cap n : Nat} {L : List F5} (h : OwF W base (.slice (some ⟨g, 0, none⟩) n cap) L) (k : Nat) (hk : k < L.length) (f : F5) (hf : L[k]? = some f) : W.cell? ⟨g, k * 5, none⟩ = some (.string f.n) ∧ W.cell? ⟨g, k * 5 + 1, none⟩ = some (.int .u8 (f.k : Nat)) ∧ W.cell? ⟨g, k * 5 + 2, none⟩ = some (.string f.t) ∧ W.cell? ⟨g, k * 5 + 3, none⟩ = some (.float .f32 f.v) ∧ W.cell? ⟨g, k * 5 + 4, none⟩ = some (.int .u8 (f.u : Nat)) := by
 obtain ⟨g', o', e, c0, c1, c2, c3, c4⟩ := h.fds.at_ k hk
 cases e
 have e2 : L[k] = f := by
  have := List.getElem?_eq_getElem hk
  rw [this] at hf
  exact Option.some.inj hf
 rw [e2] at c0 c1 c2 c3 c4
 simp only [Nat.zero_add] at c0 c1 c2 c3 c4
 exact ⟨c0, c1, c2, c3, c4⟩
theorem OwF.lenX {w : World} {base n c : Nat} {a : Option Addr} {l : List F5} (h : OwF w base (.slice a n c) l) : l.length = n := by
 obtain ⟨a', c', e⟩ := own_formX h
 cases e
 rfl
theorem bub_stop {k : Nat} {L : List F5} {x y : F5} (hx : L[k + 1]? = some x) (hy : L[k]? = some y) (h : Op.bytesLess x.n.toList y.n.toList = false) : bub (k + 1) L = L := by
 unfold bub
 rw [hx, hy]
 simp [h]
theorem bub_go {k : Nat} {L : List F5} {x y : F5} (hx : L[k + 1]? = some x) (hy : L[k]? = some y) (h : Op.bytesLess x.n.toList y.n.toList = true) : bub (k + 1) L = bub k ((L.set (k + 1) y).set k x) := by
 rw [bub, hx, hy]
 simp [h]
theorem rem1_none {F : List F5} {f : F5} (h : fidx F f.n = none) : rem1 F f = false := by unfold rem1; rw [h]
theorem rem1_some {F : List F5} {f c : F5} {m : Nat} (h : fidx F f.n = some m) (hc : F[m]? = some c) : rem1 F f = ((decide (f.k = 2) && decide (c.k = 2)) && !sameU f.u c.u) := by
 unfold rem1
 rw [h]
 have : F.getD m fld0 = c := by simp [List.getD, hc]
 simp only [this]
end Go.Proofs.YtiknjghcjaaenaaGreatDoor
