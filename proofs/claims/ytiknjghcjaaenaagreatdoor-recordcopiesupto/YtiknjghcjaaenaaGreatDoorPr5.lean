import Derived.Test.YtiknjghcjaaenaaGreatDoorPr4
import Derived.Test.YtiknjghcjaaenaaGreatDoorPr2
import Derived.Test.YtiknjghcjaaenaaGreatDoorPr1
import Derived.Test.YtiknjghcjaaenaaGreatDoorKPoj
import Derived.Test.YtiknjghcjaaenaaGreatDoorKOab
namespace Go.Proofs.YtiknjghcjaaenaaGreatDoor
open Go.RowKit Go.Shelf
set_option linter.unusedSimpArgs false in
set_option maxHeartbeats 1000000 in
set_option maxRecDepth 100000 in
theorem gformed_1 (cl nu ac rc ve wa ow : Nat) (xo : Option Addr) (xc : Nat) (rs : ByteArray) (F : List F5) (N : Nat) (w : World) (HFi : Hid (∀ gone W, Fr (fun _ => False) w W → Calls Tryz.prog 40 #[.slice xo N xc, .bool gone] W fun e w' => e = .returned (.bool (fdsB F gone)) ∧ Fr (fun _ => False) w w')) :
  Calls Tryz.prog 23 #[.agg #[.int .u32 (cl : Nat), .int .u32 (nu : Nat), .int .u32 (ac : Nat), .int .u8 1, .int .u32 (rc : Nat), .int .u32 (ve : Nat), .int .u32 (wa : Nat), .int .u32 (ow : Nat), .slice xo N xc, .string rs]] w fun e w' => e = .returned (.bool (RQ.frm ⟨cl, nu, ac, 1, rc, ve, wa, ow, .slice xo N xc, rs⟩ F)) ∧ Fr (fun _ => False) w w' := by
 by_cases z_rc : rc = 0
 ·subst z_rc
  by_cases z_ve : ve = 0
  ·subst z_ve
   by_cases z_rs : rs.size = 0
   ·have i_rs : rs.toList.isEmpty = true := by rw [empty_toList]; simp [z_rs]
    have Z := hide z_rs
    clear z_rs
    have HV := hide (show RQ.frm ⟨cl, nu, ac, 1, 0, 0, wa, ow, .slice xo N xc, rs⟩ F = fdsB F false by unfold RQ.frm; simp [unhide Z])
    go_enter Tryz.func23, Tryz.ntmps23
    go_wp2_with fail
    refine ((unhide HFi) false _ (by repeat first | exact Fr.refl _ _ | refine Fr.alloc ?_ _ | refine Fr.setCell (p := ⟨_, _, none⟩) ?_ (.inr (by simp)) _)).mono ?_
    rintro e w2 ⟨rfl, hf2⟩
    go_wp2_with fail
    go_ret
    exact ⟨congrArg (fun b => Ending.returned (.bool b)) (unhide HV).symm, hf2⟩
   ·have i_rs : rs.toList.isEmpty = false := by rw [empty_toList]; simp [z_rs]
    have HV := hide (show RQ.frm ⟨cl, nu, ac, 1, 0, 0, wa, ow, .slice xo N xc, rs⟩ F = false by unfold RQ.frm; simp [z_rs])
    clear HFi
    go_enter Tryz.func23, Tryz.ntmps23
    go_wp2_with fail
    go_ret
    exact ⟨congrArg (fun b => Ending.returned (.bool b)) (unhide HV).symm, (by repeat first | exact Fr.refl _ _ | refine Fr.alloc ?_ _ | refine Fr.setCell (p := ⟨_, _, none⟩) ?_ (.inr (by simp)) _)⟩
  ·have i_ve : ¬ (ve : Int) = 0 := by omega
   have HV := hide (show RQ.frm ⟨cl, nu, ac, 1, 0, ve, wa, ow, .slice xo N xc, rs⟩ F = false by unfold RQ.frm; simp [z_ve])
   clear HFi
   go_enter Tryz.func23, Tryz.ntmps23
   go_wp2_with fail
   go_ret
   exact ⟨congrArg (fun b => Ending.returned (.bool b)) (unhide HV).symm, (by repeat first | exact Fr.refl _ _ | refine Fr.alloc ?_ _ | refine Fr.setCell (p := ⟨_, _, none⟩) ?_ (.inr (by simp)) _)⟩
 ·have i_rc : ¬ (rc : Int) = 0 := by omega
  have HV := hide (show RQ.frm ⟨cl, nu, ac, 1, rc, ve, wa, ow, .slice xo N xc, rs⟩ F = false by unfold RQ.frm; simp [z_rc])
  clear HFi
  go_enter Tryz.func23, Tryz.ntmps23
  go_wp2_with fail
  go_ret
  exact ⟨congrArg (fun b => Ending.returned (.bool b)) (unhide HV).symm, (by repeat first | exact Fr.refl _ _ | refine Fr.alloc ?_ _ | refine Fr.setCell (p := ⟨_, _, none⟩) ?_ (.inr (by simp)) _)⟩
set_option linter.unusedSimpArgs false in
set_option maxHeartbeats 1000000 in
set_option maxRecDepth 100000 in
theorem gformed_2 (cl nu ac rc ve wa ow : Nat) (xo : Option Addr) (xc : Nat) (rs : ByteArray) (F : List F5) (N : Nat) (w : World) (HFi : Hid (∀ gone W, Fr (fun _ => False) w W → Calls Tryz.prog 40 #[.slice xo N xc, .bool gone] W fun e w' => e = .returned (.bool (fdsB F gone)) ∧ Fr (fun _ => False) w w')) :
  Calls Tryz.prog 23 #[.agg #[.int .u32 (cl : Nat), .int .u32 (nu : Nat), .int .u32 (ac : Nat), .int .u8 2, .int .u32 (rc : Nat), .int .u32 (ve : Nat), .int .u32 (wa : Nat), .int .u32 (ow : Nat), .slice xo N xc, .string rs]] w fun e w' => e = .returned (.bool (RQ.frm ⟨cl, nu, ac, 2, rc, ve, wa, ow, .slice xo N xc, rs⟩ F)) ∧ Fr (fun _ => False) w w' := by
 by_cases z_wa : wa = 0
 ·subst z_wa
  by_cases z_ow : ow = 0
  ·subst z_ow
   by_cases z_rs : rs.size = 0
   ·have i_rs : rs.toList.isEmpty = true := by rw [empty_toList]; simp [z_rs]
    have Z := hide z_rs
    clear z_rs
    have HV := hide (show RQ.frm ⟨cl, nu, ac, 2, rc, ve, 0, 0, .slice xo N xc, rs⟩ F = fdsB F true by unfold RQ.frm; simp [unhide Z])
    go_enter Tryz.func23, Tryz.ntmps23
    go_wp2_with fail
    refine ((unhide HFi) true _ (by repeat first | exact Fr.refl _ _ | refine Fr.alloc ?_ _ | refine Fr.setCell (p := ⟨_, _, none⟩) ?_ (.inr (by simp)) _)).mono ?_
    rintro e w2 ⟨rfl, hf2⟩
    go_wp2_with fail
    go_ret
    exact ⟨congrArg (fun b => Ending.returned (.bool b)) (unhide HV).symm, hf2⟩
   ·have i_rs : rs.toList.isEmpty = false := by rw [empty_toList]; simp [z_rs]
    have HV := hide (show RQ.frm ⟨cl, nu, ac, 2, rc, ve, 0, 0, .slice xo N xc, rs⟩ F = false by unfold RQ.frm; simp [z_rs])
    clear HFi
    go_enter Tryz.func23, Tryz.ntmps23
    go_wp2_with fail
    go_ret
    exact ⟨congrArg (fun b => Ending.returned (.bool b)) (unhide HV).symm, (by repeat first | exact Fr.refl _ _ | refine Fr.alloc ?_ _ | refine Fr.setCell (p := ⟨_, _, none⟩) ?_ (.inr (by simp)) _)⟩
  ·have i_ow : ¬ (ow : Int) = 0 := by omega
   have HV := hide (show RQ.frm ⟨cl, nu, ac, 2, rc, ve, 0, ow, .slice xo N xc, rs⟩ F = false by unfold RQ.frm; simp [z_ow])
   clear HFi
   go_enter Tryz.func23, Tryz.ntmps23
   go_wp2_with fail
   go_ret
   exact ⟨congrArg (fun b => Ending.returned (.bool b)) (unhide HV).symm, (by repeat first | exact Fr.refl _ _ | refine Fr.alloc ?_ _ | refine Fr.setCell (p := ⟨_, _, none⟩) ?_ (.inr (by simp)) _)⟩
 ·have i_wa : ¬ (wa : Int) = 0 := by omega
  have HV := hide (show RQ.frm ⟨cl, nu, ac, 2, rc, ve, wa, ow, .slice xo N xc, rs⟩ F = false by unfold RQ.frm; simp [z_wa])
  clear HFi
  go_enter Tryz.func23, Tryz.ntmps23
  go_wp2_with fail
  go_ret
  exact ⟨congrArg (fun b => Ending.returned (.bool b)) (unhide HV).symm, (by repeat first | exact Fr.refl _ _ | refine Fr.alloc ?_ _ | refine Fr.setCell (p := ⟨_, _, none⟩) ?_ (.inr (by simp)) _)⟩
set_option linter.unusedSimpArgs false in
set_option maxHeartbeats 1000000 in
set_option maxRecDepth 100000 in
theorem gformed_3 (cl nu ac rc ve wa ow : Nat) (xo : Option Addr) (xc : Nat) (rs : ByteArray) (F : List F5) (N : Nat) (w : World) (HFi : Hid (∀ gone W, Fr (fun _ => False) w W → Calls Tryz.prog 40 #[.slice xo N xc, .bool gone] W fun e w' => e = .returned (.bool (fdsB F gone)) ∧ Fr (fun _ => False) w w')) (hN : Hid (F.length = N)) (hnil : Hid (F.length = 0 → fdsB F false = true)) :
  Calls Tryz.prog 23 #[.agg #[.int .u32 (cl : Nat), .int .u32 (nu : Nat), .int .u32 (ac : Nat), .int .u8 3, .int .u32 (rc : Nat), .int .u32 (ve : Nat), .int .u32 (wa : Nat), .int .u32 (ow : Nat), .slice xo N xc, .string rs]] w fun e w' => e = .returned (.bool (RQ.frm ⟨cl, nu, ac, 3, rc, ve, wa, ow, .slice xo N xc, rs⟩ F)) ∧ Fr (fun _ => False) w w' := by
 by_cases z_wa : wa = 0
 ·subst z_wa
  by_cases z_ow : ow = 0
  ·subst z_ow
   by_cases z_N : N = 0
   ·subst z_N
    by_cases z_rs : rs.size = 0
    ·have i_rs : rs.toList.isEmpty = true := by rw [empty_toList]; simp [z_rs]
     have Z := hide z_rs
     clear z_rs
     have HV := hide (show RQ.frm ⟨cl, nu, ac, 3, rc, ve, 0, 0, .slice xo 0 xc, rs⟩ F = fdsB F false by unfold RQ.frm; simp [unhide hnil, unhide hN, unhide Z])
     go_enter Tryz.func23, Tryz.ntmps23
     go_wp2_with fail
     refine ((unhide HFi) false _ (by repeat first | exact Fr.refl _ _ | refine Fr.alloc ?_ _ | refine Fr.setCell (p := ⟨_, _, none⟩) ?_ (.inr (by simp)) _)).mono ?_
     rintro e w2 ⟨rfl, hf2⟩
     go_wp2_with fail
     go_ret
     exact ⟨congrArg (fun b => Ending.returned (.bool b)) (unhide HV).symm, hf2⟩
    ·have i_rs : rs.toList.isEmpty = false := by rw [empty_toList]; simp [z_rs]
     have HV := hide (show RQ.frm ⟨cl, nu, ac, 3, rc, ve, 0, 0, .slice xo 0 xc, rs⟩ F = false by unfold RQ.frm; simp [unhide hnil, unhide hN, z_rs])
     clear HFi
     go_enter Tryz.func23, Tryz.ntmps23
     go_wp2_with fail
     go_ret
     exact ⟨congrArg (fun b => Ending.returned (.bool b)) (unhide HV).symm, (by repeat first | exact Fr.refl _ _ | refine Fr.alloc ?_ _ | refine Fr.setCell (p := ⟨_, _, none⟩) ?_ (.inr (by simp)) _)⟩
   ·have i_N : ¬ (N : Int) = 0 := by omega
    have j_N : (0 : Int) < (N : Int) := by omega
    have HV := hide (show RQ.frm ⟨cl, nu, ac, 3, rc, ve, 0, 0, .slice xo N xc, rs⟩ F = false by unfold RQ.frm; simp [unhide hnil, unhide hN, z_N])
    clear HFi
    go_enter Tryz.func23, Tryz.ntmps23
    go_wp2_with fail
    go_ret
    exact ⟨congrArg (fun b => Ending.returned (.bool b)) (unhide HV).symm, (by repeat first | exact Fr.refl _ _ | refine Fr.alloc ?_ _ | refine Fr.setCell (p := ⟨_, _, none⟩) ?_ (.inr (by simp)) _)⟩
  ·have i_ow : ¬ (ow : Int) = 0 := by omega
   have HV := hide (show RQ.frm ⟨cl, nu, ac, 3, rc, ve, 0, ow, .slice xo N xc, rs⟩ F = false by unfold RQ.frm; simp [unhide hnil, unhide hN, z_ow])
   clear HFi
   go_enter Tryz.func23, Tryz.ntmps23
   go_wp2_with fail
   go_ret
   exact ⟨congrArg (fun b => Ending.returned (.bool b)) (unhide HV).symm, (by repeat first | exact Fr.refl _ _ | refine Fr.alloc ?_ _ | refine Fr.setCell (p := ⟨_, _, none⟩) ?_ (.inr (by simp)) _)⟩
 ·have i_wa : ¬ (wa : Int) = 0 := by omega
  have HV := hide (show RQ.frm ⟨cl, nu, ac, 3, rc, ve, wa, ow, .slice xo N xc, rs⟩ F = false by unfold RQ.frm; simp [unhide hnil, unhide hN, z_wa])
  clear HFi
  go_enter Tryz.func23, Tryz.ntmps23
  go_wp2_with fail
  go_ret
  exact ⟨congrArg (fun b => Ending.returned (.bool b)) (unhide HV).symm, (by repeat first | exact Fr.refl _ _ | refine Fr.alloc ?_ _ | refine Fr.setCell (p := ⟨_, _, none⟩) ?_ (.inr (by simp)) _)⟩
set_option linter.unusedSimpArgs false in
set_option maxHeartbeats 1000000 in
set_option maxRecDepth 100000 in
theorem gformed_4 (cl nu ac rc ve wa ow : Nat) (xo : Option Addr) (xc : Nat) (rs : ByteArray) (F : List F5) (N : Nat) (w : World) (HFi : Hid (∀ gone W, Fr (fun _ => False) w W → Calls Tryz.prog 40 #[.slice xo N xc, .bool gone] W fun e w' => e = .returned (.bool (fdsB F gone)) ∧ Fr (fun _ => False) w w')) (hN : Hid (F.length = N)) (hnil : Hid (F.length = 0 → fdsB F false = true)) :
  Calls Tryz.prog 23 #[.agg #[.int .u32 (cl : Nat), .int .u32 (nu : Nat), .int .u32 (ac : Nat), .int .u8 4, .int .u32 (rc : Nat), .int .u32 (ve : Nat), .int .u32 (wa : Nat), .int .u32 (ow : Nat), .slice xo N xc, .string rs]] w fun e w' => e = .returned (.bool (RQ.frm ⟨cl, nu, ac, 4, rc, ve, wa, ow, .slice xo N xc, rs⟩ F)) ∧ Fr (fun _ => False) w w' := by
 by_cases z_wa : wa = 0
 ·subst z_wa
  by_cases z_ow : ow = 0
  ·subst z_ow
   by_cases z_N : N = 0
   ·subst z_N
    by_cases z_rs : rs.size = 0
    ·have i_rs : rs.toList.isEmpty = true := by rw [empty_toList]; simp [z_rs]
     have Z := hide z_rs
     clear z_rs
     have HV := hide (show RQ.frm ⟨cl, nu, ac, 4, rc, ve, 0, 0, .slice xo 0 xc, rs⟩ F = fdsB F false by unfold RQ.frm; simp [unhide hnil, unhide hN, unhide Z])
     go_enter Tryz.func23, Tryz.ntmps23
     go_wp2_with fail
     refine ((unhide HFi) false _ (by repeat first | exact Fr.refl _ _ | refine Fr.alloc ?_ _ | refine Fr.setCell (p := ⟨_, _, none⟩) ?_ (.inr (by simp)) _)).mono ?_
     rintro e w2 ⟨rfl, hf2⟩
     go_wp2_with fail
     go_ret
     exact ⟨congrArg (fun b => Ending.returned (.bool b)) (unhide HV).symm, hf2⟩
    ·have i_rs : rs.toList.isEmpty = false := by rw [empty_toList]; simp [z_rs]
     have HV := hide (show RQ.frm ⟨cl, nu, ac, 4, rc, ve, 0, 0, .slice xo 0 xc, rs⟩ F = false by unfold RQ.frm; simp [unhide hnil, unhide hN, z_rs])
     clear HFi
     go_enter Tryz.func23, Tryz.ntmps23
     go_wp2_with fail
     go_ret
     exact ⟨congrArg (fun b => Ending.returned (.bool b)) (unhide HV).symm, (by repeat first | exact Fr.refl _ _ | refine Fr.alloc ?_ _ | refine Fr.setCell (p := ⟨_, _, none⟩) ?_ (.inr (by simp)) _)⟩
   ·have i_N : ¬ (N : Int) = 0 := by omega
    have j_N : (0 : Int) < (N : Int) := by omega
    have HV := hide (show RQ.frm ⟨cl, nu, ac, 4, rc, ve, 0, 0, .slice xo N xc, rs⟩ F = false by unfold RQ.frm; simp [unhide hnil, unhide hN, z_N])
    clear HFi
    go_enter Tryz.func23, Tryz.ntmps23
    go_wp2_with fail
    go_ret
    exact ⟨congrArg (fun b => Ending.returned (.bool b)) (unhide HV).symm, (by repeat first | exact Fr.refl _ _ | refine Fr.alloc ?_ _ | refine Fr.setCell (p := ⟨_, _, none⟩) ?_ (.inr (by simp)) _)⟩
  ·have i_ow : ¬ (ow : Int) = 0 := by omega
   have HV := hide (show RQ.frm ⟨cl, nu, ac, 4, rc, ve, 0, ow, .slice xo N xc, rs⟩ F = false by unfold RQ.frm; simp [unhide hnil, unhide hN, z_ow])
   clear HFi
   go_enter Tryz.func23, Tryz.ntmps23
   go_wp2_with fail
   go_ret
   exact ⟨congrArg (fun b => Ending.returned (.bool b)) (unhide HV).symm, (by repeat first | exact Fr.refl _ _ | refine Fr.alloc ?_ _ | refine Fr.setCell (p := ⟨_, _, none⟩) ?_ (.inr (by simp)) _)⟩
 ·have i_wa : ¬ (wa : Int) = 0 := by omega
  have HV := hide (show RQ.frm ⟨cl, nu, ac, 4, rc, ve, wa, ow, .slice xo N xc, rs⟩ F = false by unfold RQ.frm; simp [unhide hnil, unhide hN, z_wa])
  clear HFi
  go_enter Tryz.func23, Tryz.ntmps23
  go_wp2_with fail
  go_ret
  exact ⟨congrArg (fun b => Ending.returned (.bool b)) (unhide HV).symm, (by repeat first | exact Fr.refl _ _ | refine Fr.alloc ?_ _ | refine Fr.setCell (p := ⟨_, _, none⟩) ?_ (.inr (by simp)) _)⟩
set_option linter.unusedSimpArgs false in
set_option maxHeartbeats 1000000 in
set_option maxRecDepth 100000 in
theorem gformed_5 (cl nu ac rc ve wa ow : Nat) (xo : Option Addr) (xc : Nat) (rs : ByteArray) (F : List F5) (N : Nat) (w : World) (HFi : Hid (∀ gone W, Fr (fun _ => False) w W → Calls Tryz.prog 40 #[.slice xo N xc, .bool gone] W fun e w' => e = .returned (.bool (fdsB F gone)) ∧ Fr (fun _ => False) w w')) (hN : Hid (F.length = N)) (hnil : Hid (F.length = 0 → fdsB F false = true)) :
  Calls Tryz.prog 23 #[.agg #[.int .u32 (cl : Nat), .int .u32 (nu : Nat), .int .u32 (ac : Nat), .int .u8 5, .int .u32 (rc : Nat), .int .u32 (ve : Nat), .int .u32 (wa : Nat), .int .u32 (ow : Nat), .slice xo N xc, .string rs]] w fun e w' => e = .returned (.bool (RQ.frm ⟨cl, nu, ac, 5, rc, ve, wa, ow, .slice xo N xc, rs⟩ F)) ∧ Fr (fun _ => False) w w' := by
 by_cases z_ve : ve = 0
 ·subst z_ve
  by_cases z_wa : wa = 0
  ·subst z_wa
   by_cases z_ow : ow = 0
   ·subst z_ow
    by_cases z_N : N = 0
    ·subst z_N
     by_cases z_rs : rs.size = 0
     ·have i_rs : rs.toList.isEmpty = true := by rw [empty_toList]; simp [z_rs]
      have Z := hide z_rs
      clear z_rs
      have HV := hide (show RQ.frm ⟨cl, nu, ac, 5, rc, 0, 0, 0, .slice xo 0 xc, rs⟩ F = fdsB F false by unfold RQ.frm; simp [unhide hnil, unhide hN, unhide Z])
      go_enter Tryz.func23, Tryz.ntmps23
      go_wp2_with fail
      refine ((unhide HFi) false _ (by repeat first | exact Fr.refl _ _ | refine Fr.alloc ?_ _ | refine Fr.setCell (p := ⟨_, _, none⟩) ?_ (.inr (by simp)) _)).mono ?_
      rintro e w2 ⟨rfl, hf2⟩
      go_wp2_with fail
      go_ret
      exact ⟨congrArg (fun b => Ending.returned (.bool b)) (unhide HV).symm, hf2⟩
     ·have i_rs : rs.toList.isEmpty = false := by rw [empty_toList]; simp [z_rs]
      have HV := hide (show RQ.frm ⟨cl, nu, ac, 5, rc, 0, 0, 0, .slice xo 0 xc, rs⟩ F = false by unfold RQ.frm; simp [unhide hnil, unhide hN, z_rs])
      clear HFi
      go_enter Tryz.func23, Tryz.ntmps23
      go_wp2_with fail
      go_ret
      exact ⟨congrArg (fun b => Ending.returned (.bool b)) (unhide HV).symm, (by repeat first | exact Fr.refl _ _ | refine Fr.alloc ?_ _ | refine Fr.setCell (p := ⟨_, _, none⟩) ?_ (.inr (by simp)) _)⟩
    ·have i_N : ¬ (N : Int) = 0 := by omega
     have j_N : (0 : Int) < (N : Int) := by omega
     have HV := hide (show RQ.frm ⟨cl, nu, ac, 5, rc, 0, 0, 0, .slice xo N xc, rs⟩ F = false by unfold RQ.frm; simp [unhide hnil, unhide hN, z_N])
     clear HFi
     go_enter Tryz.func23, Tryz.ntmps23
     go_wp2_with fail
     go_ret
     exact ⟨congrArg (fun b => Ending.returned (.bool b)) (unhide HV).symm, (by repeat first | exact Fr.refl _ _ | refine Fr.alloc ?_ _ | refine Fr.setCell (p := ⟨_, _, none⟩) ?_ (.inr (by simp)) _)⟩
   ·have i_ow : ¬ (ow : Int) = 0 := by omega
    have HV := hide (show RQ.frm ⟨cl, nu, ac, 5, rc, 0, 0, ow, .slice xo N xc, rs⟩ F = false by unfold RQ.frm; simp [unhide hnil, unhide hN, z_ow])
    clear HFi
    go_enter Tryz.func23, Tryz.ntmps23
    go_wp2_with fail
    go_ret
    exact ⟨congrArg (fun b => Ending.returned (.bool b)) (unhide HV).symm, (by repeat first | exact Fr.refl _ _ | refine Fr.alloc ?_ _ | refine Fr.setCell (p := ⟨_, _, none⟩) ?_ (.inr (by simp)) _)⟩
  ·have i_wa : ¬ (wa : Int) = 0 := by omega
   have HV := hide (show RQ.frm ⟨cl, nu, ac, 5, rc, 0, wa, ow, .slice xo N xc, rs⟩ F = false by unfold RQ.frm; simp [unhide hnil, unhide hN, z_wa])
   clear HFi
   go_enter Tryz.func23, Tryz.ntmps23
   go_wp2_with fail
   go_ret
   exact ⟨congrArg (fun b => Ending.returned (.bool b)) (unhide HV).symm, (by repeat first | exact Fr.refl _ _ | refine Fr.alloc ?_ _ | refine Fr.setCell (p := ⟨_, _, none⟩) ?_ (.inr (by simp)) _)⟩
 ·have i_ve : ¬ (ve : Int) = 0 := by omega
  have HV := hide (show RQ.frm ⟨cl, nu, ac, 5, rc, ve, wa, ow, .slice xo N xc, rs⟩ F = false by unfold RQ.frm; simp [unhide hnil, unhide hN, z_ve])
  clear HFi
  go_enter Tryz.func23, Tryz.ntmps23
  go_wp2_with fail
  go_ret
  exact ⟨congrArg (fun b => Ending.returned (.bool b)) (unhide HV).symm, (by repeat first | exact Fr.refl _ _ | refine Fr.alloc ?_ _ | refine Fr.setCell (p := ⟨_, _, none⟩) ?_ (.inr (by simp)) _)⟩
set_option linter.unusedSimpArgs false in
set_option maxHeartbeats 1000000 in
set_option maxRecDepth 100000 in
theorem gformed_6 (cl nu ac rc ve wa ow : Nat) (xo : Option Addr) (xc : Nat) (rs : ByteArray) (F : List F5) (N : Nat) (w : World) (HFi : Hid (∀ gone W, Fr (fun _ => False) w W → Calls Tryz.prog 40 #[.slice xo N xc, .bool gone] W fun e w' => e = .returned (.bool (fdsB F gone)) ∧ Fr (fun _ => False) w w')) (hN : Hid (F.length = N)) (hnil : Hid (F.length = 0 → fdsB F false = true)) (hve : ve < 4294967296) :
  Calls Tryz.prog 23 #[.agg #[.int .u32 (cl : Nat), .int .u32 (nu : Nat), .int .u32 (ac : Nat), .int .u8 6, .int .u32 (rc : Nat), .int .u32 (ve : Nat), .int .u32 (wa : Nat), .int .u32 (ow : Nat), .slice xo N xc, .string rs]] w fun e w' => e = .returned (.bool (RQ.frm ⟨cl, nu, ac, 6, rc, ve, wa, ow, .slice xo N xc, rs⟩ F)) ∧ Fr (fun _ => False) w w' := by
 by_cases z_ve : ve ≤ 1
 ·have i_ve : (ve : Int) / 2 % 4294967296 = 0 := by omega
  have i_v2 : (ve : Int) / 2 = 0 := by omega
  by_cases z_wa : wa = 0
  ·subst z_wa
   by_cases z_ow : ow = 0
   ·subst z_ow
    by_cases z_N : N = 0
    ·subst z_N
     by_cases z_rs : rs.size = 0
     ·have i_rs : rs.toList.isEmpty = true := by rw [empty_toList]; simp [z_rs]
      have Z := hide z_rs
      clear z_rs
      have HV := hide (show RQ.frm ⟨cl, nu, ac, 6, rc, ve, 0, 0, .slice xo 0 xc, rs⟩ F = fdsB F false by unfold RQ.frm; simp [unhide hnil, unhide hN, z_ve, unhide Z])
      go_enter Tryz.func23, Tryz.ntmps23
      go_wp2_with fail
      refine ((unhide HFi) false _ (by repeat first | exact Fr.refl _ _ | refine Fr.alloc ?_ _ | refine Fr.setCell (p := ⟨_, _, none⟩) ?_ (.inr (by simp)) _)).mono ?_
      rintro e w2 ⟨rfl, hf2⟩
      go_wp2_with fail
      go_ret
      exact ⟨congrArg (fun b => Ending.returned (.bool b)) (unhide HV).symm, hf2⟩
     ·have i_rs : rs.toList.isEmpty = false := by rw [empty_toList]; simp [z_rs]
      have HV := hide (show RQ.frm ⟨cl, nu, ac, 6, rc, ve, 0, 0, .slice xo 0 xc, rs⟩ F = false by unfold RQ.frm; simp [unhide hnil, unhide hN, z_ve, z_rs])
      clear HFi
      go_enter Tryz.func23, Tryz.ntmps23
      go_wp2_with fail
      go_ret
      exact ⟨congrArg (fun b => Ending.returned (.bool b)) (unhide HV).symm, (by repeat first | exact Fr.refl _ _ | refine Fr.alloc ?_ _ | refine Fr.setCell (p := ⟨_, _, none⟩) ?_ (.inr (by simp)) _)⟩
    ·have i_N : ¬ (N : Int) = 0 := by omega
     have j_N : (0 : Int) < (N : Int) := by omega
     have HV := hide (show RQ.frm ⟨cl, nu, ac, 6, rc, ve, 0, 0, .slice xo N xc, rs⟩ F = false by unfold RQ.frm; simp [unhide hnil, unhide hN, z_ve, z_N])
     clear HFi
     go_enter Tryz.func23, Tryz.ntmps23
     go_wp2_with fail
     go_ret
     exact ⟨congrArg (fun b => Ending.returned (.bool b)) (unhide HV).symm, (by repeat first | exact Fr.refl _ _ | refine Fr.alloc ?_ _ | refine Fr.setCell (p := ⟨_, _, none⟩) ?_ (.inr (by simp)) _)⟩
   ·have i_ow : ¬ (ow : Int) = 0 := by omega
    have HV := hide (show RQ.frm ⟨cl, nu, ac, 6, rc, ve, 0, ow, .slice xo N xc, rs⟩ F = false by unfold RQ.frm; simp [unhide hnil, unhide hN, z_ve, z_ow])
    clear HFi
    go_enter Tryz.func23, Tryz.ntmps23
    go_wp2_with fail
    go_ret
    exact ⟨congrArg (fun b => Ending.returned (.bool b)) (unhide HV).symm, (by repeat first | exact Fr.refl _ _ | refine Fr.alloc ?_ _ | refine Fr.setCell (p := ⟨_, _, none⟩) ?_ (.inr (by simp)) _)⟩
  ·have i_wa : ¬ (wa : Int) = 0 := by omega
   have HV := hide (show RQ.frm ⟨cl, nu, ac, 6, rc, ve, wa, ow, .slice xo N xc, rs⟩ F = false by unfold RQ.frm; simp [unhide hnil, unhide hN, z_ve, z_wa])
   clear HFi
   go_enter Tryz.func23, Tryz.ntmps23
   go_wp2_with fail
   go_ret
   exact ⟨congrArg (fun b => Ending.returned (.bool b)) (unhide HV).symm, (by repeat first | exact Fr.refl _ _ | refine Fr.alloc ?_ _ | refine Fr.setCell (p := ⟨_, _, none⟩) ?_ (.inr (by simp)) _)⟩
 ·have i_ve : ¬ (ve : Int) / 2 % 4294967296 = 0 := by omega
  have HV := hide (show RQ.frm ⟨cl, nu, ac, 6, rc, ve, wa, ow, .slice xo N xc, rs⟩ F = false by unfold RQ.frm; simp [unhide hnil, unhide hN, z_ve])
  clear HFi
  go_enter Tryz.func23, Tryz.ntmps23
  go_wp2_with fail
  go_ret
  exact ⟨congrArg (fun b => Ending.returned (.bool b)) (unhide HV).symm, (by repeat first | exact Fr.refl _ _ | refine Fr.alloc ?_ _ | refine Fr.setCell (p := ⟨_, _, none⟩) ?_ (.inr (by simp)) _)⟩
set_option linter.unusedSimpArgs false in
set_option maxHeartbeats 1000000 in
set_option maxRecDepth 100000 in
theorem gformed_7 (cl nu ac rc ve wa ow : Nat) (xo : Option Addr) (xc : Nat) (rs : ByteArray) (F : List F5) (N : Nat) (w : World) (HFi : Hid (∀ gone W, Fr (fun _ => False) w W → Calls Tryz.prog 40 #[.slice xo N xc, .bool gone] W fun e w' => e = .returned (.bool (fdsB F gone)) ∧ Fr (fun _ => False) w w')) (hN : Hid (F.length = N)) (hnil : Hid (F.length = 0 → fdsB F false = true)) :
  Calls Tryz.prog 23 #[.agg #[.int .u32 (cl : Nat), .int .u32 (nu : Nat), .int .u32 (ac : Nat), .int .u8 7, .int .u32 (rc : Nat), .int .u32 (ve : Nat), .int .u32 (wa : Nat), .int .u32 (ow : Nat), .slice xo N xc, .string rs]] w fun e w' => e = .returned (.bool (RQ.frm ⟨cl, nu, ac, 7, rc, ve, wa, ow, .slice xo N xc, rs⟩ F)) ∧ Fr (fun _ => False) w w' := by
 by_cases z_rs : rs.size ≤ 64
 ·have i_rs : (rs.size : Int) ≤ 64 := by omega
  by_cases z_ve : ve = 0
  ·subst z_ve
   by_cases z_wa : wa = 0
   ·subst z_wa
    by_cases z_ow : ow = 0
    ·subst z_ow
     by_cases z_N : N = 0
     ·subst z_N
      have HV := hide (show RQ.frm ⟨cl, nu, ac, 7, rc, 0, 0, 0, .slice xo 0 xc, rs⟩ F = fdsB F false by unfold RQ.frm; simp [unhide hnil, unhide hN, z_rs])
      go_enter Tryz.func23, Tryz.ntmps23
      go_wp2_with fail
      refine ((unhide HFi) false _ (by repeat first | exact Fr.refl _ _ | refine Fr.alloc ?_ _ | refine Fr.setCell (p := ⟨_, _, none⟩) ?_ (.inr (by simp)) _)).mono ?_
      rintro e w2 ⟨rfl, hf2⟩
      go_wp2_with fail
      go_ret
      exact ⟨congrArg (fun b => Ending.returned (.bool b)) (unhide HV).symm, hf2⟩
     ·have i_N : ¬ (N : Int) = 0 := by omega
      have j_N : (0 : Int) < (N : Int) := by omega
      have HV := hide (show RQ.frm ⟨cl, nu, ac, 7, rc, 0, 0, 0, .slice xo N xc, rs⟩ F = false by unfold RQ.frm; simp [unhide hnil, unhide hN, z_rs, z_N])
      clear HFi
      go_enter Tryz.func23, Tryz.ntmps23
      go_wp2_with fail
      go_ret
      exact ⟨congrArg (fun b => Ending.returned (.bool b)) (unhide HV).symm, (by repeat first | exact Fr.refl _ _ | refine Fr.alloc ?_ _ | refine Fr.setCell (p := ⟨_, _, none⟩) ?_ (.inr (by simp)) _)⟩
    ·have i_ow : ¬ (ow : Int) = 0 := by omega
     have HV := hide (show RQ.frm ⟨cl, nu, ac, 7, rc, 0, 0, ow, .slice xo N xc, rs⟩ F = false by unfold RQ.frm; simp [unhide hnil, unhide hN, z_rs, z_ow])
     clear HFi
     go_enter Tryz.func23, Tryz.ntmps23
     go_wp2_with fail
     go_ret
     exact ⟨congrArg (fun b => Ending.returned (.bool b)) (unhide HV).symm, (by repeat first | exact Fr.refl _ _ | refine Fr.alloc ?_ _ | refine Fr.setCell (p := ⟨_, _, none⟩) ?_ (.inr (by simp)) _)⟩
   ·have i_wa : ¬ (wa : Int) = 0 := by omega
    have HV := hide (show RQ.frm ⟨cl, nu, ac, 7, rc, 0, wa, ow, .slice xo N xc, rs⟩ F = false by unfold RQ.frm; simp [unhide hnil, unhide hN, z_rs, z_wa])
    clear HFi
    go_enter Tryz.func23, Tryz.ntmps23
    go_wp2_with fail
    go_ret
    exact ⟨congrArg (fun b => Ending.returned (.bool b)) (unhide HV).symm, (by repeat first | exact Fr.refl _ _ | refine Fr.alloc ?_ _ | refine Fr.setCell (p := ⟨_, _, none⟩) ?_ (.inr (by simp)) _)⟩
  ·have i_ve : ¬ (ve : Int) = 0 := by omega
   have HV := hide (show RQ.frm ⟨cl, nu, ac, 7, rc, ve, wa, ow, .slice xo N xc, rs⟩ F = false by unfold RQ.frm; simp [unhide hnil, unhide hN, z_rs, z_ve])
   clear HFi
   go_enter Tryz.func23, Tryz.ntmps23
   go_wp2_with fail
   go_ret
   exact ⟨congrArg (fun b => Ending.returned (.bool b)) (unhide HV).symm, (by repeat first | exact Fr.refl _ _ | refine Fr.alloc ?_ _ | refine Fr.setCell (p := ⟨_, _, none⟩) ?_ (.inr (by simp)) _)⟩
 ·have i_rs : rs.toList.isEmpty = false := by rw [empty_toList, decide_eq_false (by omega)]
  have i_r2 : ¬ (rs.size : Int) ≤ 64 := by omega
  by_cases z_ve : ve = 0
  ·subst z_ve
   by_cases z_wa : wa = 0
   ·subst z_wa
    by_cases z_ow : ow = 0
    ·subst z_ow
     by_cases z_N : N = 0
     ·subst z_N
      have HV := hide (show RQ.frm ⟨cl, nu, ac, 7, rc, 0, 0, 0, .slice xo 0 xc, rs⟩ F = false by unfold RQ.frm; simp [unhide hnil, unhide hN, z_rs])
      clear HFi
      go_enter Tryz.func23, Tryz.ntmps23
      go_wp2_with fail
      go_ret
      exact ⟨congrArg (fun b => Ending.returned (.bool b)) (unhide HV).symm, (by repeat first | exact Fr.refl _ _ | refine Fr.alloc ?_ _ | refine Fr.setCell (p := ⟨_, _, none⟩) ?_ (.inr (by simp)) _)⟩
     ·have i_N : ¬ (N : Int) = 0 := by omega
      have j_N : (0 : Int) < (N : Int) := by omega
      have HV := hide (show RQ.frm ⟨cl, nu, ac, 7, rc, 0, 0, 0, .slice xo N xc, rs⟩ F = false by unfold RQ.frm; simp [unhide hnil, unhide hN, z_rs, z_N])
      clear HFi
      go_enter Tryz.func23, Tryz.ntmps23
      go_wp2_with fail
      go_ret
      exact ⟨congrArg (fun b => Ending.returned (.bool b)) (unhide HV).symm, (by repeat first | exact Fr.refl _ _ | refine Fr.alloc ?_ _ | refine Fr.setCell (p := ⟨_, _, none⟩) ?_ (.inr (by simp)) _)⟩
    ·have i_ow : ¬ (ow : Int) = 0 := by omega
     have HV := hide (show RQ.frm ⟨cl, nu, ac, 7, rc, 0, 0, ow, .slice xo N xc, rs⟩ F = false by unfold RQ.frm; simp [unhide hnil, unhide hN, z_rs, z_ow])
     clear HFi
     go_enter Tryz.func23, Tryz.ntmps23
     go_wp2_with fail
     go_ret
     exact ⟨congrArg (fun b => Ending.returned (.bool b)) (unhide HV).symm, (by repeat first | exact Fr.refl _ _ | refine Fr.alloc ?_ _ | refine Fr.setCell (p := ⟨_, _, none⟩) ?_ (.inr (by simp)) _)⟩
   ·have i_wa : ¬ (wa : Int) = 0 := by omega
    have HV := hide (show RQ.frm ⟨cl, nu, ac, 7, rc, 0, wa, ow, .slice xo N xc, rs⟩ F = false by unfold RQ.frm; simp [unhide hnil, unhide hN, z_rs, z_wa])
    clear HFi
    go_enter Tryz.func23, Tryz.ntmps23
    go_wp2_with fail
    go_ret
    exact ⟨congrArg (fun b => Ending.returned (.bool b)) (unhide HV).symm, (by repeat first | exact Fr.refl _ _ | refine Fr.alloc ?_ _ | refine Fr.setCell (p := ⟨_, _, none⟩) ?_ (.inr (by simp)) _)⟩
  ·have i_ve : ¬ (ve : Int) = 0 := by omega
   have HV := hide (show RQ.frm ⟨cl, nu, ac, 7, rc, ve, wa, ow, .slice xo N xc, rs⟩ F = false by unfold RQ.frm; simp [unhide hnil, unhide hN, z_rs, z_ve])
   clear HFi
   go_enter Tryz.func23, Tryz.ntmps23
   go_wp2_with fail
   go_ret
   exact ⟨congrArg (fun b => Ending.returned (.bool b)) (unhide HV).symm, (by repeat first | exact Fr.refl _ _ | refine Fr.alloc ?_ _ | refine Fr.setCell (p := ⟨_, _, none⟩) ?_ (.inr (by simp)) _)⟩
set_option maxHeartbeats 1000000 in
set_option maxRecDepth 100000 in
theorem gformed_no (cl nu ac op rc ve wa ow : Nat) (xo : Option Addr) (xn xc : Nat) (rs : ByteArray) (w : World) (h1 : ¬ op = 1) (h2 : ¬ op = 2) (h3 : ¬ op = 3) (h4 : ¬ op = 4) (h5 : ¬ op = 5) (h6 : ¬ op = 6) (h7 : ¬ op = 7) :
  Calls Tryz.prog 23 #[.agg #[.int .u32 (cl : Nat), .int .u32 (nu : Nat), .int .u32 (ac : Nat), .int .u8 (op : Nat), .int .u32 (rc : Nat), .int .u32 (ve : Nat), .int .u32 (wa : Nat), .int .u32 (ow : Nat), .slice xo xn xc, .string rs]] w fun e w' => e = .returned (.bool false) ∧ Fr (fun _ => False) w w' := by
 have i1 : ¬ (op : Int) = 1 := by omega
 have i2 : ¬ (op : Int) = 2 := by omega
 have i3 : ¬ (op : Int) = 3 := by omega
 have i4 : ¬ (op : Int) = 4 := by omega
 have i5 : ¬ (op : Int) = 5 := by omega
 have i6 : ¬ (op : Int) = 6 := by omega
 have i7 : ¬ (op : Int) = 7 := by omega
 clear h1 h2 h3 h4 h5 h6 h7
 go_enter Tryz.func23, Tryz.ntmps23
 go_wp2_with fail
 go_ret
 exact ⟨rfl, (by repeat first | exact Fr.refl _ _ | refine Fr.alloc ?_ _ | refine Fr.setCell (p := ⟨_, _, none⟩) ?_ (.inr (by simp)) _)⟩
theorem gformed_any (cl nu ac op rc ve wa ow : Nat) (x : Value) (rs : ByteArray) (F : List F5) (w : World) (hx : Fds w x F) (hl : F.length ≤ 140737488355328) (hv : ∀ f ∈ F, f.v < 4294967296 ∧ f.u < 256) (hve : ve < 4294967296) :
  Calls Tryz.prog 23 #[.agg #[.int .u32 (cl : Nat), .int .u32 (nu : Nat), .int .u32 (ac : Nat), .int .u8 (op : Nat), .int .u32 (rc : Nat), .int .u32 (ve : Nat), .int .u32 (wa : Nat), .int .u32 (ow : Nat), x, .string rs]] w fun e w' => e = .returned (.bool (RQ.frm ⟨cl, nu, ac, op, rc, ve, wa, ow, x, rs⟩ F)) ∧ Fr (fun _ => False) w w' := by
 have HFi : Hid (∀ gone W, Fr (fun _ => False) w W → Calls Tryz.prog 40 #[x, .bool gone] W fun e w' => e = .returned (.bool (fdsB F gone)) ∧ Fr (fun _ => False) w w') := fun gone W hW => (gfields_any x F gone W (hx.fr hW) hl hv).mono fun e w' h => ⟨h.1, hW.trans h.2 (fun _ _ h => h)⟩
 obtain ⟨xo, xc, rfl⟩ := hx.form
 have hnil : Hid (F.length = 0 → fdsB F false = true) := fun e => by
  obtain rfl := List.length_eq_zero_iff.1 e
  rfl
 by_cases h1 : op = 1
 ·subst h1; exact gformed_1 cl nu ac rc ve wa ow xo xc rs F F.length w HFi
 by_cases h2 : op = 2
 ·subst h2; exact gformed_2 cl nu ac rc ve wa ow xo xc rs F F.length w HFi
 by_cases h3 : op = 3
 ·subst h3; exact gformed_3 cl nu ac rc ve wa ow xo xc rs F F.length w HFi rfl hnil
 by_cases h4 : op = 4
 ·subst h4; exact gformed_4 cl nu ac rc ve wa ow xo xc rs F F.length w HFi rfl hnil
 by_cases h5 : op = 5
 ·subst h5; exact gformed_5 cl nu ac rc ve wa ow xo xc rs F F.length w HFi rfl hnil
 by_cases h6 : op = 6
 ·subst h6; exact gformed_6 cl nu ac rc ve wa ow xo xc rs F F.length w HFi rfl hnil hve
 by_cases h7 : op = 7
 ·subst h7; exact gformed_7 cl nu ac rc ve wa ow xo xc rs F F.length w HFi rfl hnil
 rw [show RQ.frm ⟨cl, nu, ac, op, rc, ve, wa, ow, .slice xo F.length xc, rs⟩ F = false by unfold RQ.frm; simp [h1, h2, h3, h4, h5, h6, h7]]
 exact gformed_no cl nu ac op rc ve wa ow xo _ xc rs w h1 h2 h3 h4 h5 h6 h7
def FLt (a b : F5) : Prop := Op.bytesLess a.n.toList b.n.toList = true
def Rise (l : List F5) : Prop := l.Pairwise FLt
theorem FLt.ne {a b : F5} (h : FLt a b) : ¬ a.n.toList = b.n.toList := fun e => by
 unfold FLt at h
 rw [e, bl_irr] at h
 cases h
theorem FLt.trans {a b c : F5} (h : FLt a b) (k : FLt b c) : FLt a c := bl_trans _ _ _ h k
theorem FLt.asym {a b : F5} (h : FLt a b) : ¬ FLt b a := fun k => by
 unfold FLt at h k
 rw [bl_asym _ _ h] at k
 cases k
theorem rise_ext : ∀ {l m : List F5}, Rise l → Rise m → (∀ x, x ∈ l ↔ x ∈ m) → l = m
 | [], [], _, _, _ => rfl
 | [], y :: m, _, _, h => by have := (h y).2 (by simp); cases this
 | x :: l, [], _, _, h => by have := (h x).1 (by simp); cases this
 | x :: l, y :: m, hl, hm, h => by
  obtain ⟨l1, l2⟩ := List.pairwise_cons.1 hl
  obtain ⟨m1, m2⟩ := List.pairwise_cons.1 hm
  have hxy : x = y := by
   rcases List.mem_cons.1 ((h x).1 (by simp)) with e | e
   ·exact e
   ·rcases List.mem_cons.1 ((h y).2 (by simp)) with e' | e'
    ·exact e'.symm
    ·exact absurd (m1 x e) (l1 y e').asym
  subst hxy
  rw [rise_ext l2 m2 (fun z => ?_)]
  have hz := h z
  simp only [List.mem_cons] at hz
  constructor
  ·intro hzl
   rcases hz.1 (.inr hzl) with rfl | e
   ·exact absurd (l1 z hzl) (fun k => k.asym k)
   ·exact e
  ·intro hzm
   rcases hz.2 (.inr hzm) with rfl | e
   ·exact absurd (m1 z hzm) (fun k => k.asym k)
   ·exact e
theorem Rise.kept {l : List F5} (h : Rise l) : Rise (keptF l) := List.Pairwise.filter _ h
theorem kept_mem {f : F5} {l : List F5} : f ∈ keptF l ↔ f ∈ l ∧ f.k ≠ 3 := by simp [keptF]
theorem fidx_none {l : List F5} {n : ByteArray} : fidx l n = none ↔ ∀ f ∈ l, ¬ f.n.toList = n.toList := by
 unfold fidx
 rw [List.findIdx?_eq_none_iff]
 simp
theorem mrg_mem2 {x : F5} : ∀ (n : Nat) (l m : List F5), Rise l → Rise m → l.length + m.length ≤ n → (x ∈ mrg n l m ↔ (x ∈ l ∧ fidx m x.n = none) ∨ (x ∈ m ∧ x.k ≠ 3))
 | 0, l, m, _, _, h => by
  obtain rfl := List.length_eq_zero_iff.1 (show l.length = 0 by omega)
  obtain rfl := List.length_eq_zero_iff.1 (show m.length = 0 by omega)
  simp [mrg, keptF]
 | n + 1, [], m, _, _, _ => by rw [mrg_l]; simp [kept_mem]
 | n + 1, f :: r, [], _, _, _ => by rw [mrg_r]; simp [fidx]
 | n + 1, f :: r, c :: s, hl, hm, hn => by
  obtain ⟨l1, l2⟩ := List.pairwise_cons.1 hl
  obtain ⟨m1, m2⟩ := List.pairwise_cons.1 hm
  simp only [List.length_cons] at hn
  unfold mrg
  by_cases hle : sleB f.n c.n = true
  ·rw [if_pos hle]
   by_cases he : f.n.toList = c.n.toList
   ·rw [if_pos (by simpa using he), List.mem_append, mrg_mem2 n r s l2 m2 (by omega), kept_mem, fidx_none, fidx_none]
    have hcr : ∀ y ∈ r, ¬ c.n.toList = y.n.toList := fun y hy e => (l1 y hy).ne (by rw [he, e])
    constructor
    ·rintro (⟨h1, h2⟩ | ⟨h1, h2⟩ | ⟨h1, h2⟩)
     ·rw [List.mem_singleton] at h1; subst h1; exact .inr ⟨by simp, h2⟩
     ·refine .inl ⟨by simp [h1], fun y hy => ?_⟩
      rcases List.mem_cons.1 hy with rfl | hy
      ·exact hcr x h1
      ·exact h2 y hy
     ·exact .inr ⟨by simp [h1], h2⟩
    ·rintro (⟨h1, h2⟩ | ⟨h1, h2⟩)
     ·rcases List.mem_cons.1 h1 with rfl | h1
      ·exact absurd he.symm (h2 c (by simp))
      ·exact .inr (.inl ⟨h1, fun y hy => h2 y (by simp [hy])⟩)
     ·rcases List.mem_cons.1 h1 with rfl | h1
      ·exact .inl ⟨by simp, h2⟩
      ·exact .inr (.inr ⟨h1, h2⟩)
   ·rw [if_neg (by simpa using he), List.mem_cons, mrg_mem2 n r (c :: s) l2 hm (by simp; omega), fidx_none]
    have hlt : FLt f c := by
     unfold sleB at hle
     rw [Bool.or_eq_true] at hle
     rcases hle with h | h
     ·exact h
     ·exact absurd (by simpa using h) he
    have hf : ∀ y ∈ c :: s, ¬ y.n.toList = f.n.toList := fun y hy e => by
     rcases List.mem_cons.1 hy with rfl | hy
     ·exact he e.symm
     ·exact (hlt.trans (m1 y hy)).ne e.symm
    constructor
    ·rintro (rfl | ⟨h1, h2⟩ | h1)
     ·exact .inl ⟨by simp, hf⟩
     ·exact .inl ⟨by simp [h1], h2⟩
     ·exact .inr h1
    ·rintro (⟨h1, h2⟩ | h1)
     ·rcases List.mem_cons.1 h1 with rfl | h1
      ·exact .inl rfl
      ·exact .inr (.inl ⟨h1, h2⟩)
     ·exact .inr (.inr h1)
  ·rw [if_neg hle, List.mem_append, mrg_mem2 n (f :: r) s hl m2 (by simp; omega), kept_mem, fidx_none, fidx_none]
   have hlt : FLt c f := by
    have : (!(sleB f.n c.n)) = true := by simpa using hle
    unfold sleB at this
    rw [bl_not] at this
    exact this
   have hcr : ∀ y ∈ f :: r, ¬ c.n.toList = y.n.toList := fun y hy e => by
    rcases List.mem_cons.1 hy with rfl | hy
    ·exact hlt.ne e
    ·exact (hlt.trans (l1 y hy)).ne e
   constructor
   ·rintro (⟨h1, h2⟩ | ⟨h1, h2⟩ | ⟨h1, h2⟩)
    ·rw [List.mem_singleton] at h1; subst h1; exact .inr ⟨by simp, h2⟩
    ·refine .inl ⟨h1, fun y hy => ?_⟩
     rcases List.mem_cons.1 hy with rfl | hy
     ·exact hcr x h1
     ·exact h2 y hy
    ·exact .inr ⟨by simp [h1], h2⟩
   ·rintro (⟨h1, h2⟩ | ⟨h1, h2⟩)
    ·exact .inr (.inl ⟨h1, fun y hy => h2 y (by simp [hy])⟩)
    ·rcases List.mem_cons.1 h1 with rfl | h1
     ·exact .inl ⟨by simp, h2⟩
     ·exact .inr (.inr ⟨h1, h2⟩)
theorem mrg_rise : ∀ (n : Nat) (l m : List F5), Rise l → Rise m → l.length + m.length ≤ n → Rise (mrg n l m)
 | 0, l, m, _, _, h => by
  obtain rfl := List.length_eq_zero_iff.1 (show l.length = 0 by omega)
  obtain rfl := List.length_eq_zero_iff.1 (show m.length = 0 by omega)
  exact List.Pairwise.nil
 | n + 1, [], m, _, hm, _ => by rw [mrg_l]; exact hm.kept
 | n + 1, f :: r, [], hl, _, _ => by rw [mrg_r]; exact hl
 | n + 1, f :: r, c :: s, hl, hm, hn => by
  obtain ⟨l1, l2⟩ := List.pairwise_cons.1 hl
  obtain ⟨m1, m2⟩ := List.pairwise_cons.1 hm
  simp only [List.length_cons] at hn
  have hk : ∀ {L : List F5}, Rise L → (∀ y ∈ L, FLt c y) → Rise (keptF [c] ++ L) := fun hL hy => by
   by_cases h3 : c.k = 3
   ·rw [show keptF [c] = [] by simp [keptF, h3]]; exact hL
   ·rw [show keptF [c] = [c] by simp [keptF, h3]]; exact List.pairwise_cons.2 ⟨hy, hL⟩
  unfold mrg
  by_cases hle : sleB f.n c.n = true
  ·rw [if_pos hle]
   by_cases he : f.n.toList = c.n.toList
   ·rw [if_pos (by simpa using he)]
    refine hk (mrg_rise n r s l2 m2 (by omega)) (fun y hy => ?_)
    rcases (mrg_mem2 n r s l2 m2 (by omega)).1 hy with ⟨h1, _⟩ | ⟨h1, _⟩
    ·have := l1 y h1
     unfold FLt at this ⊢
     rw [← he]; exact this
    ·exact m1 y h1
   ·rw [if_neg (by simpa using he)]
    have hlt : FLt f c := by
     unfold sleB at hle
     rw [Bool.or_eq_true] at hle
     rcases hle with h | h
     ·exact h
     ·exact absurd (by simpa using h) he
    refine List.pairwise_cons.2 ⟨fun y hy => ?_, mrg_rise n r (c :: s) l2 hm (by simp; omega)⟩
    rcases (mrg_mem2 n r (c :: s) l2 hm (by simp; omega)).1 hy with ⟨h1, _⟩ | ⟨h1, _⟩
    ·exact l1 y h1
    ·rcases List.mem_cons.1 h1 with rfl | h1
     ·exact hlt
     ·exact hlt.trans (m1 y h1)
  ·rw [if_neg hle]
   have hlt : FLt c f := by
    have : (!(sleB f.n c.n)) = true := by simpa using hle
    unfold sleB at this
    rw [bl_not] at this
    exact this
   refine hk (mrg_rise n (f :: r) s hl m2 (by simp; omega)) (fun y hy => ?_)
   rcases (mrg_mem2 n (f :: r) s hl m2 (by simp; omega)).1 hy with ⟨h1, _⟩ | ⟨h1, _⟩
   ·rcases List.mem_cons.1 h1 with rfl | h1
    ·exact hlt
    ·exact hlt.trans (l1 y h1)
   ·exact m1 y h1
def bub : Nat → List F5 → List F5
 | 0, L => L
 | k + 1, L => match L[k + 1]?, L[k]? with
  | some x, some y => if Op.bytesLess x.n.toList y.n.toList then bub k ((L.set (k + 1) y).set k x) else L
  | _, _ => L
def srtN : Nat → Nat → List F5 → List F5
 | 0, _, L => L
 | m + 1, i, L => srtN m (i + 1) (bub i L)
theorem bub_spec : ∀ (k : Nat) (A B : List F5) (x : F5), A.length = k → ∃ J, bub k (A ++ x :: B) = J ++ B ∧ J.Perm (A ++ [x]) ∧ (Rise A → (∀ y ∈ A, ¬ y.n.toList = x.n.toList) → Rise J)
 | 0, A, B, x, h => by
  obtain rfl := List.length_eq_zero_iff.1 h
  exact ⟨[x], rfl, List.Perm.refl _, fun _ _ => List.pairwise_singleton _ _⟩
 | k + 1, A, B, x, h => by
  obtain ⟨A', y, rfl⟩ : ∃ A' y, A = A' ++ [y] := by
   have hne : A ≠ [] := fun e => by rw [e] at h; simp at h
   exact ⟨A.dropLast, A.getLast hne, (List.dropLast_concat_getLast hne).symm⟩
  have hk : A'.length = k := by simpa using h
  have e1 : (A' ++ [y] ++ x :: B)[k + 1]? = some x := by
   rw [List.getElem?_append_right (by simp; omega)]
   simp [hk]
  have e2 : (A' ++ [y] ++ x :: B)[k]? = some y := by
   rw [List.getElem?_append_left (by simp; omega), List.getElem?_append_right (by omega)]
   simp [hk]
  unfold bub
  rw [e1, e2]
  simp only
  by_cases hlt : Op.bytesLess x.n.toList y.n.toList = true
  ·rw [if_pos hlt]
   have es : ((A' ++ [y] ++ x :: B).set (k + 1) y).set k x = A' ++ x :: (y :: B) := by
    rw [List.set_append_right _ _ (by simp; omega)]
    simp only [List.length_append, List.length_singleton, hk, Nat.sub_self, List.set_cons_zero]
    rw [List.append_assoc, List.set_append_right _ _ (by omega)]
    simp [hk]
   rw [es]
   obtain ⟨J, h1, h2, h3⟩ := bub_spec k A' (y :: B) x hk
   refine ⟨J ++ [y], by rw [h1]; simp, ?_, fun hr hn => ?_⟩
   ·refine (h2.append_right [y]).trans ?_
    simp only [List.append_assoc, List.singleton_append]
    exact List.Perm.append_left A' (List.Perm.swap y x [])
   ·obtain ⟨r1, r2, r3⟩ := List.pairwise_append.1 hr
    refine List.pairwise_append.2 ⟨h3 r1 (fun z hz => hn z (by simp [hz])), List.pairwise_singleton _ _, fun a ha b hb => ?_⟩
    rw [List.mem_singleton] at hb
    subst hb
    have := h2.mem_iff.1 ha
    rcases List.mem_append.1 this with h | h
    ·exact r3 a h b (by simp)
    ·rw [List.mem_singleton] at h
     subst h
     exact hlt
  ·rw [if_neg hlt]
   refine ⟨A' ++ [y] ++ [x], by simp, List.Perm.refl _, fun hr hn => ?_⟩
   refine List.pairwise_append.2 ⟨hr, List.pairwise_singleton _ _, fun a ha b hb => ?_⟩
   rw [List.mem_singleton] at hb
   subst hb
   have hyb : FLt y b := by
    rcases bl_tri y.n.toList b.n.toList with h | h | h
    ·exact h
    ·exact absurd h (hn y (by simp))
    ·exact absurd h hlt
   obtain ⟨r1, r2, r3⟩ := List.pairwise_append.1 hr
   rcases List.mem_append.1 ha with h | h
   ·exact (r3 a h y (by simp)).trans hyb
   ·rw [List.mem_singleton] at h
    subst h
    exact hyb
def Apart (l : List F5) : Prop := l.Pairwise fun a b => ¬ a.n.toList = b.n.toList
theorem srtN_spec : ∀ (m : Nat) (A B : List F5), B.length = m → Rise A → Apart (A ++ B) → ∃ J, srtN m A.length (A ++ B) = J ∧ J.Perm (A ++ B) ∧ Rise J
 | 0, A, B, h, hr, _ => by
  obtain rfl := List.length_eq_zero_iff.1 h
  exact ⟨A, by simp [srtN], by simp, hr⟩
 | m + 1, A, [], h, _, _ => by simp at h
 | m + 1, A, x :: B, h, hr, ha => by
  obtain ⟨J, h1, h2, h3⟩ := bub_spec A.length A B x rfl
  obtain ⟨a1, a2, a3⟩ := List.pairwise_append.1 ha
  have hJ := h3 hr (fun y hy => a3 y hy x (by simp))
  have hlen : J.length = A.length + 1 := by have := h2.length_eq; simpa using this
  have hap : Apart (J ++ B) := by
   have hp : (J ++ B).Perm (A ++ x :: B) := by
    refine (h2.append_right B).trans ?_
    simp
   refine (hp.pairwise_iff ?_).2 ha
   intro a b hab e
   exact hab e.symm
  obtain ⟨K, k1, k2, k3⟩ := srtN_spec m J B (by simpa using h) hJ hap
  refine ⟨K, ?_, k2.trans ((h2.append_right B).trans (by simp)), k3⟩
  unfold srtN
  rw [h1, ← hlen]
  exact k1
theorem Rise.apart {l : List F5} (h : Rise l) : Apart l := h.imp (fun h => h.ne)
def gmrg (l m : List F5) : List F5 := l.filter (fun f => (fidx m f.n).isNone) ++ keptF m
theorem gmrg_eq {l m : List F5} (hl : Rise l) (hm : Rise m) : srtN (gmrg l m).length 0 (gmrg l m) = mrg (l.length + m.length) l m := by
 have hap : Apart (gmrg l m) := by
  refine List.pairwise_append.2 ⟨(hl.apart).filter _, (hm.kept).apart, fun a ha b hb => ?_⟩
  have h1 := (List.mem_filter.1 ha).2
  rw [Option.isNone_iff_eq_none, fidx_none] at h1
  exact fun e => h1 b (kept_mem.1 hb).1 e.symm
 obtain ⟨J, h1, h2, h3⟩ := srtN_spec (gmrg l m).length [] (gmrg l m) rfl List.Pairwise.nil (by simpa using hap)
 simp only [List.length_nil, List.nil_append] at h1 h2
 rw [h1]
 refine rise_ext h3 (mrg_rise _ l m hl hm (Nat.le_refl _)) (fun x => ?_)
 rw [h2.mem_iff, mrg_mem2 _ l m hl hm (Nat.le_refl _)]
 unfold gmrg
 rw [List.mem_append, List.mem_filter, kept_mem, Option.isNone_iff_eq_none]
theorem sameU_symm (a b : Nat) : sameU a b = sameU b a := by
 unfold sameU
 rcases isU a <;> rcases isU b <;> simp [Bool.beq_comm]
theorem rem1_iff {F : List F5} (hF : Rise F) (f : F5) : rem1 F f = true ↔ ∃ g ∈ F, g.n.toList = f.n.toList ∧ f.k = 2 ∧ g.k = 2 ∧ sameU f.u g.u = false := by
 unfold rem1
 cases h : fidx F f.n with
 | none =>
  simp only [Bool.false_eq_true, false_iff]
  rintro ⟨g, hg, e, _⟩
  exact fidx_none.1 h g hg e
 | some j =>
  unfold fidx at h
  rw [List.findIdx?_eq_some_iff_getElem] at h
  obtain ⟨hj, he, _⟩ := h
  have hd : F.getD j fld0 = F[j] := by simp [List.getD, hj]
  simp only [hd]
  have he' : F[j].n.toList = f.n.toList := by simpa using he
  constructor
  ·intro h
   simp only [Bool.and_eq_true, decide_eq_true_eq, Bool.not_eq_true'] at h
   exact ⟨F[j], List.getElem_mem hj, he', h.1.1, h.1.2, h.2⟩
  ·rintro ⟨g, hg, e, h1, h2, h3⟩
   obtain ⟨i, hi, rfl⟩ := List.mem_iff_getElem.1 hg
   have hij : i = j := by
    rcases Nat.lt_trichotomy i j with h | h | h
    ·exact absurd (e.trans he'.symm) ((List.pairwise_iff_getElem.1 hF i j hi hj h).ne)
    ·exact h
    ·exact absurd (he'.trans e.symm) ((List.pairwise_iff_getElem.1 hF j i hj hi h).ne)
   subst hij
   simp [h1, h2, h3]
theorem remU_swap {F C : List F5} (hF : Rise F) (hC : Rise C) : remU F C = remU C F := by
 have h : ∀ {A B : List F5}, Rise A → Rise B → remU A B = true → remU B A = true := fun {A B} hA hB h => by
  unfold remU at h ⊢
  rw [List.any_eq_true] at h ⊢
  obtain ⟨f, hf, h⟩ := h
  obtain ⟨g, hg, e, h1, h2, h3⟩ := (rem1_iff hA f).1 h
  exact ⟨g, hg, (rem1_iff hB g).2 ⟨f, hf, e.symm, h2, h1, by rw [sameU_symm]; exact h3⟩⟩
 cases h1 : remU F C
 ·cases h2 : remU C F
  ·rfl
  ·rw [h hC hF h2] at h1; cases h1
 ·exact (h hF hC h1).symm
structure VRel (v u : VM) : Prop where
 a : u.au = v.au
 e : u.ev = v.ev
 r : u.rd = v.rd
 f : v.rd = false → u.F = v.F
 z : v.rd = true → v.F = []
structure CRel (c d : CM) : Prop where
 wa : d.wa = c.wa
 ow : d.ow = c.ow
 sl : d.sl = c.sl
 G : ∀ k, k ∈ d.G ↔ k ∈ c.G
 n : d.V.length = c.V.length
 V : ∀ (j : Nat) (v u : VM), c.V[j]? = some v → d.V[j]? = some u → VRel v u
structure MRel (s g : RM) : Prop where
 S : g.S = s.S
 n : g.C.length = s.C.length
 C : ∀ (i : Nat) (c d : CM), s.C[i]? = some c → g.C[i]? = some d → CRel c d
theorem VRel.self {v : VM} (h : v.rd = true → v.F = []) : VRel v v := ⟨rfl, rfl, rfl, fun _ => rfl, h⟩
theorem get_of_len {α β : Type} {l : List α} {m : List β} (h : m.length = l.length) {i : Nat} {x : α} (hx : l[i]? = some x) : ∃ y, m[i]? = some y :=
 ⟨_, List.getElem?_eq_getElem (by rw [h]; exact (List.getElem?_eq_some_iff.1 hx).1)⟩
theorem none_of_len {α β : Type} {l : List α} {m : List β} (h : m.length = l.length) {i : Nat} (hx : l[i]? = none) : m[i]? = none :=
 List.getElem?_eq_none (by rw [h]; exact List.getElem?_eq_none_iff.1 hx)
theorem CRel.app {c d : CM} (h : CRel c d) {v u : VM} (hv : VRel v u) : CRel ⟨c.wa, c.ow, c.sl, c.G, c.V ++ [v]⟩ ⟨d.wa, d.ow, d.sl, d.G, d.V ++ [u]⟩ := by
 refine ⟨h.wa, h.ow, h.sl, h.G, by simp [h.n], fun j v' u' h1 h2 => ?_⟩
 simp only at h1 h2
 rcases Nat.lt_trichotomy j c.V.length with hj | hj | hj
 ·rw [List.getElem?_append_left hj] at h1
  rw [List.getElem?_append_left (by rw [h.n]; exact hj)] at h2
  exact h.V j v' u' h1 h2
 ·rw [List.getElem?_append_right (by omega), hj, Nat.sub_self] at h1
  rw [List.getElem?_append_right (by rw [h.n]; omega), h.n, hj, Nat.sub_self] at h2
  simp at h1 h2
  subst h1 h2
  exact hv
 ·rw [List.getElem?_eq_none (by simp; omega)] at h1
  cases h1
theorem CRel.setV {c d : CM} (h : CRel c d) (k : Nat) {v u : VM} (hv : VRel v u) : CRel ⟨c.wa, c.ow, c.sl, c.G, c.V.set k v⟩ ⟨d.wa, d.ow, d.sl, d.G, d.V.set k u⟩ := by
 refine ⟨h.wa, h.ow, h.sl, h.G, by simp [h.n], fun j v' u' h1 h2 => ?_⟩
 simp only at h1 h2
 by_cases hkj : k = j
 ·subst hkj
  have hk : k < c.V.length := by
   have := (List.getElem?_eq_some_iff.1 h1).1
   simpa using this
  rw [List.getElem?_set_self hk] at h1
  rw [List.getElem?_set_self (by rw [h.n]; exact hk)] at h2
  cases h1
  cases h2
  exact hv
 ·rw [List.getElem?_set_ne hkj] at h1 h2
  exact h.V j v' u' h1 h2
theorem MRel.app {s g : RM} (h : MRel s g) {c d : CM} (hc : CRel c d) : MRel ⟨s.S, s.C ++ [c]⟩ ⟨g.S, g.C ++ [d]⟩ := by
 refine ⟨h.S, by simp [h.n], fun j c' d' h1 h2 => ?_⟩
 simp only at h1 h2
 rcases Nat.lt_trichotomy j s.C.length with hj | hj | hj
 ·rw [List.getElem?_append_left hj] at h1
  rw [List.getElem?_append_left (by rw [h.n]; exact hj)] at h2
  exact h.C j c' d' h1 h2
 ·rw [List.getElem?_append_right (by omega), hj, Nat.sub_self] at h1
  rw [List.getElem?_append_right (by rw [h.n]; omega), h.n, hj, Nat.sub_self] at h2
  simp at h1 h2
  subst h1 h2
  exact hc
 ·rw [List.getElem?_eq_none (by simp; omega)] at h1
  cases h1
theorem MRel.set {s g : RM} (h : MRel s g) (k : Nat) {c d : CM} (hc : CRel c d) : MRel ⟨s.S, s.C.set k c⟩ ⟨g.S, g.C.set k d⟩ := by
 refine ⟨h.S, by simp [h.n], fun j c' d' h1 h2 => ?_⟩
 simp only at h1 h2
 by_cases hkj : k = j
 ·subst hkj
  have hk : k < s.C.length := by
   have := (List.getElem?_eq_some_iff.1 h1).1
   simpa using this
  rw [List.getElem?_set_self hk] at h1
  rw [List.getElem?_set_self (by rw [h.n]; exact hk)] at h2
  cases h1
  cases h2
  exact hc
 ·rw [List.getElem?_set_ne hkj] at h1 h2
  exact h.C j c' d' h1 h2
def CM.gnow (c : CM) : List F5 := match c.V[c.V.length - 1]? with
 | some v => if v.rd then [] else v.F
 | none => []
def CM.gnew (c : CM) (F : List F5) : List F5 := srtN (gmrg c.gnow F).length 0 (gmrg c.gnow F)
def VM.gsum (v : VM) : SM := ⟨v.au, v.ev, (if v.rd then 0 else v.F.length), v.rd⟩
def RM.gamend (s : RM) (r : RQ) (c : CM) (F : List F5) (pl : Nat) : RM × RA :=
 if amCode s.S r.ac c F ≠ 0 then (s, RA.no (amCode s.S r.ac c F))
 else if r.ve = 0 ∨ c.V.length < r.ve then (s, RA.no 4)
 else if r.ve ≠ c.V.length then (s, RA.no 7)
 else if c.V.length = 64 ∨ 32 < (c.gnew F).length then (s, RA.no 9)
 else if remU F c.gnow = true then (s, RA.no 10)
 else (⟨s.S, s.C.set (r.rc - 1) ⟨c.wa, c.ow, c.sl, c.G, c.V ++ [⟨r.ac, pl, c.gnew F, false⟩]⟩⟩, ⟨0, r.rc, c.V.length + 1, [], []⟩)
def RM.gredact (s : RM) (r : RQ) (c : CM) : RM × RA :=
 if reCode s.S r.ac c ≠ 0 then (s, RA.no (reCode s.S r.ac c))
 else if r.ve = 0 then (s, RA.no 4)
 else match c.V[r.ve - 1]? with
  | none => (s, RA.no 4)
  | some v => if v.rd then (s, RA.no 8) else (⟨s.S, s.C.set (r.rc - 1) ⟨c.wa, c.ow, c.sl, c.G, c.V.set (r.ve - 1) ⟨v.au, v.ev, v.F, true⟩⟩⟩, ⟨0, r.rc, r.ve, [], []⟩)
def RM.ghistory (s : RM) (r : RQ) (c : CM) : RM × RA :=
 if hiCode s.S r.ac c ≠ 0 then (s, RA.no (hiCode s.S r.ac c)) else (s, ⟨0, r.rc, c.V.length, [], c.V.map VM.gsum⟩)
def RM.gbreak (s : RM) (r : RQ) (c : CM) : RM × RA :=
 if brCode s.S r.ac c r.rs ≠ 0 then (s, RA.no (brCode s.S r.ac c r.rs))
 else (⟨s.S, s.C.set (r.rc - 1) ⟨c.wa, c.ow, c.sl, r.ac :: c.G, c.V⟩⟩, ⟨0, r.rc, 0, [], []⟩)
def RM.gop (s : RM) (r : RQ) (c : CM) (F : List F5) (pl : Nat) : RM × RA :=
 if r.op = 2 then s.gamend r c F pl else if r.op = 3 then s.read r c else if r.op = 4 then s.gredact r c else if r.op = 5 then s.ghistory r c else if r.op = 6 then s.seal r c else s.gbreak r c
def RM.gstep (s : RM) (r : RQ) (F : List F5) (pl : Nat) : RM × RA :=
 if r.frm F = false then (s, RA.no 2)
 else if (perso s.S r.ac).isSome = false then (s, RA.no 1)
 else if r.op = 1 then s.create r F pl
 else if r.rc = 0 then (s, RA.no 3)
 else match s.C[r.rc - 1]? with
  | none => (s, RA.no 3)
  | some c => s.gop r c F pl
structure RM.Srt (s : RM) : Prop where
 r : ∀ c ∈ s.C, ∀ v ∈ c.V, Rise v.F
theorem risB_rise {gone : Bool} : ∀ {l : List F5} {a : ByteArray}, risB gone a l = true → (∀ f ∈ l, Op.bytesLess a.toList f.n.toList = true) ∧ Rise l
 | [], _, _ => ⟨fun f hf => (by cases hf), List.Pairwise.nil⟩
 | x :: r, a, h => by
  simp only [risB, Bool.and_eq_true] at h
  obtain ⟨⟨⟨h1, _⟩, _⟩, h2⟩ := h
  unfold sleB at h1
  rw [bl_not] at h1
  obtain ⟨h3, h4⟩ := risB_rise h2
  refine ⟨fun f hf => ?_, List.pairwise_cons.2 ⟨h3, h4⟩⟩
  rcases List.mem_cons.1 hf with rfl | hf
  ·exact h1
  ·exact bl_trans _ _ _ h1 (h3 f hf)
theorem frm_rise {r : RQ} {l : List F5} (h : r.frm l = true) : Rise l := by
 have h0 : l.length = 0 → Rise l := fun e => by
  obtain rfl := List.length_eq_zero_iff.1 e
  exact List.Pairwise.nil
 have hd : ∀ g, fdsB l g = true → Rise l := fun g e => by
  simp only [fdsB, Bool.and_eq_true] at e
  exact (risB_rise e.2).2
 unfold RQ.frm at h
 split at h
 ·rw [Bool.and_eq_true] at h; exact hd _ h.2
 split at h
 ·rw [Bool.and_eq_true] at h; exact hd _ h.2
 split at h
 ·exact h0 (of_decide_eq_true h).2.2.1
 split at h
 ·exact h0 (of_decide_eq_true h).2.2.1
 split at h
 ·exact h0 (of_decide_eq_true h).2.2.2.1
 split at h
 ·exact h0 (of_decide_eq_true h).2.2.1
 split at h
 ·exact h0 (of_decide_eq_true h).2.2.2.1
 cases h
theorem RM.Srt.now {s : RM} (h : s.Srt) {c : CM} (hc : c ∈ s.C) : Rise c.now := by
 unfold CM.now
 rcases e : c.V[c.V.length - 1]? with _ | v
 ·exact List.Pairwise.nil
 ·exact h.r c hc v (List.mem_of_getElem? e)
theorem RM.Srt.set {s : RM} (h : s.Srt) (i : Nat) {c : CM} (hc : ∀ v ∈ c.V, Rise v.F) : RM.Srt ⟨s.S, s.C.set i c⟩ :=
 ⟨fun d hd => by
  rcases List.mem_or_eq_of_mem_set hd with hd | rfl
  ·exact h.r d hd
  ·exact hc⟩
theorem qm_same {c d : CM} (h : CRel c d) (p : P3) (rs : ByteArray) : qm p d rs = qm p c rs := by unfold qm; rw [h.wa, h.ow, h.sl]
theorem rdF_same {c d : CM} (h : CRel c d) (q : QM) : rdF q d.G = rdF q c.G := by unfold rdF; rw [decide_eq_decide.2 (h.G q.p.a)]
theorem rd_same {S : List P3} {k : Nat} {c d : CM} (h : CRel c d) : rdCode S k d = rdCode S k c :=
 congrArg (ansv S k) (funext fun p => by rw [qm_same h, rdF_same h])
theorem hi_same {S : List P3} {k : Nat} {c d : CM} (h : CRel c d) : hiCode S k d = hiCode S k c :=
 congrArg (ansv S k) (funext fun p => by unfold hiF; rw [qm_same h, rdF_same h])
theorem re_same {S : List P3} {k : Nat} {c d : CM} (h : CRel c d) : reCode S k d = reCode S k c :=
 congrArg (ansv S k) (funext fun p => by rw [qm_same h])
theorem se_same {S : List P3} {k : Nat} {c d : CM} (h : CRel c d) : seCode S k d = seCode S k c :=
 congrArg (ansv S k) (funext fun p => by rw [qm_same h])
theorem am_same {S : List P3} {k : Nat} {c d : CM} (F : List F5) (h : CRel c d) : amCode S k d F = amCode S k c F :=
 congrArg (ansv S k) (funext fun p => by unfold amF whyAm; rw [qm_same h, rdF_same h])
theorem br_same {S : List P3} {k : Nat} {c d : CM} (rs : ByteArray) (h : CRel c d) : brCode S k d rs = brCode S k c rs :=
 congrArg (ansv S k) (funext fun p => by rw [qm_same h])
theorem now_same {c d : CM} (h : CRel c d) : d.gnow = c.now := by
 unfold CM.gnow CM.now
 rw [h.n]
 cases e : c.V[c.V.length - 1]? with
 | none => rw [none_of_len h.n e]; rfl
 | some v =>
  obtain ⟨u, hu⟩ := get_of_len h.n e
  have hv := h.V _ v u e hu
  rw [hu]
  simp only [Option.map_some, Option.getD_some]
  rw [hv.r]
  cases hr : v.rd
  ·exact hv.f hr
  ·exact (hv.z hr).symm
theorem sum_same {v u : VM} (h : VRel v u) : u.gsum = v.sum := by
 unfold VM.gsum VM.sum
 rw [h.a, h.e, h.r]
 cases hr : v.rd
 ·rw [if_neg (by simp), h.f hr]
 ·rw [if_pos rfl, h.z hr]; rfl
theorem hist_same {c d : CM} (h : CRel c d) : d.V.map VM.gsum = c.V.map VM.sum := by
 apply List.ext_getElem?
 intro i
 rw [List.getElem?_map, List.getElem?_map]
 cases e : c.V[i]? with
 | none => rw [none_of_len h.n e]; rfl
 | some v =>
  obtain ⟨u, hu⟩ := get_of_len h.n e
  rw [hu]
  simp only [Option.map_some]
  rw [sum_same (h.V _ v u e hu)]
theorem gstep_rel {s g : RM} (h : MRel s g) (ho : s.Ok) (hs : s.Srt) (r : RQ) (F : List F5) (pl : Nat) : (g.gstep r F pl).2 = (s.step r F pl).2 ∧ MRel (s.step r F pl).1 (g.gstep r F pl).1 ∧ (s.step r F pl).1.Srt := by
 unfold RM.gstep RM.step
 by_cases h1 : r.frm F = false
 ·rw [if_pos h1, if_pos h1]; exact ⟨rfl, h, hs⟩
 rw [if_neg h1, if_neg h1, h.S]
 have hF : Rise F := frm_rise (by simpa using h1)
 by_cases h2 : (perso s.S r.ac).isSome = false
 ·rw [if_pos h2, if_pos h2]; exact ⟨rfl, h, hs⟩
 rw [if_neg h2, if_neg h2]
 by_cases h3 : r.op = 1
 ·rw [if_pos h3, if_pos h3]
  unfold RM.create
  rw [h.S, h.n]
  by_cases a1 : crCode s.S r.ac r.wa r.ow ≠ 0
  ·rw [if_pos a1, if_pos a1]; exact ⟨rfl, h, hs⟩
  rw [if_neg a1, if_neg a1]
  by_cases a2 : 256 ≤ s.C.length
  ·rw [if_pos a2, if_pos a2]; exact ⟨rfl, h, hs⟩
  rw [if_neg a2, if_neg a2]
  refine ⟨rfl, ?_, ⟨fun c hc => ?_⟩⟩
  ·have := h.app (c := ⟨r.wa, r.ow, false, [], [⟨r.ac, pl, F, false⟩]⟩) (d := ⟨r.wa, r.ow, false, [], [⟨r.ac, pl, F, false⟩]⟩) ⟨rfl, rfl, rfl, fun _ => Iff.rfl, rfl, fun j v u hv hu => by rw [hv] at hu; cases hu; refine VRel.self (fun e => ?_); have := List.mem_of_getElem? hv; rw [List.mem_singleton] at this; subst this; cases e⟩
   rw [h.S] at this
   exact this
  ·rcases List.mem_append.1 hc with hc | hc
   ·exact hs.r c hc
   ·rw [List.mem_singleton] at hc
    subst hc
    intro v hv
    rw [List.mem_singleton] at hv
    subst hv
    exact hF
 rw [if_neg h3, if_neg h3]
 by_cases h4 : r.rc = 0
 ·rw [if_pos h4, if_pos h4]; exact ⟨rfl, h, hs⟩
 rw [if_neg h4, if_neg h4]
 cases hc : s.C[r.rc - 1]? with
 | none => rw [none_of_len h.n hc]; exact ⟨rfl, h, hs⟩
 | some c =>
  obtain ⟨d, hd⟩ := get_of_len h.n hc
  have hr := h.C _ c d hc hd
  have hm : c ∈ s.C := List.mem_of_getElem? hc
  rw [hd]
  simp only
  unfold RM.gop RM.op
  by_cases o2 : r.op = 2
  ·rw [if_pos o2, if_pos o2]
   unfold RM.gamend RM.amend
   have hnow := now_same hr
   have hmg : d.gnew F = c.mrg F := by
    unfold CM.gnew CM.mrg
    rw [hnow]
    exact gmrg_eq (hs.now hm) hF
   rw [h.S, am_same F hr, hr.n, hmg, hnow, remU_swap hF (hs.now hm)]
   by_cases a1 : amCode s.S r.ac c F ≠ 0
   ·rw [if_pos a1, if_pos a1]; exact ⟨rfl, h, hs⟩
   rw [if_neg a1, if_neg a1]
   by_cases a2 : r.ve = 0 ∨ c.V.length < r.ve
   ·rw [if_pos a2, if_pos a2]; exact ⟨rfl, h, hs⟩
   rw [if_neg a2, if_neg a2]
   by_cases a3 : r.ve ≠ c.V.length
   ·rw [if_pos a3, if_pos a3]; exact ⟨rfl, h, hs⟩
   rw [if_neg a3, if_neg a3]
   have hv64 := (ho.c c hm).V
   by_cases a4 : 64 ≤ c.V.length ∨ 32 < (c.mrg F).length
   ·rw [if_pos a4, if_pos (by omega)]; exact ⟨rfl, h, hs⟩
   rw [if_neg a4, if_neg (by omega)]
   by_cases a5 : remU c.now F = true
   ·rw [if_pos a5, if_pos a5]; exact ⟨rfl, h, hs⟩
   rw [if_neg a5, if_neg a5]
   refine ⟨rfl, ?_, ?_⟩
   ·have := h.set (r.rc - 1) (hr.app (VRel.self (v := ⟨r.ac, pl, c.mrg F, false⟩) (fun e => by cases e)))
    rw [h.S] at this
    exact this
   ·refine hs.set _ (fun v hv => ?_)
    rcases List.mem_append.1 hv with hv | hv
    ·exact hs.r c hm v hv
    ·rw [List.mem_singleton] at hv
     subst hv
     exact mrg_rise _ _ _ (hs.now hm) hF (Nat.le_refl _)
  rw [if_neg o2, if_neg o2]
  by_cases o3 : r.op = 3
  ·rw [if_pos o3, if_pos o3]
   unfold RM.read
   have hvn : r.vn d = r.vn c := by unfold RQ.vn; rw [hr.n]
   rw [h.S, rd_same hr, hvn]
   by_cases a1 : rdCode s.S r.ac c ≠ 0
   ·rw [if_pos a1, if_pos a1]; exact ⟨rfl, h, hs⟩
   rw [if_neg a1, if_neg a1]
   by_cases a2 : r.vn c = 0
   ·rw [if_pos a2, if_pos a2]; exact ⟨rfl, h, hs⟩
   rw [if_neg a2, if_neg a2]
   cases hv : c.V[r.vn c - 1]? with
   | none => rw [none_of_len hr.n hv]; exact ⟨rfl, h, hs⟩
   | some v =>
    obtain ⟨u, hu⟩ := get_of_len hr.n hv
    have hvr := hr.V _ v u hv hu
    rw [hu]
    simp only
    rw [hvr.r]
    by_cases a3 : v.rd = true
    ·rw [if_pos a3, if_pos a3]; exact ⟨rfl, h, hs⟩
    rw [if_neg a3, if_neg a3, hvr.f (by simpa using a3)]
    exact ⟨rfl, h, hs⟩
  rw [if_neg o3, if_neg o3]
  by_cases o4 : r.op = 4
  ·rw [if_pos o4, if_pos o4]
   unfold RM.gredact RM.redact
   rw [h.S, re_same hr]
   by_cases a1 : reCode s.S r.ac c ≠ 0
   ·rw [if_pos a1, if_pos a1]; exact ⟨rfl, h, hs⟩
   rw [if_neg a1, if_neg a1]
   by_cases a2 : r.ve = 0
   ·rw [if_pos a2, if_pos a2]; exact ⟨rfl, h, hs⟩
   rw [if_neg a2, if_neg a2]
   cases hv : c.V[r.ve - 1]? with
   | none => rw [none_of_len hr.n hv]; exact ⟨rfl, h, hs⟩
   | some v =>
    obtain ⟨u, hu⟩ := get_of_len hr.n hv
    have hvr := hr.V _ v u hv hu
    rw [hu]
    simp only
    rw [hvr.r]
    by_cases a3 : v.rd = true
    ·rw [if_pos a3, if_pos a3]; exact ⟨rfl, h, hs⟩
    rw [if_neg a3, if_neg a3]
    refine ⟨rfl, ?_, hs.set _ (fun v' hv' => ?_)⟩
    ·have := h.set (r.rc - 1) (hr.setV (r.ve - 1) (v := ⟨v.au, v.ev, [], true⟩) (u := ⟨u.au, u.ev, u.F, true⟩) ⟨hvr.a, hvr.e, rfl, fun e => (by cases e), fun _ => rfl⟩)
     rw [h.S] at this
     exact this
    ·rcases List.mem_or_eq_of_mem_set hv' with hv' | rfl
     ·exact hs.r c hm v' hv'
     ·exact List.Pairwise.nil
  rw [if_neg o4, if_neg o4]
  by_cases o5 : r.op = 5
  ·rw [if_pos o5, if_pos o5]
   unfold RM.ghistory RM.history
   rw [h.S, hi_same hr, hr.n, hist_same hr]
   by_cases a1 : hiCode s.S r.ac c ≠ 0
   ·rw [if_pos a1, if_pos a1]; exact ⟨rfl, h, hs⟩
   rw [if_neg a1, if_neg a1]
   exact ⟨rfl, h, hs⟩
  rw [if_neg o5, if_neg o5]
  by_cases o6 : r.op = 6
  ·rw [if_pos o6, if_pos o6]
   unfold RM.seal
   rw [h.S, se_same hr]
   by_cases a1 : seCode s.S r.ac c ≠ 0
   ·rw [if_pos a1, if_pos a1]; exact ⟨rfl, h, hs⟩
   rw [if_neg a1, if_neg a1]
   refine ⟨rfl, ?_, hs.set _ (fun v hv => hs.r c hm v hv)⟩
   have := h.set (r.rc - 1) (c := ⟨c.wa, c.ow, decide (r.ve = 1), [], c.V⟩) (d := ⟨d.wa, d.ow, decide (r.ve = 1), [], d.V⟩) ⟨hr.wa, hr.ow, rfl, fun _ => Iff.rfl, hr.n, hr.V⟩
   rw [h.S] at this
   exact this
  rw [if_neg o6, if_neg o6]
  unfold RM.gbreak RM.break
  rw [h.S, br_same r.rs hr]
  by_cases a1 : brCode s.S r.ac c r.rs ≠ 0
  ·rw [if_pos a1, if_pos a1]; exact ⟨rfl, h, hs⟩
  rw [if_neg a1, if_neg a1]
  refine ⟨rfl, ?_, hs.set _ (fun v hv => hs.r c hm v hv)⟩
  have := h.set (r.rc - 1) (c := ⟨c.wa, c.ow, c.sl, insN r.ac c.G, c.V⟩) (d := ⟨d.wa, d.ow, d.sl, r.ac :: d.G, d.V⟩) ⟨hr.wa, hr.ow, hr.sl, fun k => by simp only [List.mem_cons, insN_mem, hr.G], hr.n, hr.V⟩
  rw [h.S] at this
  exact this
def Blk (x : Value) (k : Nat) : Prop := ∃ o n c, x = .slice (some ⟨k, o, none⟩) n c ∧ 0 < n
def Rd (w : World) (z : Nat) (x : Value) (n : Nat) (xs : List Value) : Prop :=
 xs.length = n * z ∧ ((∃ a c, x = .slice a 0 c ∧ n = 0) ∨ ∃ g o c, x = .slice (some ⟨g, o, none⟩) n c ∧ ∀ i u, xs[i]? = some u → w.cell? ⟨g, o + i, none⟩ = some u)
theorem Rd.form {w : World} {z n : Nat} {x : Value} {xs : List Value} (h : Rd w z x n xs) : ∃ xo xc, x = .slice xo n xc := by
 rcases h.2 with ⟨a, c, rfl, rfl⟩ | ⟨g, o, c, rfl, _⟩ <;> exact ⟨_, _, rfl⟩
theorem Rd.frS {w w' : World} {z n : Nat} {x : Value} {xs : List Value} {S : Nat → Prop} (h : Rd w z x n xs) (hf : Fr S w w') (hS : ∀ k, Blk x k → ¬ S k) : Rd w' z x n xs := by
 refine ⟨h.1, ?_⟩
 rcases h.2 with h2 | ⟨g, o, c, e, h2⟩
 ·exact .inl h2
 ·rcases Nat.eq_zero_or_pos n with h0 | h0
  ·exact .inl ⟨some ⟨g, o, none⟩, c, by rw [e, h0], h0⟩
  ·exact .inr ⟨g, o, c, e, fun i u hu => (hf.cell (p := ⟨g, _, none⟩) (lt_of_cell (h2 i u hu)) (hS g ⟨o, n, c, e, h0⟩)).trans (h2 i u hu)⟩
theorem Rd.at_ {w : World} {z n m c : Nat} {xo : Option Addr} {xs : List Value} (h : Rd w z (.slice xo m c) n xs) (hn : 0 < n) : ∃ g o, xo = some ⟨g, o, none⟩ ∧ ∀ i u, xs[i]? = some u → w.cell? ⟨g, o + i, none⟩ = some u := by
 rcases h.2 with ⟨_, _, _, h2⟩ | ⟨g, o, c', e, h2⟩
 ·omega
 ·simp only [Value.slice.injEq] at e
  obtain ⟨rfl, _, _⟩ := e
  exact ⟨g, o, rfl, h2⟩
theorem own_rd {w : World} {base e z n : Nat} {x : Value} {xs : List Value} (h : w.ownsRow base e z x n xs) : Rd w z x n xs := by
 refine ⟨h.1, ?_⟩
 rcases h.2 with ⟨rfl, rfl⟩ | ⟨g, cap, cur, rfl, _⟩
 ·exact .inl ⟨none, 0, rfl, rfl⟩
 ·refine .inr ⟨g, 0, cap, rfl, fun i u hu => ?_⟩
  have hi := (List.getElem?_eq_some_iff.1 hu).1
  have h1 := h.1
  rw [Nat.zero_add, h.cellAt i (by omega)]
  exact hu
theorem own_blkX {w : World} {base e z n : Nat} {x : Value} {xs : List Value} (h : w.ownsRow base e z x n xs) {k : Nat} (hk : Blk x k) : base ≤ k ∧ k < w.heap.size := by
 obtain ⟨o, n', c, rfl, _⟩ := hk
 exact h.lt k rfl
structure GV where
 v : VM
 fv : Value
structure GC where
 wa : Nat
 ow : Nat
 sl : Bool
 G : List Nat
 V : List GV
 gv : Value
 vv : Value
def GV.cs (x : GV) : List Value := [.int .u32 (x.v.au : Nat), .int .u32 (x.v.ev : Nat), x.fv, .bool x.v.rd]
def GC.cs (x : GC) : List Value := [.int .u32 (x.wa : Nat), .int .u32 (x.ow : Nat), .bool x.sl, x.gv, x.vv]
def GC.cm (x : GC) : CM := ⟨x.wa, x.ow, x.sl, x.G, x.V.map GV.v⟩
def vgc (l : List GV) : List Value := l.flatMap GV.cs
def cgc (l : List GC) : List Value := l.flatMap GC.cs
theorem vgc_len (l : List GV) : (vgc l).length = l.length * 4 := by
 induction l with
 | nil => rfl
 | cons x r ih =>
  have e : vgc (x :: r) = x.cs ++ vgc r := by simp [vgc]
  rw [e, List.length_append, ih]
  simp only [GV.cs, List.length_cons, List.length_nil]
  omega
theorem vgc_app (l : List GV) (x : GV) : vgc (l ++ [x]) = vgc l ++ x.cs := by simp [vgc]
theorem cgc_app (l : List GC) (x : GC) : cgc (l ++ [x]) = cgc l ++ x.cs := by simp [cgc]
theorem vgc_at : ∀ (l : List GV) (j : Nat) (x : GV), l[j]? = some x → ∀ k, k < 4 → (vgc l)[j * 4 + k]? = x.cs[k]?
 | [], j, x, h, _, _ => by simp at h
 | y :: r, 0, x, h, k, hk => by
  simp at h
  subst h
  have e : vgc (y :: r) = y.cs ++ vgc r := by simp [vgc]
  rw [e, List.getElem?_append_left (by simp [GV.cs]; omega)]
  simp
 | y :: r, j + 1, x, h, k, hk => by
  rw [List.getElem?_cons_succ] at h
  have e : vgc (y :: r) = y.cs ++ vgc r := by simp [vgc]
  rw [e, List.getElem?_append_right (by simp [GV.cs]; omega), show (j + 1) * 4 + k - y.cs.length = j * 4 + k by simp [GV.cs]; omega]
  exact vgc_at r j x h k hk
theorem cgc_at : ∀ (l : List GC) (j : Nat) (x : GC), l[j]? = some x → ∀ k, k < 5 → (cgc l)[j * 5 + k]? = x.cs[k]?
 | [], j, x, h, _, _ => by simp at h
 | y :: r, 0, x, h, k, hk => by
  simp at h
  subst h
  have e : cgc (y :: r) = y.cs ++ cgc r := by simp [cgc]
  rw [e, List.getElem?_append_left (by simp [GC.cs]; omega)]
  simp
 | y :: r, j + 1, x, h, k, hk => by
  rw [List.getElem?_cons_succ] at h
  have e : cgc (y :: r) = y.cs ++ cgc r := by simp [cgc]
  rw [e, List.getElem?_append_right (by simp [GC.cs]; omega), show (j + 1) * 5 + k - y.cs.length = j * 5 + k by simp [GC.cs]; omega]
  exact cgc_at r j x h k hk
structure GCt (w : World) (T : Nat → Prop) (x : GC) : Prop where
 g : Us w x.gv x.G
 gb : ∀ k, Blk x.gv k → T k
 v : Rd w 4 x.vv x.V.length (vgc x.V)
 vb : ∀ k, Blk x.vv k → T k
 f : ∀ y ∈ x.V, Fds w y.fv y.v.F
 fb : ∀ y ∈ x.V, ∀ k, Blk y.fv k → T k
structure GSt (w : World) (T : Nat → Prop) (sv rv : Value) (S : List P3) (L : List GC) : Prop where
 s : Stf w sv S
 sb : ∀ k, Blk sv k → T k
 r : Rd w 5 rv L.length (cgc L)
 rb : ∀ k, Blk rv k → T k
 c : ∀ x ∈ L, GCt w T x
theorem Us.frB {w w' : World} {x : Value} {l : List Nat} {S : Nat → Prop} (h : Us w x l) (hf : Fr S w w') (hS : ∀ k, Blk x k → ¬ S k) : Us w' x l := h.frS hf (fun g o n c e h0 => hS g ⟨o, n, c, e, h0⟩)
theorem Stf.frB {w w' : World} {x : Value} {l : List P3} {S : Nat → Prop} (h : Stf w x l) (hf : Fr S w w') (hS : ∀ k, Blk x k → ¬ S k) : Stf w' x l := h.frM hf (fun g o n c e h0 => hS g ⟨o, n, c, e, h0⟩)
theorem Fds.frB {w w' : World} {x : Value} {l : List F5} {S : Nat → Prop} (h : Fds w x l) (hf : Fr S w w') (hS : ∀ k, Blk x k → ¬ S k) : Fds w' x l := h.frS hf (fun g o n c e h0 => hS g ⟨o, n, c, e, h0⟩)
theorem GCt.frS {w w' : World} {T S : Nat → Prop} {x : GC} (h : GCt w T x) (hf : Fr S w w') (hS : ∀ k, S k → ¬ T k) : GCt w' T x :=
 ⟨h.g.frB hf (fun k hk hs => hS k hs (h.gb k hk)), h.gb, h.v.frS hf (fun k hk hs => hS k hs (h.vb k hk)), h.vb, fun y hy => (h.f y hy).frB hf (fun k hk hs => hS k hs (h.fb y hy k hk)), h.fb⟩
theorem GCt.mono {w : World} {T T' : Nat → Prop} {x : GC} (h : GCt w T x) (hT : ∀ k, T k → T' k) : GCt w T' x :=
 ⟨h.g, fun k hk => hT k (h.gb k hk), h.v, fun k hk => hT k (h.vb k hk), h.f, fun y hy k hk => hT k (h.fb y hy k hk)⟩
theorem GSt.frS {w w' : World} {T S' : Nat → Prop} {sv rv : Value} {S : List P3} {L : List GC} (h : GSt w T sv rv S L) (hf : Fr S' w w') (hS : ∀ k, S' k → ¬ T k) : GSt w' T sv rv S L :=
 ⟨h.s.frB hf (fun k hk hs => hS k hs (h.sb k hk)), h.sb, h.r.frS hf (fun k hk hs => hS k hs (h.rb k hk)), h.rb, fun x hx => (h.c x hx).frS hf hS⟩
theorem GSt.fr {w w' : World} {T : Nat → Prop} {sv rv : Value} {S : List P3} {L : List GC} (h : GSt w T sv rv S L) (hf : Fr (fun _ => False) w w') : GSt w' T sv rv S L := h.frS hf (fun _ h => h.elim)
theorem GSt.mono {w : World} {T T' : Nat → Prop} {sv rv : Value} {S : List P3} {L : List GC} (h : GSt w T sv rv S L) (hT : ∀ k, T k → T' k) : GSt w T' sv rv S L :=
 ⟨h.s, fun k hk => hT k (h.sb k hk), h.r, fun k hk => hT k (h.rb k hk), fun x hx => (h.c x hx).mono hT⟩
theorem Tryz.infoGV : (Tryz.prog.info? 75).map (fun i => (i.zero, i.size, i.bytes)) = some (some (.agg #[.int .u32 0, .int .u32 0, .slice none 0 0, .bool false]), 4, 40) := by kernel_rfl
theorem app_GV (w : World) (base x : Nat) (v : Value) (l : List GV) (p : GV) (h : w.ownsRow base 75 4 v l.length (vgc l)) (hb : base ≤ w.heap.size) (hn : l.length ≤ 1000000000) (hx : w.heap[x]? = some (.cells p.cs.toArray 75)) (h1 : ∀ u ∈ p.cs, u.oneCell' = true) :
  ∃ ao cap w', (Builtin.append_ #[76, 76] 76 #[v, .slice (some ⟨x, 0, none⟩) 1 1]).run Tryz.prog w = .ok (.slice ao (l.length + 1) cap) w' ∧ w'.ownsRow base 75 4 (.slice ao (l.length + 1) cap) (l.length + 1) (vgc (l ++ [p])) ∧ Fr (fun g => v.ownBlock = some g) w w' := by
 obtain ⟨i0, hi, hz0, hz1, hz2⟩ := info_parts Tryz.infoGV
 obtain ⟨v', w', hr, h2, h3, _, h5⟩ := run_append_own_at (P := Tryz.prog) (w := w) base 76 76 75 i0 (.agg #[.int .u32 0, .int .u32 0, .slice none 0 0, .bool false]) 4 40 Tryz.underlying76 hi hz0 hz1 hz2 rfl (by decide) v l.length (vgc l) h ⟨x, 0, none⟩ 1 1 p.cs rfl (fun j u hu => by
  rw [addr_add, Nat.zero_add]
  simp only [World.cell?, hx]
  simpa using hu) h1 (by simp only [maxLen]; omega) (by omega) hb
 obtain ⟨ao, cap, rfl⟩ := own_formX h2
 exact ⟨ao, cap, w', hr, by rw [vgc_app]; exact h2, (Fr.refl _ _).grown h3 (fun g hg => .inl hg)⟩
theorem Tryz.infoGC : (Tryz.prog.info? 78).map (fun i => (i.zero, i.size, i.bytes)) = some (some (.agg #[.int .u32 0, .int .u32 0, .bool false, .slice none 0 0, .slice none 0 0]), 5, 64) := by kernel_rfl
theorem app_GC (w : World) (base x : Nat) (v : Value) (l : List GC) (p : GC) (h : w.ownsRow base 78 5 v l.length (cgc l)) (hb : base ≤ w.heap.size) (hn : l.length ≤ 1000000000) (hx : w.heap[x]? = some (.cells p.cs.toArray 78)) (h1 : ∀ u ∈ p.cs, u.oneCell' = true) :
  ∃ ao cap w', (Builtin.append_ #[34, 34] 34 #[v, .slice (some ⟨x, 0, none⟩) 1 1]).run Tryz.prog w = .ok (.slice ao (l.length + 1) cap) w' ∧ w'.ownsRow base 78 5 (.slice ao (l.length + 1) cap) (l.length + 1) (cgc (l ++ [p])) ∧ Fr (fun g => v.ownBlock = some g) w w' := by
 obtain ⟨i0, hi, hz0, hz1, hz2⟩ := info_parts Tryz.infoGC
 obtain ⟨v', w', hr, h2, h3, _, h5⟩ := run_append_own_at (P := Tryz.prog) (w := w) base 34 34 78 i0 (.agg #[.int .u32 0, .int .u32 0, .bool false, .slice none 0 0, .slice none 0 0]) 5 64 Tryz.underlying34 hi hz0 hz1 hz2 rfl (by decide) v l.length (cgc l) h ⟨x, 0, none⟩ 1 1 p.cs rfl (fun j u hu => by
  rw [addr_add, Nat.zero_add]
  simp only [World.cell?, hx]
  simpa using hu) h1 (by simp only [maxLen]; omega) (by omega) hb
 obtain ⟨ao, cap, rfl⟩ := own_formX h2
 exact ⟨ao, cap, w', hr, by rw [cgc_app]; exact h2, (Fr.refl _ _).grown h3 (fun g hg => .inl hg)⟩
def GV.one (x : GV) : Prop := x.fv.oneCell' = true
def GC.one (x : GC) : Prop := x.gv.oneCell' = true ∧ x.vv.oneCell' = true
theorem GV.one_cs {x : GV} (h : x.one) : ∀ u ∈ x.cs, u.oneCell' = true := by
 intro u hu
 simp [GV.cs] at hu
 rcases hu with rfl | rfl | rfl | rfl <;> first | rfl | exact h
theorem GC.one_cs {x : GC} (h : x.one) : ∀ u ∈ x.cs, u.oneCell' = true := by
 intro u hu
 simp [GC.cs] at hu
 rcases hu with rfl | rfl | rfl | rfl | rfl <;> first | rfl | exact h.1 | exact h.2
set_option maxHeartbeats 2000000 in
set_option maxRecDepth 100000 in
theorem gversions_any (x : Value) (V : List GV) (w : World) (hx : Rd w 4 x V.length (vgc V)) (h1 : ∀ v ∈ V, v.one) (hl : V.length ≤ 1000000) :
  Calls Tryz.prog 29 #[x] w fun e w' => ∃ v, e = .returned v ∧ w'.ownsRow w.heap.size 75 4 v V.length (vgc V) ∧ Fr (fun _ => False) w w' := by
 have HX := hide hx
 obtain ⟨xo, xc, rfl⟩ := hx.form
 clear hx
 go_enter Tryz.func29, Tryz.ntmps29
 go_wp2_with fail
 go_loopw [3, 4] (fun av iv wr => ∃ (j : Nat) (ao : Option Addr) (cap : Nat), j ≤ V.length ∧ iv = .int .i64 (j : Nat) ∧ av = .slice ao j cap ∧ wr.ownsRow w.heap.size 75 4 (.slice ao j cap) j (vgc (V.take j)) ∧ Fr (fun _ => False) w wr) (fun _ iv _ => V.length - (intOf iv).toNat)
 case atStart => exact ⟨0, none, 0, Nat.zero_le _, rfl, rfl, World.ownsRow_nil _ _ _ _, Fr.refl _ _⟩
 case round =>
  obtain ⟨j, ao, cap, hj, rfl, rfl, hown, hfr⟩ := hrel
  have hlen : (V.take j).length = j := by simp; omega
  by_cases hlt : j < V.length
  ·obtain ⟨g, o, rfl, hc⟩ := ((unhide HX).frS hfr (fun _ _ h => h)).at_ (by omega)
   obtain ⟨P, hPe⟩ : ∃ P, V[j] = P := ⟨_, rfl⟩
   have hPe2 : V[j]? = some P := by rw [List.getElem?_eq_getElem hlt, hPe]
   have hat := vgc_at V j P hPe2
   have c0 := hc (j * 4) _ (by have := hat 0 (by omega); simpa [GV.cs] using this)
   have c1 := hc (j * 4 + 1) _ (by have := hat 1 (by omega); simpa [GV.cs] using this)
   have c2 := hc (j * 4 + 2) _ (by have := hat 2 (by omega); simpa [GV.cs] using this)
   have c3 := hc (j * 4 + 3) _ (by have := hat 3 (by omega); simpa [GV.cs] using this)
   rw [← Nat.add_assoc] at c1 c2 c3
   have htk : V.take (j + 1) = V.take j ++ [P] := by rw [List.take_add_one, hPe2]; rfl
   have hone : P.one := h1 P (List.mem_of_getElem? hPe2)
   obtain ⟨⟨au, ev, F, rd⟩, fv⟩ := P
   obtain ⟨ao2, cap2, w2, hr, hown2, hf2⟩ := app_GV (wr.alloc (.cells #[.int .u32 (au : Nat), .int .u32 (ev : Nat), fv, .bool rd] 75)) w.heap.size wr.heap.size (.slice ao j cap) (V.take j) ⟨⟨au, ev, F, rd⟩, fv⟩ (by rw [hlen]; exact hown.alloc _) (by have := hfr.size; simp; omega) (by omega) Array.getElem?_push_size (GV.one_cs hone)
   rw [hlen] at hr hown2
   rw [← htk] at hown2
   have hf3 : Fr (fun _ => False) w w2 := (hfr.trans (box1 wr _) (fun _ _ h => h)).absorb hf2 (fun k hk => (hown.lt k hk).1)
   have HR := hide hr
   have HO := hide (And.intro hown2 hf3)
   simp only at c0 c1 c2 c3
   have hkl : (j : Int) < (V.length : Int) := by omega
   clear hown hfr hPe htk hr hown2 hf2 hf3 hlen hc hat hPe2 hone
   go_wp2_with (at_builtin; refine wpList_app rfl (.tmp 11) (.tmp 16) 76 76 rfl _ _ _ rfl rfl (unhide HR) ?_)
   go_roundw
   case rel => exact ⟨j + 1, ao2, cap2, hlt, by go_num, rfl, (unhide HO).1, (unhide HO).2⟩
   case measure => simp [intOf]; omega
  ·obtain rfl : j = V.length := by omega
   have HO := hide (And.intro hown hfr)
   clear hown hfr
   go_wp2_with fail
   go_ret
   obtain ⟨h1, h2⟩ := unhide HO
   rw [List.take_length] at h1
   exact ⟨_, rfl, h1, h2⟩
theorem heap_two (w : World) (a b : Obj) : ((w.alloc a).alloc b).heap[w.heap.size + 1]? = some b := by
 have e : w.heap.size + 1 = (w.alloc a).heap.size := by simp
 rw [e]
 exact Array.getElem?_push_size
set_option maxRecDepth 100000 in
theorem grefused_any (cl nu ac op rc ve wa ow co : Nat) (xo : Option Addr) (xn xc : Nat) (rs : ByteArray) (w : World) :
  Calls Tryz.prog 24 #[.agg #[.int .u32 (cl : Nat), .int .u32 (nu : Nat), .int .u32 (ac : Nat), .int .u8 (op : Nat), .int .u32 (rc : Nat), .int .u32 (ve : Nat), .int .u32 (wa : Nat), .int .u32 (ow : Nat), .slice xo xn xc, .string rs], .int .u8 (co : Nat)] w fun e w' => e = .returned (.agg #[.int .u32 (cl : Nat), .int .u32 (nu : Nat), .int .u8 (co : Nat), .int .u32 0, .int .u32 0, .slice none 0 0, .slice none 0 0]) ∧ Fr (fun _ => False) w w' := by
 go_enter Tryz.func24, Tryz.ntmps24
 go_wp2_with fail
 refine bodyPost_ret (results_cell_mid rfl _ _ (w.heap.size + 1) 0 [.int .u32 (cl : Nat), .int .u32 (nu : Nat), .int .u8 (co : Nat), .int .u32 0, .int .u32 0, .slice none 0 0, .slice none 0 0] _ rfl (range_of_block (t := 45) ?_) Tryz.underlying45 rfl (by kernel_rfl)) rfl ?_
 ·exact heap_two w _ _
 ·exact ⟨rfl, (Fr.refl _ _).alloc _ |>.alloc _⟩
structure PB (w W1 wr : World) (sv : Value) (ao : Option Addr) (n cap : Nat) (L : List GC) : Prop where
 b : wr.heap[w.heap.size + 3]? = some (.cells #[sv, .slice ao n cap] 36)
 o : wr.ownsRow (w.heap.size + 4) 78 5 (.slice ao n cap) n (cgc L)
 f : Fr (fun k => k = w.heap.size + 3) W1 wr
 z : w.heap.size + 4 ≤ wr.heap.size
theorem PB.next {w W1 wr wa w2 : World} {sv : Value} {ao ao2 : Option Addr} {n cap cap2 : Nat} {L : List GC} {p : GC} (h : PB w W1 wr sv ao n cap L) (ha : Fr (fun _ => False) wr wa) (ho : w2.ownsRow (w.heap.size + 4) 78 5 (.slice ao2 (n + 1) cap2) (n + 1) (cgc (L ++ [p]))) (hf : Fr (fun g => (Value.slice ao n cap).ownBlock = some g) wa w2) (hW : W1.heap.size = w.heap.size + 4) :
  w2.heap[w.heap.size + 3]? = some (.cells #[sv, .slice ao n cap] 36) ∧ PB w W1 (w2.setCell ⟨w.heap.size + 3, 1, none⟩ (.slice ao2 (n + 1) cap2)) sv ao2 (n + 1) cap2 (L ++ [p]) := by
 have hl := lt_of_block h.b
 have e1 := (ha.block _ hl (fun h => h)).trans h.b
 have hne : ∀ g, (Value.slice ao n cap).ownBlock = some g → g ≠ w.heap.size + 3 := fun g hg e => by have := (h.o.lt g hg).1; omega
 have e2 := (hf.block _ (lt_of_block e1) (fun h => hne _ h rfl)).trans e1
 have hne2 : ∀ g, (Value.slice ao2 (n + 1) cap2).ownBlock = some g → g ≠ w.heap.size + 3 := fun g hg e => by have := (ho.lt g hg).1; omega
 have hfs : Fr (fun k => k = w.heap.size + 3) w2 (w2.setCell ⟨w.heap.size + 3, 1, none⟩ (.slice ao2 (n + 1) cap2)) := (Fr.refl (fun k => k = w.heap.size + 3) w2).setCell (p := ⟨w.heap.size + 3, 1, none⟩) (.inl rfl) _
 refine ⟨e2, ⟨?_, ownsRow_of_block ho (fun g hg => hfs.block g (ho.lt g hg).2 (hne2 g hg)), ?_, by have := h.z; have := ha.size; have := hf.size; have := hfs.size; omega⟩⟩
 ·have := heap_setCell_same w2 (w.heap.size + 3) 1 _ 36 (.slice ao2 (n + 1) cap2) e2
  simpa using this
 ·have h1 : Fr (fun k => k = w.heap.size + 3) W1 wa := h.f.trans (ha.mono (fun _ _ h => h.elim)) (fun _ _ h => h)
  refine ⟨hfs.os.trans (hf.os.trans h1.os), hfs.tape.trans (hf.tape.trans h1.tape), hfs.output.trans (hf.output.trans h1.output), Nat.le_trans h1.size (Nat.le_trans hf.size hfs.size), fun k hk hk3 => ?_⟩
  have hk4 : k < wa.heap.size := Nat.lt_of_lt_of_le hk h1.size
  exact (hfs.block k (Nat.lt_of_lt_of_le hk4 hf.size) hk3).trans ((hf.block k hk4 (fun e => by have := (h.o.lt k e).1; omega)).trans (h1.block k hk hk3))
def putL (L : List GC) (i : Nat) (x : GC) : List GC := if i = L.length then L ++ [x] else L.set i x
set_option maxHeartbeats 4000000 in
set_option maxRecDepth 100000 in
theorem gput_any (so : Option Addr) (sn sc : Nat) (rv : Value) (L : List GC) (i : Nat) (x : GC) (w : World) (hr : Rd w 5 rv L.length (cgc L)) (h1 : ∀ y ∈ L, y.one) (hx1 : x.one) (hl : L.length ≤ 1000000) (hi : i ≤ L.length) :
  Calls Tryz.prog 27 #[.agg #[.slice so sn sc, rv], .int .i64 (i : Nat), .agg #[.int .u32 (x.wa : Nat), .int .u32 (x.ow : Nat), .bool x.sl, x.gv, x.vv]] w fun e w' => ∃ v, e = .returned (.agg #[.slice so sn sc, v]) ∧ w'.ownsRow w.heap.size 78 5 v (putL L i x).length (cgc (putL L i x)) ∧ Fr (fun _ => False) w w' := by
 obtain ⟨ro, rc, rfl⟩ := hr.form
 obtain ⟨W1, hW1⟩ : ∃ W1, W1 = (((w.alloc (.cells #[.slice so sn sc, .slice ro L.length rc] 36)).alloc (.cells #[.int .u32 (x.wa : Nat), .int .u32 (x.ow : Nat), .bool x.sl, x.gv, x.vv] 78)).alloc (.cells #[.slice none 0 0, .slice none 0 0] 36)).alloc (.cells #[.slice so sn sc, .slice none 0 0] 36) := ⟨_, rfl⟩
 have hz1 : W1.heap.size = w.heap.size + 4 := by rw [hW1]; simp
 have hf1 : Fr (fun _ => False) w W1 := by rw [hW1]; exact (((box1 w _).alloc _).alloc _).alloc _
 have k0 : W1.heap[w.heap.size]? = some (.cells #[.slice so sn sc, .slice ro L.length rc] 36) := by rw [hW1]; exact ((((Fr.refl (fun _ => False) _).alloc _).alloc _).alloc _ |>.block _ (by simp) (fun h => h)).trans Array.getElem?_push_size
 have k1 : W1.heap[w.heap.size + 1]? = some (.cells #[.int .u32 (x.wa : Nat), .int .u32 (x.ow : Nat), .bool x.sl, x.gv, x.vv] 78) := by rw [hW1]; exact (((Fr.refl (fun _ => False) _).alloc _).alloc _ |>.block _ (by simp) (fun h => h)).trans (heap_two w _ _)
 have k2 : W1.heap[w.heap.size + 2]? = some (.cells #[.slice none 0 0, .slice none 0 0] 36) := by
  rw [hW1]
  refine ((box1 _ _).block _ (by simp) (fun h => h)).trans ?_
  have e := heap_two (w.alloc (.cells #[.slice so sn sc, .slice ro L.length rc] 36)) (.cells #[.int .u32 (x.wa : Nat), .int .u32 (x.ow : Nat), .bool x.sl, x.gv, x.vv] 78) (.cells #[.slice none 0 0, .slice none 0 0] 36)
  simpa using e
 have k3 : W1.heap[w.heap.size + 3]? = some (.cells #[.slice so sn sc, .slice none 0 0] 36) := by
  rw [hW1]
  have e := heap_two ((w.alloc (.cells #[.slice so sn sc, .slice ro L.length rc] 36)).alloc (.cells #[.int .u32 (x.wa : Nat), .int .u32 (x.ow : Nat), .bool x.sl, x.gv, x.vv] 78)) (.cells #[.slice none 0 0, .slice none 0 0] 36) (.cells #[.slice so sn sc, .slice none 0 0] 36)
  simpa using e
 have H1 := hide (And.intro k0 (And.intro k1 (And.intro k2 (And.intro k3 (And.intro hf1 hz1)))))
 have HR0 := hide (And.intro hr (And.intro h1 hx1))
 clear k0 k1 k2 k3 hf1 hz1 hr h1 hx1
 go_enter Tryz.func27, Tryz.ntmps27
 go_wp2_with fail
 rw [← hW1]
 clear hW1
 go_loopw [8] (fun iv wr => ∃ (j : Nat) (ao : Option Addr) (cap : Nat), j ≤ L.length ∧ iv = .int .i64 (j : Nat) ∧ PB w W1 wr (.slice so sn sc) ao j cap ((L.set i x).take j)) (fun iv _ => L.length - (intOf iv).toNat)
 case atStart => exact ⟨0, none, 0, Nat.zero_le _, rfl, ⟨(unhide H1).2.2.2.1, World.ownsRow_nil _ _ _ _, Fr.refl _ _, by rw [(unhide H1).2.2.2.2.2]; exact Nat.le_refl _⟩⟩
 case round =>
  obtain ⟨j, ao, cap, hj, rfl, hpb⟩ := hrel
  have hlow : ∀ k, k ≤ w.heap.size + 2 → ¬ k = w.heap.size + 3 := fun k hk => by omega
  have q0 := (hpb.f.block _ (lt_of_block (unhide H1).1) (hlow _ (by omega))).trans (unhide H1).1
  have q1 := (hpb.f.block _ (lt_of_block (unhide H1).2.1) (hlow _ (by omega))).trans (unhide H1).2.1
  have q2 := (hpb.f.block _ (lt_of_block (unhide H1).2.2.1) (hlow _ (by omega))).trans (unhide H1).2.2.1
  have b01 : wr.cell? ⟨w.heap.size, 1, none⟩ = some (.slice ro L.length rc) := by simp [World.cell?, q0]
  have b31 : wr.cell? ⟨w.heap.size + 3, 1, none⟩ = some (.slice ao j cap) := by simp [World.cell?, hpb.b]
  have b30 : wr.cell? ⟨w.heap.size + 3, 0, none⟩ = some (.slice so sn sc) := by simp [World.cell?, hpb.b]
  have z31 : wr.frozen? ⟨w.heap.size + 3, 1, none⟩ = false := by simp [World.frozen?, hpb.b]
  have hlen : ((L.set i x).take j).length = j := by simp; omega
  by_cases hlt : j < L.length
  ·have hkl : (j : Int) < (L.length : Int) := by omega
   by_cases hij : j = i
   ·have hP : (L.set i x)[j]? = some x := by rw [hij]; exact List.getElem?_set_self (by omega)
    have htk : (L.set i x).take (j + 1) = (L.set i x).take j ++ [x] := by rw [List.take_add_one, hP]; rfl
    obtain ⟨wa, hwa⟩ : ∃ wa, wa = wr.alloc (.cells #[.int .u32 (x.wa : Nat), .int .u32 (x.ow : Nat), .bool x.sl, x.gv, x.vv] 78) := ⟨_, rfl⟩
    have hfa : Fr (fun _ => False) wr wa := by rw [hwa]; exact box1 wr _
    obtain ⟨ao2, cap2, w2, hr2, ho2, hf2⟩ := app_GC wa (w.heap.size + 4) wr.heap.size (.slice ao j cap) ((L.set i x).take j) x (by rw [hlen]; exact ownsRow_of_block hpb.o (fun g hg => hfa.block g (hpb.o.lt g hg).2 (fun h => h))) (by have := hpb.z; have := hfa.size; omega) (by omega) (by rw [hwa]; exact Array.getElem?_push_size) (GC.one_cs (unhide HR0).2.2)
    rw [hlen] at hr2 ho2
    obtain ⟨e2, hnx⟩ := hpb.next hfa ho2 hf2 (unhide H1).2.2.2.2.2
    rw [← htk] at hnx
    have c31 : w2.cell? ⟨w.heap.size + 3, 1, none⟩ = some (.slice ao j cap) := by simp [World.cell?, e2]
    have y31 : w2.frozen? ⟨w.heap.size + 3, 1, none⟩ = false := by simp [World.frozen?, e2]
    have a0 : wr.cell? ⟨w.heap.size + 1, 0, none⟩ = some (.int .u32 (x.wa : Nat)) := by simp [World.cell?, q1]
    have a1 : wr.cell? ⟨w.heap.size + 1, 1, none⟩ = some (.int .u32 (x.ow : Nat)) := by simp [World.cell?, q1]
    have a2 : wr.cell? ⟨w.heap.size + 1, 2, none⟩ = some (.bool x.sl) := by simp [World.cell?, q1]
    have a3 : wr.cell? ⟨w.heap.size + 1, 3, none⟩ = some x.gv := by simp [World.cell?, q1]
    have a4 : wr.cell? ⟨w.heap.size + 1, 4, none⟩ = some x.vv := by simp [World.cell?, q1]
    rw [hwa] at hr2
    have HR := hide hr2
    have HN := hide hnx
    have hij2 : (j : Int) = (i : Int) := by omega
    clear hpb q0 q1 q2 hlen hP htk hfa hr2 ho2 hf2 e2 hnx hwa hij hlow b30
    rw [← hij2]
    clear hij2
    go_wp2_with (at_builtin; refine wpList_app rfl (.tmp 23) (.tmp 25) 34 34 rfl _ _ _ rfl rfl (unhide HR) ?_)
    go_roundw
    case rel => exact ⟨j + 1, ao2, cap2, hlt, by go_num, unhide HN⟩
    case measure => simp [intOf]; omega
   ·obtain ⟨g, o, rfl, hc⟩ := ((unhide HR0).1.frS ((unhide H1).2.2.2.2.1.absorb hpb.f (fun k hk => by omega)) (fun _ _ h => h)).at_ (by omega)
    obtain ⟨P, hPe⟩ : ∃ P, L[j] = P := ⟨_, rfl⟩
    have hPe2 : L[j]? = some P := by rw [List.getElem?_eq_getElem hlt, hPe]
    have hP : (L.set i x)[j]? = some P := by rw [List.getElem?_set_ne (fun e => hij e.symm)]; exact hPe2
    have htk : (L.set i x).take (j + 1) = (L.set i x).take j ++ [P] := by rw [List.take_add_one, hP]; rfl
    have hat := cgc_at L j P hPe2
    have c0 := hc (j * 5) _ (by have := hat 0 (by omega); simpa [GC.cs] using this)
    have c1 := hc (j * 5 + 1) _ (by have := hat 1 (by omega); simpa [GC.cs] using this)
    have c2 := hc (j * 5 + 2) _ (by have := hat 2 (by omega); simpa [GC.cs] using this)
    have c3 := hc (j * 5 + 3) _ (by have := hat 3 (by omega); simpa [GC.cs] using this)
    have c4 := hc (j * 5 + 4) _ (by have := hat 4 (by omega); simpa [GC.cs] using this)
    rw [← Nat.add_assoc] at c1 c2 c3 c4
    have hgl : g < wr.heap.size := lt_of_cell c0
    obtain ⟨za, hza⟩ : ∃ za, za = wr.heap.size := ⟨_, rfl⟩
    obtain ⟨wa, hWa⟩ : ∃ wa, wa = (wr.alloc (.cells #[.int .u32 (P.wa : Nat), .int .u32 (P.ow : Nat), .bool P.sl, P.gv, P.vv] 78)).drew := ⟨_, rfl⟩
    have hfa : Fr (fun _ => False) wr wa := by rw [hWa]; exact (box1 wr _).drew
    obtain ⟨ao2, cap2, w2, hr2, ho2, hf2⟩ := app_GC wa (w.heap.size + 4) za (.slice ao j cap) ((L.set i x).take j) P (by rw [hlen]; exact ownsRow_of_block hpb.o (fun g hg => hfa.block g (hpb.o.lt g hg).2 (fun h => h))) (by have := hpb.z; have := hfa.size; omega) (by omega) (by rw [hWa, hza]; exact Array.getElem?_push_size) (GC.one_cs ((unhide HR0).2.1 P (List.mem_of_getElem? hPe2)))
    rw [hlen] at hr2 ho2
    obtain ⟨e2, hnx⟩ := hpb.next hfa ho2 hf2 (unhide H1).2.2.2.2.2
    rw [← htk] at hnx
    have hfb : Fr (fun k => (Value.slice ao j cap).ownBlock = some k) wr w2 := (hfa.mono (fun _ _ h => h.elim)).trans hf2 (fun _ _ h => h)
    have c31 : w2.cell? ⟨w.heap.size + 3, 1, none⟩ = some (.slice ao j cap) := by simp [World.cell?, e2]
    have y31 : w2.frozen? ⟨w.heap.size + 3, 1, none⟩ = false := by simp [World.frozen?, e2]
    have hg4 : ∀ g', (Value.slice ao j cap).ownBlock = some g' → w.heap.size + 4 ≤ g' := fun g' hg' => (hpb.o.lt g' hg').1
    have hgw : g < w.heap.size := by
     have h9 := (unhide HR0).1.at_ (by omega)
     obtain ⟨g', o', e', hc'⟩ := h9
     cases e'
     exact lt_of_cell (hc' (j * 5) _ (by have := hat 0 (by omega); simpa [GC.cs] using this))
    have hl3 := lt_of_block hpb.b
    have HS : Hid (∀ W, Fr (fun k => (Value.slice ao j cap).ownBlock = some k) wr W → W.cell? ⟨w.heap.size + 3, 1, none⟩ = some (.slice ao j cap) ∧ W.cell? ⟨w.heap.size, 1, none⟩ = some (.slice (some ⟨g, o, none⟩) L.length rc) ∧ W.cell? ⟨g, o + j * 5, none⟩ = some (.int .u32 (P.wa : Nat)) ∧ W.cell? ⟨g, o + j * 5 + 1, none⟩ = some (.int .u32 (P.ow : Nat)) ∧ W.cell? ⟨g, o + j * 5 + 2, none⟩ = some (.bool P.sl) ∧ W.cell? ⟨g, o + j * 5 + 3, none⟩ = some P.gv ∧ W.cell? ⟨g, o + j * 5 + 4, none⟩ = some P.vv) := fun W hW => by
     have n0 : ∀ k, k < w.heap.size + 4 → ¬ (Value.slice ao j cap).ownBlock = some k := fun k hk e => by have := hg4 k e; omega
     exact ⟨(hW.cell (p := ⟨w.heap.size + 3, 1, none⟩) hl3 (n0 _ (by show w.heap.size + 3 < _; omega))).trans b31, (hW.cell (p := ⟨w.heap.size, 1, none⟩) (by show w.heap.size < _; omega) (n0 _ (by show w.heap.size < _; omega))).trans b01, (hW.cell (p := ⟨g, _, none⟩) hgl (n0 g (by omega))).trans c0, (hW.cell (p := ⟨g, _, none⟩) hgl (n0 g (by omega))).trans c1, (hW.cell (p := ⟨g, _, none⟩) hgl (n0 g (by omega))).trans c2, (hW.cell (p := ⟨g, _, none⟩) hgl (n0 g (by omega))).trans c3, (hW.cell (p := ⟨g, _, none⟩) hgl (n0 g (by omega))).trans c4⟩
    have FA : Hid (Fr (fun k => (Value.slice ao j cap).ownBlock = some k) wr wa) := hfa.mono (fun _ _ h => h.elim)
    have FB := hide hfb
    have HR := hide hr2
    have HN := hide hnx
    have hij2 : ¬ (j : Int) = (i : Int) := by omega
    clear hpb q0 q1 q2 hlen hP htk hfa hr2 ho2 hf2 e2 hnx hlow b30 hc hat hPe hPe2 hfb hg4 hij c0 c1 c2 c3 c4 hgw hl3
    go_wp2_with fail
    refine wp_region_last (n := 10) (m := 10) (S := (fun W => W.cell? ⟨w.heap.size + 3, 1, none⟩ = some (.slice ao j cap) ∧ W.cell? ⟨w.heap.size, 1, none⟩ = some (.slice (some ⟨g, o, none⟩) L.length rc) ∧ W.cell? ⟨g, o + j * 5, none⟩ = some (.int .u32 (P.wa : Nat)) ∧ W.cell? ⟨g, o + j * 5 + 1, none⟩ = some (.int .u32 (P.ow : Nat)) ∧ W.cell? ⟨g, o + j * 5 + 2, none⟩ = some (.bool P.sl) ∧ W.cell? ⟨g, o + j * 5 + 3, none⟩ = some P.gv ∧ W.cell? ⟨g, o + j * 5 + 4, none⟩ = some P.vv)) (by kernel_rfl) rfl rfl rfl (by kernel_rfl) (by kernel_rfl) ((unhide HS) _ (Fr.refl _ _).drew) (fun hHeld => ?_)
    refine wtk2 (i := 0) rfl hHeld ?_
    (try simp only [Act.put, nrm])
    refine wtk2 (i := 1) rfl hHeld ?_
    (try simp only [Act.put, nrm])
    refine wtk2 (i := 2) rfl hHeld ?_
    (try simp only [Act.put, nrm])
    refine wtk2 (i := 3) rfl hHeld ?_
    (try simp only [Act.put, nrm])
    refine wtk2 (i := 4) rfl hHeld ?_
    (try simp only [Act.put, nrm])
    refine wtk2 (i := 5) rfl hHeld ?_
    (try simp only [Act.put, nrm])
    refine wtk2 (i := 6) rfl hHeld ?_
    (try simp only [Act.put, nrm])
    refine wpAnyH_ready (rs := [7]) (by kernel_rfl) (by simp) (AllReadyH.cons rfl (fun K hK => ?_) (AllReadyH.nil))
    go_simp
    rw [← hWa, ← hza]
    refine hK.out _ _ ((unhide HS) _ (unhide FA)) (fun hHeld => ?_)
    clear hK K
    (try simp only [Act.put, nrm])
    refine wpAnyH_ready (rs := [8]) (by kernel_rfl) (by simp) (AllReadyH.cons rfl (fun K hK => ?_) (AllReadyH.nil))
    refine step_app rfl (.tmp 29) (.tmp 35) 34 34 rfl _ _ _ (by simp [Act.eval]) (by simp [Act.eval]) (unhide HR) ?_
    refine hK.out _ _ ((unhide HS) _ (unhide FB)) (fun hHeld => ?_)
    clear hK K
    (try simp only [Act.put, nrm])
    refine wtk2 (i := 9) rfl hHeld ?_
    (try simp only [Act.put, nrm])
    refine wpAnyH_done (by kernel_rfl) ?_ _
    simp only [lastQ]
    clear hWa hza
    go_simp
    go_wp2_with fail
    go_roundw
    case rel => exact ⟨j + 1, ao2, cap2, hlt, by go_num, unhide HN⟩
    case measure => simp [intOf]; omega
  ·obtain rfl : j = L.length := by omega
   have r20 : wr.cell? ⟨w.heap.size + 2, 0, none⟩ = some (.slice none 0 0) := by simp [World.cell?, q2]
   have r21 : wr.cell? ⟨w.heap.size + 2, 1, none⟩ = some (.slice none 0 0) := by simp [World.cell?, q2]
   have y20 : wr.frozen? ⟨w.heap.size + 2, 0, none⟩ = false := by simp [World.frozen?, q2]
   have y21 : wr.frozen? ⟨w.heap.size + 2, 1, none⟩ = false := by simp [World.frozen?, q2]
   by_cases hil : i = L.length
   ·subst hil
    rw [show L.set L.length x = L from List.set_eq_of_length_le (Nat.le_refl _), List.take_length] at hpb
    obtain ⟨wa, hwa⟩ : ∃ wa, wa = wr.alloc (.cells #[.int .u32 (x.wa : Nat), .int .u32 (x.ow : Nat), .bool x.sl, x.gv, x.vv] 78) := ⟨_, rfl⟩
    have hfa : Fr (fun _ => False) wr wa := by rw [hwa]; exact box1 wr _
    obtain ⟨ao2, cap2, w2, hr2, ho2, hf2⟩ := app_GC wa (w.heap.size + 4) wr.heap.size (.slice ao L.length cap) L x (ownsRow_of_block hpb.o (fun g hg => hfa.block g (hpb.o.lt g hg).2 (fun h => h))) (by have := hpb.z; have := hfa.size; omega) (by omega) (by rw [hwa]; exact Array.getElem?_push_size) (GC.one_cs (unhide HR0).2.2)
    obtain ⟨e2, hnx⟩ := hpb.next hfa ho2 hf2 (unhide H1).2.2.2.2.2
    have hg4 : ∀ g', (Value.slice ao L.length cap).ownBlock = some g' → w.heap.size + 4 ≤ g' := fun g' hg' => (hpb.o.lt g' hg').1
    have e5 := (hf2.block (w.heap.size + 2) (Nat.lt_of_lt_of_le (lt_of_block q2) hfa.size) (fun h => by have := hg4 _ h; omega)).trans ((hfa.block _ (lt_of_block q2) (fun h => h)).trans q2)
    have c30 : w2.cell? ⟨w.heap.size + 3, 0, none⟩ = some (.slice so sn sc) := by simp [World.cell?, e2]
    have c31 : w2.cell? ⟨w.heap.size + 3, 1, none⟩ = some (.slice ao L.length cap) := by simp [World.cell?, e2]
    have y31 : w2.frozen? ⟨w.heap.size + 3, 1, none⟩ = false := by simp [World.frozen?, e2]
    have s20 : w2.cell? ⟨w.heap.size + 2, 0, none⟩ = some (.slice none 0 0) := by simp [World.cell?, e5]
    have s21 : w2.cell? ⟨w.heap.size + 2, 1, none⟩ = some (.slice none 0 0) := by simp [World.cell?, e5]
    have t20 : w2.frozen? ⟨w.heap.size + 2, 0, none⟩ = false := by simp [World.frozen?, e5]
    have t21 : w2.frozen? ⟨w.heap.size + 2, 1, none⟩ = false := by simp [World.frozen?, e5]
    have a0 : wr.cell? ⟨w.heap.size + 1, 0, none⟩ = some (.int .u32 (x.wa : Nat)) := by simp [World.cell?, q1]
    have a1 : wr.cell? ⟨w.heap.size + 1, 1, none⟩ = some (.int .u32 (x.ow : Nat)) := by simp [World.cell?, q1]
    have a2 : wr.cell? ⟨w.heap.size + 1, 2, none⟩ = some (.bool x.sl) := by simp [World.cell?, q1]
    have a3 : wr.cell? ⟨w.heap.size + 1, 3, none⟩ = some x.gv := by simp [World.cell?, q1]
    have a4 : wr.cell? ⟨w.heap.size + 1, 4, none⟩ = some x.vv := by simp [World.cell?, q1]
    have e6 : (w2.setCell ⟨w.heap.size + 3, 1, none⟩ (.slice ao2 (L.length + 1) cap2)).heap[w.heap.size + 2]? = some (.cells #[.slice none 0 0, .slice none 0 0] 36) := (((Fr.refl (fun k => k = w.heap.size + 3) w2).setCell (p := ⟨w.heap.size + 3, 1, none⟩) (.inl rfl) (.slice ao2 (L.length + 1) cap2)).block _ (lt_of_block e5) (by omega)).trans e5
    rw [hwa] at hr2
    have HR := hide hr2
    have HN := hide (And.intro hnx e6)
    clear hpb q0 q1 q2 hlen hfa hr2 ho2 hf2 e2 hnx hwa hlow e5 hg4 e6
    go_wp2_with (at_builtin; refine wpList_app rfl (.tmp 44) (.tmp 46) 34 34 rfl _ _ _ rfl rfl (unhide HR) ?_)
    have m0 := heap_setCell_same _ (w.heap.size + 2) 0 _ 36 (.slice so sn sc) (unhide HN).2
    have m1 := heap_setCell_same _ (w.heap.size + 2) 1 _ 36 (.slice ao2 (L.length + 1) cap2) m0
    have hfr := ((Fr.refl (fun k => k = w.heap.size + 2) (w2.setCell ⟨w.heap.size + 3, 1, none⟩ (.slice ao2 (L.length + 1) cap2))).setCell (p := ⟨w.heap.size + 2, 0, none⟩) (.inl rfl) (.slice so sn sc)).setCell (p := ⟨w.heap.size + 2, 1, none⟩) (.inl rfl) (.slice ao2 (L.length + 1) cap2)
    refine bodyPost_ret (results_cell_mid rfl _ _ (w.heap.size + 2) 0 [.slice so sn sc, .slice ao2 (L.length + 1) cap2] _ rfl (range_of_block (t := 36) (by simpa using m1)) Tryz.underlying36 rfl (by kernel_rfl)) rfl ?_
    refine ⟨_, rfl, ?_, ((unhide H1).2.2.2.2.1.absorb (unhide HN).1.f (fun k hk => by omega)).absorb hfr (fun k hk => by omega)⟩
    ·rw [show putL L L.length x = L ++ [x] from if_pos rfl, List.length_append, List.length_singleton]
     exact ownsRow_base (ownsRow_of_block (unhide HN).1.o (fun g hg => hfr.block g ((unhide HN).1.o.lt g hg).2 (fun e => by have := ((unhide HN).1.o.lt g hg).1; omega))) (by omega)
   ·have hil2 : ¬ (i : Int) = (L.length : Int) := by omega
    have hpb2 := hpb
    rw [show (L.set i x).take L.length = L.set i x by rw [List.take_of_length_le (by simp)]] at hpb2
    have HN := hide (And.intro hpb2 q2)
    have HI := hide hil
    clear hpb hpb2 q0 q1 q2 hlen hlow hil
    go_wp2_with fail
    have m0 := heap_setCell_same _ (w.heap.size + 2) 0 _ 36 (.slice so sn sc) (unhide HN).2
    have m1 := heap_setCell_same _ (w.heap.size + 2) 1 _ 36 (.slice ao L.length cap) m0
    have hfr := ((Fr.refl (fun k => k = w.heap.size + 2) wr).setCell (p := ⟨w.heap.size + 2, 0, none⟩) (.inl rfl) (.slice so sn sc)).setCell (p := ⟨w.heap.size + 2, 1, none⟩) (.inl rfl) (.slice ao L.length cap)
    refine bodyPost_ret (results_cell_mid rfl _ _ (w.heap.size + 2) 0 [.slice so sn sc, .slice ao L.length cap] _ rfl (range_of_block (t := 36) (by simpa using m1)) Tryz.underlying36 rfl (by kernel_rfl)) rfl ?_
    refine ⟨_, rfl, ?_, ((unhide H1).2.2.2.2.1.absorb (unhide HN).1.f (fun k hk => by omega)).absorb hfr (fun k hk => by omega)⟩
    ·rw [show putL L i x = L.set i x from if_neg (unhide HI), List.length_set]
     exact ownsRow_base (ownsRow_of_block (unhide HN).1.o (fun g hg => hfr.block g ((unhide HN).1.o.lt g hg).2 (fun e => by have := ((unhide HN).1.o.lt g hg).1; omega))) (by omega)
end Go.Proofs.YtiknjghcjaaenaaGreatDoor
namespace Go.Proofs.YtiknjghcjaaenaaGreatDoor
open Go.RowKit
def fndI (S : List P3) (k : Nat) : Int := match fnd S k with
 | some j => (j : Int)
 | none => -1
set_option maxRecDepth 100000 in
theorem gfind_any (x : Value) (l : List P3) (k : Nat) (w : World) (hx : Stf w x l) (hl : l.length ≤ 140737488355328) :
  Calls Tryz.prog 25 #[x, .int .u32 (k : Nat)] w fun e w' => e = .returned (.int .i64 (fndI l k)) ∧ w' = w := by
 have HX := hide hx
 obtain ⟨xo, xc, rfl⟩ := hx.form
 clear hx
 go_enter Tryz.func25, Tryz.ntmps25
 go_wp2_with fail
 go_loopw [5] (fun iv wr => ∃ j : Nat, j ≤ l.length ∧ iv = .int .i64 (j : Nat) ∧ (∀ i (hi : i < l.length), i < j → l[i].a ≠ k) ∧ wr = w) (fun iv _ => l.length - (intOf iv).toNat)
 case atStart => exact ⟨0, Nat.zero_le _, rfl, fun i _ h => by omega, rfl⟩
 case round =>
  obtain ⟨j, hj, rfl, hno, rfl⟩ := hrel
  have HF := hide hno
  clear hno
  by_cases hlt : j < l.length
  ·obtain ⟨g, o, rfl, c0, c1, c2⟩ := (unhide HX).at_ j hlt
   clear c1 c2
   obtain ⟨a, ha⟩ : ∃ a, l[j].a = a := ⟨_, rfl⟩
   rw [ha] at c0
   have HA := hide ha
   clear ha
   by_cases hk : a = k
   ·have HE := hide (fnd_at hlt (unhide HF) ((unhide HA).trans hk)).1
    subst hk
    go_wp2_with fail
    go_ret
    exact ⟨by rw [fndI, unhide HE]; rfl, rfl⟩
   ·go_wp2_with fail
    go_roundw
    case rel =>
     refine ⟨j + 1, hlt, rfl, fun i hi h => ?_, trivial⟩
     rcases Nat.lt_or_ge i j with h1 | h1
     ·exact (unhide HF) i hi h1
     ·obtain rfl : i = j := by omega
      rw [unhide HA]; exact hk
    case measure => simp [intOf]; omega
  ·have HE := hide (fnd_no (l := l) (k := k) (fun i hi => (unhide HF) i hi (by omega))).1
   go_wp2_with fail
   go_ret
   exact ⟨by rw [fndI, unhide HE]; rfl, rfl⟩
set_option maxRecDepth 100000 in
theorem ggranted_any (wd ow : Value) (sl : Value) (x : Value) (l : List Nat) (k : Nat) (w : World) (hx : Us w x l) (hl : l.length ≤ 140737488355328) :
  Calls Tryz.prog 65 #[.agg #[wd, ow, sl, x], .int .u32 (k : Nat)] w fun e w' => e = .returned (.bool (decide (k ∈ l))) ∧ Fr (fun _ => False) w w' := by
 have HX := hide hx
 obtain ⟨xo, xc, rfl⟩ := hx.form
 clear hx
 go_enter Tryz.func65, Tryz.ntmps65
 go_wp2_with fail
 obtain ⟨w1, hw1⟩ : ∃ w1, w.alloc (.cells #[wd, ow, sl, .slice xo l.length xc] 73) = w1 := ⟨_, rfl⟩
 have hf1 : Fr (fun _ => False) w w1 := by rw [← hw1]; exact (Fr.refl _ _).alloc _
 have hb1 : w1.heap[w.heap.size]? = some (.cells #[wd, ow, sl, .slice xo l.length xc] 73) := by rw [← hw1]; exact Array.getElem?_push_size
 have b3 : w1.cell? ⟨w.heap.size, 3, none⟩ = some (.slice xo l.length xc) := by simp only [World.cell?, hb1]; rfl
 have HX1 := hide ((unhide HX).fr hf1)
 have HF1 := hide hf1
 rw [hw1]
 clear hw1 hf1 HX hb1
 go_loopw [5] (fun iv wr => ∃ j : Nat, j ≤ l.length ∧ iv = .int .i64 (j : Nat) ∧ (∀ i (hi : i < l.length), i < j → l[i] ≠ k) ∧ wr = w1) (fun iv _ => l.length - (intOf iv).toNat)
 case atStart => exact ⟨0, Nat.zero_le _, rfl, fun i _ h => by omega, rfl⟩
 case round =>
  obtain ⟨j, hj, rfl, hno, rfl⟩ := hrel
  have HF := hide hno
  clear hno
  by_cases hlt : j < l.length
  ·obtain ⟨g, o, rfl, c0⟩ := (unhide HX1).at_ j hlt
   obtain ⟨a, ha⟩ : ∃ a, l[j] = a := ⟨_, rfl⟩
   rw [ha] at c0
   have HA := hide ha
   clear ha
   by_cases hk : a = k
   ·have HM := hide (show k ∈ l by rw [← hk, ← unhide HA]; exact List.getElem_mem hlt)
    subst hk
    go_wp2_with fail
    go_ret
    exact ⟨by simp [unhide HM], unhide HF1⟩
   ·go_wp2_with fail
    go_roundw
    case rel =>
     refine ⟨j + 1, hlt, rfl, fun i hi h => ?_, trivial⟩
     rcases Nat.lt_or_ge i j with h1 | h1
     ·exact (unhide HF) i hi h1
     ·obtain rfl : i = j := by omega
      rw [unhide HA]; exact hk
    case measure => simp [intOf]; omega
  ·have HM := hide (show ¬ k ∈ l from fun h => by
    obtain ⟨i, hi, e⟩ := List.mem_iff_getElem.1 h
    exact (unhide HF) i hi (by omega) e)
   go_wp2_with fail
   go_ret
   exact ⟨by simp [unhide HM], unhide HF1⟩
end Go.Proofs.YtiknjghcjaaenaaGreatDoor
