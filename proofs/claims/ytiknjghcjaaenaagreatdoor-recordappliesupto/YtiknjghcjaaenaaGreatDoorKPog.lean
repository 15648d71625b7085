import Derived.Test.YtiknjghcjaaenaaGreatDoorKPof
namespace Go.Proofs.YtiknjghcjaaenaaGreatDoor
open Go.RowKit
set_option maxHeartbeats 2000000 in
set_option maxRecDepth 100000 in
theorem mayCreate_any (q : QM) (S : List P3) (G : List Nat) (F : List F5) (w : World) (HE : Hid (QE w q S G F)) :
  Calls Tryz.prog 111 #[q.v] w fun e w' => e = .returned (.bool (crF q S)) ∧ Fr (fun _ => False) w w' := by
 have hP := QB.new w q
 simp only [QM.cs] at hP
 obtain ⟨c0, c1, c2, c3, c4, c5, c6, c7, c8, c9⟩ := hP.cells
 simp only [QM.v]
 go_enter Tryz.func111, Tryz.ntmps111
 rcases hq : ownP S q.ow with _ | _
 ·go_wp2_with fail
  have hC := oip_B hP HE hq
  clear hP c0 c1 c2 c3 c4 c5 c6 c7 c8 c9
  refine hC.mono ?_
  clear hC
  rintro e wq ⟨rfl, hP⟩
  obtain ⟨c0, c1, c2, c3, c4, c5, c6, c7, c8, c9⟩ := hP.cells
  go_wp2_with fail
  go_ret
  exact ⟨by simp [crF, hq], hP.fr⟩
 ·go_wp2_with fail
  have hC := oip_B hP HE hq
  clear hP c0 c1 c2 c3 c4 c5 c6 c7 c8 c9
  refine hC.mono ?_
  clear hC
  rintro e wq ⟨rfl, hP⟩
  obtain ⟨c0, c1, c2, c3, c4, c5, c6, c7, c8, c9⟩ := hP.cells
  rcases hn : q.near with _ | _
  ·go_wp2_with fail
   have hC := near_B hP hn
   clear hP c0 c1 c2 c3 c4 c5 c6 c7 c8 c9
   refine hC.mono ?_
   clear hC
   rintro e wq ⟨rfl, hP⟩
   obtain ⟨c0, c1, c2, c3, c4, c5, c6, c7, c8, c9⟩ := hP.cells
   go_wp2_with fail
   go_ret
   exact ⟨by simp [crF, hn, hq], hP.fr⟩
  ·go_wp2_with fail
   have hC := near_B hP hn
   clear hP c0 c1 c2 c3 c4 c5 c6 c7 c8 c9
   refine hC.mono ?_
   clear hC
   rintro e wq ⟨rfl, hP⟩
   obtain ⟨c0, c1, c2, c3, c4, c5, c6, c7, c8, c9⟩ := hP.cells
   rcases hr123 : q.role [1, 2, 3] with _ | _
   ·go_wp2_with fail
    have hC := is3_B hP 1 2 3 hr123
    clear hP c0 c1 c2 c3 c4 c5 c6 c7 c8 c9
    refine hC.mono ?_
    clear hC
    rintro e wq ⟨rfl, hP⟩
    obtain ⟨c0, c1, c2, c3, c4, c5, c6, c7, c8, c9⟩ := hP.cells
    go_wp2_with fail
    go_ret
    exact ⟨by simp [crF, hn, hq, hr123], hP.fr⟩
   ·go_wp2_with fail
    have hC := is3_B hP 1 2 3 hr123
    clear hP c0 c1 c2 c3 c4 c5 c6 c7 c8 c9
    refine hC.mono ?_
    clear hC
    rintro e wq ⟨rfl, hP⟩
    obtain ⟨c0, c1, c2, c3, c4, c5, c6, c7, c8, c9⟩ := hP.cells
    go_wp2_with fail
    go_ret
    exact ⟨by simp [crF, hn, hq, hr123], hP.fr⟩
set_option maxHeartbeats 2000000 in
set_option maxRecDepth 100000 in
theorem whyNotCreate_any (q : QM) (S : List P3) (G : List Nat) (F : List F5) (w : World) (HE : Hid (QE w q S G F)) :
  Calls Tryz.prog 112 #[q.v] w fun e w' => e = .returned (.int .u8 (whyCr q S : Nat)) ∧ Fr (fun _ => False) w w' := by
 have hP := QB.new w q
 simp only [QM.cs] at hP
 obtain ⟨c0, c1, c2, c3, c4, c5, c6, c7, c8, c9⟩ := hP.cells
 simp only [QM.v]
 go_enter Tryz.func112, Tryz.ntmps112
 rcases hq : ownP S q.ow with _ | _
 ·go_wp2_with fail
  have hC := oip_B hP HE hq
  clear hP c0 c1 c2 c3 c4 c5 c6 c7 c8 c9
  refine hC.mono ?_
  clear hC
  rintro e wq ⟨rfl, hP⟩
  obtain ⟨c0, c1, c2, c3, c4, c5, c6, c7, c8, c9⟩ := hP.cells
  go_wp2_with fail
  go_ret
  exact ⟨by simp [whyCr, hq], hP.fr⟩
 ·go_wp2_with fail
  have hC := oip_B hP HE hq
  clear hP c0 c1 c2 c3 c4 c5 c6 c7 c8 c9
  refine hC.mono ?_
  clear hC
  rintro e wq ⟨rfl, hP⟩
  obtain ⟨c0, c1, c2, c3, c4, c5, c6, c7, c8, c9⟩ := hP.cells
  go_wp2_with fail
  go_ret
  exact ⟨by simp [whyCr, hq], hP.fr⟩
set_option maxHeartbeats 2000000 in
set_option maxRecDepth 100000 in
theorem mayHistory_any (q : QM) (S : List P3) (G : List Nat) (F : List F5) (w : World) (HE : Hid (QE w q S G F)) :
  Calls Tryz.prog 119 #[q.v] w fun e w' => e = .returned (.bool (hiF q G)) ∧ Fr (fun _ => False) w w' := by
 have hP := QB.new w q
 simp only [QM.cs] at hP
 obtain ⟨c0, c1, c2, c3, c4, c5, c6, c7, c8, c9⟩ := hP.cells
 simp only [QM.v]
 go_enter Tryz.func119, Tryz.ntmps119
 rcases hr4 : q.role [4] with _ | _
 ·go_wp2_with fail
  have hC := is1_B hP 4 hr4
  rw [show ∀ o, (w.alloc o).heap.size = w.heap.size + 1 from fun o => by simp] at hC
  clear hP c0 c1 c2 c3 c4 c5 c6 c7 c8 c9
  refine hC.mono ?_
  clear hC
  rintro e wq ⟨rfl, hP⟩
  obtain ⟨c0, c1, c2, c3, c4, c5, c6, c7, c8, c9⟩ := hP.cells
  rcases hd : rdF q G with _ | _
  ·go_wp2_with fail
   have hC := rd_B hP HE hd
   clear hP c0 c1 c2 c3 c4 c5 c6 c7 c8 c9
   refine hC.mono ?_
   clear hC
   rintro e wq ⟨rfl, hP⟩
   obtain ⟨c0, c1, c2, c3, c4, c5, c6, c7, c8, c9⟩ := hP.cells
   go_wp2_with fail
   go_ret
   exact ⟨by simp [hiF, hd, hr4], hP.fr⟩
  ·go_wp2_with fail
   have hC := rd_B hP HE hd
   clear hP c0 c1 c2 c3 c4 c5 c6 c7 c8 c9
   refine hC.mono ?_
   clear hC
   rintro e wq ⟨rfl, hP⟩
   obtain ⟨c0, c1, c2, c3, c4, c5, c6, c7, c8, c9⟩ := hP.cells
   go_wp2_with fail
   go_ret
   exact ⟨by simp [hiF, hd, hr4], hP.fr⟩
 ·go_wp2_with fail
  have hC := is1_B hP 4 hr4
  rw [show ∀ o, (w.alloc o).heap.size = w.heap.size + 1 from fun o => by simp] at hC
  clear hP c0 c1 c2 c3 c4 c5 c6 c7 c8 c9
  refine hC.mono ?_
  clear hC
  rintro e wq ⟨rfl, hP⟩
  obtain ⟨c0, c1, c2, c3, c4, c5, c6, c7, c8, c9⟩ := hP.cells
  go_wp2_with fail
  go_ret
  exact ⟨by simp [hiF, hr4], hP.fr⟩
set_option maxHeartbeats 2000000 in
set_option maxRecDepth 100000 in
theorem mayAmend_any (q : QM) (S : List P3) (G : List Nat) (F : List F5) (w : World) (HE : Hid (QE w q S G F)) :
  Calls Tryz.prog 113 #[q.v] w fun e w' => e = .returned (.bool (amF q G F)) ∧ Fr (fun _ => False) w w' := by
 have hP := QB.new w q
 simp only [QM.cs] at hP
 obtain ⟨c0, c1, c2, c3, c4, c5, c6, c7, c8, c9⟩ := hP.cells
 simp only [QM.v]
 go_enter Tryz.func113, Tryz.ntmps113
 rcases hd : rdF q G with _ | _
 ·go_wp2_with fail
  have hC := rd_B hP HE hd
  clear hP c0 c1 c2 c3 c4 c5 c6 c7 c8 c9
  refine hC.mono ?_
  clear hC
  rintro e wq ⟨rfl, hP⟩
  obtain ⟨c0, c1, c2, c3, c4, c5, c6, c7, c8, c9⟩ := hP.cells
  go_wp2_with fail
  go_ret
  exact ⟨by simp [amF, hd], hP.fr⟩
 ·go_wp2_with fail
  have hC := rd_B hP HE hd
  clear hP c0 c1 c2 c3 c4 c5 c6 c7 c8 c9
  refine hC.mono ?_
  clear hC
  rintro e wq ⟨rfl, hP⟩
  obtain ⟨c0, c1, c2, c3, c4, c5, c6, c7, c8, c9⟩ := hP.cells
  rcases hr23 : q.role [2, 3] with _ | _
  ·go_wp2_with fail
   have hC := is2_B hP 2 3 hr23
   clear hP c0 c1 c2 c3 c4 c5 c6 c7 c8 c9
   refine hC.mono ?_
   clear hC
   rintro e wq ⟨rfl, hP⟩
   obtain ⟨c0, c1, c2, c3, c4, c5, c6, c7, c8, c9⟩ := hP.cells
   rcases hr1 : q.role [1] with _ | _
   ·go_wp2_with fail
    have hC := is1_B hP 1 hr1
    clear hP c0 c1 c2 c3 c4 c5 c6 c7 c8 c9
    refine hC.mono ?_
    clear hC
    rintro e wq ⟨rfl, hP⟩
    obtain ⟨c0, c1, c2, c3, c4, c5, c6, c7, c8, c9⟩ := hP.cells
    go_wp2_with fail
    go_ret
    exact ⟨by simp [amF, hd, hr1, hr23], hP.fr⟩
   ·go_wp2_with fail
    have hC := is1_B hP 1 hr1
    clear hP c0 c1 c2 c3 c4 c5 c6 c7 c8 c9
    refine hC.mono ?_
    clear hC
    rintro e wq ⟨rfl, hP⟩
    obtain ⟨c0, c1, c2, c3, c4, c5, c6, c7, c8, c9⟩ := hP.cells
    rcases ht : txts F with _ | _
    ·go_wp2_with fail
     have hC := txt_B hP HE ht
     clear hP c0 c1 c2 c3 c4 c5 c6 c7 c8 c9
     refine hC.mono ?_
     clear hC
     rintro e wq ⟨rfl, hP⟩
     obtain ⟨c0, c1, c2, c3, c4, c5, c6, c7, c8, c9⟩ := hP.cells
     go_wp2_with fail
     go_ret
     exact ⟨by simp [amF, hd, hr1, hr23, ht], hP.fr⟩
    ·go_wp2_with fail
     have hC := txt_B hP HE ht
     clear hP c0 c1 c2 c3 c4 c5 c6 c7 c8 c9
     refine hC.mono ?_
     clear hC
     rintro e wq ⟨rfl, hP⟩
     obtain ⟨c0, c1, c2, c3, c4, c5, c6, c7, c8, c9⟩ := hP.cells
     go_wp2_with fail
     go_ret
     exact ⟨by simp [amF, hd, hr1, hr23, ht], hP.fr⟩
  ·go_wp2_with fail
   have hC := is2_B hP 2 3 hr23
   clear hP c0 c1 c2 c3 c4 c5 c6 c7 c8 c9
   refine hC.mono ?_
   clear hC
   rintro e wq ⟨rfl, hP⟩
   obtain ⟨c0, c1, c2, c3, c4, c5, c6, c7, c8, c9⟩ := hP.cells
   go_wp2_with fail
   go_ret
   exact ⟨by simp [amF, hd, hr23], hP.fr⟩
set_option maxHeartbeats 2000000 in
set_option maxRecDepth 100000 in
theorem whyNotAmend_any (q : QM) (S : List P3) (G : List Nat) (F : List F5) (w : World) (HE : Hid (QE w q S G F)) :
  Calls Tryz.prog 114 #[q.v] w fun e w' => e = .returned (.int .u8 (whyAm q G : Nat)) ∧ Fr (fun _ => False) w w' := by
 have hP := QB.new w q
 simp only [QM.cs] at hP
 obtain ⟨c0, c1, c2, c3, c4, c5, c6, c7, c8, c9⟩ := hP.cells
 simp only [QM.v]
 go_enter Tryz.func114, Tryz.ntmps114
 rcases hd : rdF q G with _ | _
 ·go_wp2_with fail
  have hC := rd_B hP HE hd
  clear hP c0 c1 c2 c3 c4 c5 c6 c7 c8 c9
  refine hC.mono ?_
  clear hC
  rintro e wq ⟨rfl, hP⟩
  obtain ⟨c0, c1, c2, c3, c4, c5, c6, c7, c8, c9⟩ := hP.cells
  go_wp2_with fail
  have hC := whyRd_B hP HE
  clear hP c0 c1 c2 c3 c4 c5 c6 c7 c8 c9
  refine hC.mono ?_
  clear hC
  rintro e wq ⟨rfl, hP⟩
  obtain ⟨c0, c1, c2, c3, c4, c5, c6, c7, c8, c9⟩ := hP.cells
  go_wp2_with fail
  go_ret
  exact ⟨by simp [whyAm, hd], hP.fr⟩
 ·go_wp2_with fail
  have hC := rd_B hP HE hd
  clear hP c0 c1 c2 c3 c4 c5 c6 c7 c8 c9
  refine hC.mono ?_
  clear hC
  rintro e wq ⟨rfl, hP⟩
  obtain ⟨c0, c1, c2, c3, c4, c5, c6, c7, c8, c9⟩ := hP.cells
  go_wp2_with fail
  go_ret
  exact ⟨by simp [whyAm, hd], hP.fr⟩
set_option maxHeartbeats 2000000 in
set_option maxRecDepth 100000 in
theorem mayRedact_any (q : QM) (S : List P3) (G : List Nat) (F : List F5) (w : World) (_HE : Hid (QE w q S G F)) :
  Calls Tryz.prog 117 #[q.v] w fun e w' => e = .returned (.bool (reF q)) ∧ Fr (fun _ => False) w w' := by
 have hP := QB.new w q
 simp only [QM.cs] at hP
 obtain ⟨c0, c1, c2, c3, c4, c5, c6, c7, c8, c9⟩ := hP.cells
 simp only [QM.v]
 go_enter Tryz.func117, Tryz.ntmps117
 rcases ho : q.own with _ | _
 ·go_wp2_with fail
  have hC := own_B hP ho
  clear hP c0 c1 c2 c3 c4 c5 c6 c7 c8 c9
  refine hC.mono ?_
  clear hC
  rintro e wq ⟨rfl, hP⟩
  obtain ⟨c0, c1, c2, c3, c4, c5, c6, c7, c8, c9⟩ := hP.cells
  rcases hn : q.near with _ | _
  ·go_wp2_with fail
   have hC := near_B hP hn
   clear hP c0 c1 c2 c3 c4 c5 c6 c7 c8 c9
   refine hC.mono ?_
   clear hC
   rintro e wq ⟨rfl, hP⟩
   obtain ⟨c0, c1, c2, c3, c4, c5, c6, c7, c8, c9⟩ := hP.cells
   go_wp2_with fail
   go_ret
   exact ⟨by simp [reF, hn, ho], hP.fr⟩
  ·go_wp2_with fail
   have hC := near_B hP hn
   clear hP c0 c1 c2 c3 c4 c5 c6 c7 c8 c9
   refine hC.mono ?_
   clear hC
   rintro e wq ⟨rfl, hP⟩
   obtain ⟨c0, c1, c2, c3, c4, c5, c6, c7, c8, c9⟩ := hP.cells
   rcases hr3 : q.role [3] with _ | _
   ·go_wp2_with fail
    have hC := is1_B hP 3 hr3
    clear hP c0 c1 c2 c3 c4 c5 c6 c7 c8 c9
    refine hC.mono ?_
    clear hC
    rintro e wq ⟨rfl, hP⟩
    obtain ⟨c0, c1, c2, c3, c4, c5, c6, c7, c8, c9⟩ := hP.cells
    go_wp2_with fail
    go_ret
    exact ⟨by simp [reF, hn, ho, hr3], hP.fr⟩
   ·go_wp2_with fail
    have hC := is1_B hP 3 hr3
    clear hP c0 c1 c2 c3 c4 c5 c6 c7 c8 c9
    refine hC.mono ?_
    clear hC
    rintro e wq ⟨rfl, hP⟩
    obtain ⟨c0, c1, c2, c3, c4, c5, c6, c7, c8, c9⟩ := hP.cells
    go_wp2_with fail
    go_ret
    exact ⟨by simp [reF, hn, ho, hr3], hP.fr⟩
 ·go_wp2_with fail
  have hC := own_B hP ho
  clear hP c0 c1 c2 c3 c4 c5 c6 c7 c8 c9
  refine hC.mono ?_
  clear hC
  rintro e wq ⟨rfl, hP⟩
  obtain ⟨c0, c1, c2, c3, c4, c5, c6, c7, c8, c9⟩ := hP.cells
  go_wp2_with fail
  go_ret
  exact ⟨by simp [reF, ho], hP.fr⟩
set_option maxHeartbeats 2000000 in
set_option maxRecDepth 100000 in
theorem maySeal_any (q : QM) (S : List P3) (G : List Nat) (F : List F5) (w : World) (_HE : Hid (QE w q S G F)) :
  Calls Tryz.prog 120 #[q.v] w fun e w' => e = .returned (.bool (seF q)) ∧ Fr (fun _ => False) w w' := by
 have hP := QB.new w q
 simp only [QM.cs] at hP
 obtain ⟨c0, c1, c2, c3, c4, c5, c6, c7, c8, c9⟩ := hP.cells
 simp only [QM.v]
 go_enter Tryz.func120, Tryz.ntmps120
 rcases ho : q.own with _ | _
 ·go_wp2_with fail
  have hC := own_B hP ho
  clear hP c0 c1 c2 c3 c4 c5 c6 c7 c8 c9
  refine hC.mono ?_
  clear hC
  rintro e wq ⟨rfl, hP⟩
  obtain ⟨c0, c1, c2, c3, c4, c5, c6, c7, c8, c9⟩ := hP.cells
  go_wp2_with fail
  go_ret
  exact ⟨by simp [seF, ho], hP.fr⟩
 ·go_wp2_with fail
  have hC := own_B hP ho
  clear hP c0 c1 c2 c3 c4 c5 c6 c7 c8 c9
  refine hC.mono ?_
  clear hC
  rintro e wq ⟨rfl, hP⟩
  obtain ⟨c0, c1, c2, c3, c4, c5, c6, c7, c8, c9⟩ := hP.cells
  go_wp2_with fail
  go_ret
  exact ⟨by simp [seF, ho], hP.fr⟩
end Go.Proofs.YtiknjghcjaaenaaGreatDoor
