import Derived.Test.YthpoligdgbmnkaaGreatDoorPof
import GoSem.Core.Float
import Derived.Laws.NewFold
import GoSem.Builtin.Min
import GoSem.Builtin.Max
import Derived.Deep.RegionHeld3
import Derived.BigQuiet
import Derived.Shelf.Strconv.Clone
import Derived.Shelf.LaysM
import Derived.Laws.OwnMore
import Derived.Laws.MakeOwn
import Derived.Lib.AppendStr
import Derived.Deep.Cut
import Derived.Deep.CutRange
import Derived.Laws.IdiomCopy
namespace Go.Proofs.YthpoligdgbmnkaaGreatDoor
open Go.RowKit
set_option maxHeartbeats 2000000 in
set_option maxRecDepth 100000 in
theorem mayCreate_any (q : QM) (S : List P3) (G : List Nat) (F : List F5) (w : World) (HE : Hid (QE w q S G F)) :
  Calls Tryz.prog 111 #[q.v] w fun e w' => e = .returned (.bool (crF q S)) ∧ Fr (fun _ => False) w w' := by
 have hP := QB.new w q
 simp only [QM.cs] at hP
 obtain ⟨c0, c1, c2, c3, c4, c5, c6, c7, c8, c9⟩ := hP.cells
 simp only [QM.v]
 go_enter Tryz.func111, Tryz.ntmps111
 rcases hq : ownP S q.ow with _ | _
 ·go_wp2_with fail
  have hC := oip_B hP HE hq
  clear hP c0 c1 c2 c3 c4 c5 c6 c7 c8 c9
  refine hC.mono ?_
  clear hC
  rintro e wq ⟨rfl, hP⟩
  obtain ⟨c0, c1, c2, c3, c4, c5, c6, c7, c8, c9⟩ := hP.cells
  go_wp2_with fail
  go_ret
  exact ⟨by simp [crF, hq], hP.fr⟩
 ·go_wp2_with fail
  have hC := oip_B hP HE hq
  clear hP c0 c1 c2 c3 c4 c5 c6 c7 c8 c9
  refine hC.mono ?_
  clear hC
  rintro e wq ⟨rfl, hP⟩
  obtain ⟨c0, c1, c2, c3, c4, c5, c6, c7, c8, c9⟩ := hP.cells
  rcases hn : q.near with _ | _
  ·go_wp2_with fail
   have hC := near_B hP hn
   clear hP c0 c1 c2 c3 c4 c5 c6 c7 c8 c9
   refine hC.mono ?_
   clear hC
   rintro e wq ⟨rfl, hP⟩
   obtain ⟨c0, c1, c2, c3, c4, c5, c6, c7, c8, c9⟩ := hP.cells
   go_wp2_with fail
   go_ret
   exact ⟨by simp [crF, hn, hq], hP.fr⟩
  ·go_wp2_with fail
   have hC := near_B hP hn
   clear hP c0 c1 c2 c3 c4 c5 c6 c7 c8 c9
   refine hC.mono ?_
   clear hC
   rintro e wq ⟨rfl, hP⟩
   obtain ⟨c0, c1, c2, c3, c4, c5, c6, c7, c8, c9⟩ := hP.cells
   rcases hr123 : q.role [1, 2, 3] with _ | _
   ·go_wp2_with fail
    have hC := is3_B hP 1 2 3 hr123
    clear hP c0 c1 c2 c3 c4 c5 c6 c7 c8 c9
    refine hC.mono ?_
    clear hC
    rintro e wq ⟨rfl, hP⟩
    obtain ⟨c0, c1, c2, c3, c4, c5, c6, c7, c8, c9⟩ := hP.cells
    go_wp2_with fail
    go_ret
    exact ⟨by simp [crF, hn, hq, hr123], hP.fr⟩
   ·go_wp2_with fail
    have hC := is3_B hP 1 2 3 hr123
    clear hP c0 c1 c2 c3 c4 c5 c6 c7 c8 c9
    refine hC.mono ?_
    clear hC
    rintro e wq ⟨rfl, hP⟩
    obtain ⟨c0, c1, c2, c3, c4, c5, c6, c7, c8, c9⟩ := hP.cells
    go_wp2_with fail
    go_ret
    exact ⟨by simp [crF, hn, hq, hr123], hP.fr⟩
set_option maxHeartbeats 2000000 in
set_option maxRecDepth 100000 in
theorem whyNotCreate_any (q : QM) (S : List P3) (G : List Nat) (F : List F5) (w : World) (HE : Hid (QE w q S G F)) :
  Calls Tryz.prog 112 #[q.v] w fun e w' => e = .returned (.int .u8 (whyCr q S : Nat)) ∧ Fr (fun _ => False) w w' := by
 have hP := QB.new w q
 simp only [QM.cs] at hP
 obtain ⟨c0, c1, c2, c3, c4, c5, c6, c7, c8, c9⟩ := hP.cells
 simp only [QM.v]
 go_enter Tryz.func112, Tryz.ntmps112
 rcases hq : ownP S q.ow with _ | _
 ·go_wp2_with fail
  have hC := oip_B hP HE hq
  clear hP c0 c1 c2 c3 c4 c5 c6 c7 c8 c9
  refine hC.mono ?_
  clear hC
  rintro e wq ⟨rfl, hP⟩
  obtain ⟨c0, c1, c2, c3, c4, c5, c6, c7, c8, c9⟩ := hP.cells
  go_wp2_with fail
  go_ret
  exact ⟨by simp [whyCr, hq], hP.fr⟩
 ·go_wp2_with fail
  have hC := oip_B hP HE hq
  clear hP c0 c1 c2 c3 c4 c5 c6 c7 c8 c9
  refine hC.mono ?_
  clear hC
  rintro e wq ⟨rfl, hP⟩
  obtain ⟨c0, c1, c2, c3, c4, c5, c6, c7, c8, c9⟩ := hP.cells
  go_wp2_with fail
  go_ret
  exact ⟨by simp [whyCr, hq], hP.fr⟩
set_option maxHeartbeats 2000000 in
set_option maxRecDepth 100000 in
theorem mayHistory_any (q : QM) (S : List P3) (G : List Nat) (F : List F5) (w : World) (HE : Hid (QE w q S G F)) :
  Calls Tryz.prog 119 #[q.v] w fun e w' => e = .returned (.bool (hiF q G)) ∧ Fr (fun _ => False) w w' := by
 have hP := QB.new w q
 simp only [QM.cs] at hP
 obtain ⟨c0, c1, c2, c3, c4, c5, c6, c7, c8, c9⟩ := hP.cells
 simp only [QM.v]
 go_enter Tryz.func119, Tryz.ntmps119
 rcases hr4 : q.role [4] with _ | _
 ·go_wp2_with fail
  have hC := is1_B hP 4 hr4
  rw [show ∀ o, (w.alloc o).heap.size = w.heap.size + 1 from fun o => by simp] at hC
  clear hP c0 c1 c2 c3 c4 c5 c6 c7 c8 c9
  refine hC.mono ?_
  clear hC
  rintro e wq ⟨rfl, hP⟩
  obtain ⟨c0, c1, c2, c3, c4, c5, c6, c7, c8, c9⟩ := hP.cells
  rcases hd : rdF q G with _ | _
  ·go_wp2_with fail
   have hC := rd_B hP HE hd
   clear hP c0 c1 c2 c3 c4 c5 c6 c7 c8 c9
   refine hC.mono ?_
   clear hC
   rintro e wq ⟨rfl, hP⟩
   obtain ⟨c0, c1, c2, c3, c4, c5, c6, c7, c8, c9⟩ := hP.cells
   go_wp2_with fail
   go_ret
   exact ⟨by simp [hiF, hd, hr4], hP.fr⟩
  ·go_wp2_with fail
   have hC := rd_B hP HE hd
   clear hP c0 c1 c2 c3 c4 c5 c6 c7 c8 c9
   refine hC.mono ?_
   clear hC
   rintro e wq ⟨rfl, hP⟩
   obtain ⟨c0, c1, c2, c3, c4, c5, c6, c7, c8, c9⟩ := hP.cells
   go_wp2_with fail
   go_ret
   exact ⟨by simp [hiF, hd, hr4], hP.fr⟩
 ·go_wp2_with fail
  have hC := is1_B hP 4 hr4
  rw [show ∀ o, (w.alloc o).heap.size = w.heap.size + 1 from fun o => by simp] at hC
  clear hP c0 c1 c2 c3 c4 c5 c6 c7 c8 c9
  refine hC.mono ?_
  clear hC
  rintro e wq ⟨rfl, hP⟩
  obtain ⟨c0, c1, c2, c3, c4, c5, c6, c7, c8, c9⟩ := hP.cells
  go_wp2_with fail
  go_ret
  exact ⟨by simp [hiF, hr4], hP.fr⟩
set_option maxHeartbeats 2000000 in
set_option maxRecDepth 100000 in
theorem mayAmend_any (q : QM) (S : List P3) (G : List Nat) (F : List F5) (w : World) (HE : Hid (QE w q S G F)) :
  Calls Tryz.prog 113 #[q.v] w fun e w' => e = .returned (.bool (amF q G F)) ∧ Fr (fun _ => False) w w' := by
 have hP := QB.new w q
 simp only [QM.cs] at hP
 obtain ⟨c0, c1, c2, c3, c4, c5, c6, c7, c8, c9⟩ := hP.cells
 simp only [QM.v]
 go_enter Tryz.func113, Tryz.ntmps113
 rcases hd : rdF q G with _ | _
 ·go_wp2_with fail
  have hC := rd_B hP HE hd
  clear hP c0 c1 c2 c3 c4 c5 c6 c7 c8 c9
  refine hC.mono ?_
  clear hC
  rintro e wq ⟨rfl, hP⟩
  obtain ⟨c0, c1, c2, c3, c4, c5, c6, c7, c8, c9⟩ := hP.cells
  go_wp2_with fail
  go_ret
  exact ⟨by simp [amF, hd], hP.fr⟩
 ·go_wp2_with fail
  have hC := rd_B hP HE hd
  clear hP c0 c1 c2 c3 c4 c5 c6 c7 c8 c9
  refine hC.mono ?_
  clear hC
  rintro e wq ⟨rfl, hP⟩
  obtain ⟨c0, c1, c2, c3, c4, c5, c6, c7, c8, c9⟩ := hP.cells
  rcases hr23 : q.role [2, 3] with _ | _
  ·go_wp2_with fail
   have hC := is2_B hP 2 3 hr23
   clear hP c0 c1 c2 c3 c4 c5 c6 c7 c8 c9
   refine hC.mono ?_
   clear hC
   rintro e wq ⟨rfl, hP⟩
   obtain ⟨c0, c1, c2, c3, c4, c5, c6, c7, c8, c9⟩ := hP.cells
   rcases hr1 : q.role [1] with _ | _
   ·go_wp2_with fail
    have hC := is1_B hP 1 hr1
    clear hP c0 c1 c2 c3 c4 c5 c6 c7 c8 c9
    refine hC.mono ?_
    clear hC
    rintro e wq ⟨rfl, hP⟩
    obtain ⟨c0, c1, c2, c3, c4, c5, c6, c7, c8, c9⟩ := hP.cells
    go_wp2_with fail
    go_ret
    exact ⟨by simp [amF, hd, hr1, hr23], hP.fr⟩
   ·go_wp2_with fail
    have hC := is1_B hP 1 hr1
    clear hP c0 c1 c2 c3 c4 c5 c6 c7 c8 c9
    refine hC.mono ?_
    clear hC
    rintro e wq ⟨rfl, hP⟩
    obtain ⟨c0, c1, c2, c3, c4, c5, c6, c7, c8, c9⟩ := hP.cells
    rcases ht : txts F with _ | _
    ·go_wp2_with fail
     have hC := txt_B hP HE ht
     clear hP c0 c1 c2 c3 c4 c5 c6 c7 c8 c9
     refine hC.mono ?_
     clear hC
     rintro e wq ⟨rfl, hP⟩
     obtain ⟨c0, c1, c2, c3, c4, c5, c6, c7, c8, c9⟩ := hP.cells
     go_wp2_with fail
     go_ret
     exact ⟨by simp [amF, hd, hr1, hr23, ht], hP.fr⟩
    ·go_wp2_with fail
     have hC := txt_B hP HE ht
     clear hP c0 c1 c2 c3 c4 c5 c6 c7 c8 c9
     refine hC.mono ?_
     clear hC
     rintro e wq ⟨rfl, hP⟩
     obtain ⟨c0, c1, c2, c3, c4, c5, c6, c7, c8, c9⟩ := hP.cells
     go_wp2_with fail
     go_ret
     exact ⟨by simp [amF, hd, hr1, hr23, ht], hP.fr⟩
  ·go_wp2_with fail
   have hC := is2_B hP 2 3 hr23
   clear hP c0 c1 c2 c3 c4 c5 c6 c7 c8 c9
   refine hC.mono ?_
   clear hC
   rintro e wq ⟨rfl, hP⟩
   obtain ⟨c0, c1, c2, c3, c4, c5, c6, c7, c8, c9⟩ := hP.cells
   go_wp2_with fail
   go_ret
   exact ⟨by simp [amF, hd, hr23], hP.fr⟩
set_option maxHeartbeats 2000000 in
set_option maxRecDepth 100000 in
theorem whyNotAmend_any (q : QM) (S : List P3) (G : List Nat) (F : List F5) (w : World) (HE : Hid (QE w q S G F)) :
  Calls Tryz.prog 114 #[q.v] w fun e w' => e = .returned (.int .u8 (whyAm q G : Nat)) ∧ Fr (fun _ => False) w w' := by
 have hP := QB.new w q
 simp only [QM.cs] at hP
 obtain ⟨c0, c1, c2, c3, c4, c5, c6, c7, c8, c9⟩ := hP.cells
 simp only [QM.v]
 go_enter Tryz.func114, Tryz.ntmps114
 rcases hd : rdF q G with _ | _
 ·go_wp2_with fail
  have hC := rd_B hP HE hd
  clear hP c0 c1 c2 c3 c4 c5 c6 c7 c8 c9
  refine hC.mono ?_
  clear hC
  rintro e wq ⟨rfl, hP⟩
  obtain ⟨c0, c1, c2, c3, c4, c5, c6, c7, c8, c9⟩ := hP.cells
  go_wp2_with fail
  have hC := whyRd_B hP HE
  clear hP c0 c1 c2 c3 c4 c5 c6 c7 c8 c9
  refine hC.mono ?_
  clear hC
  rintro e wq ⟨rfl, hP⟩
  obtain ⟨c0, c1, c2, c3, c4, c5, c6, c7, c8, c9⟩ := hP.cells
  go_wp2_with fail
  go_ret
  exact ⟨by simp [whyAm, hd], hP.fr⟩
 ·go_wp2_with fail
  have hC := rd_B hP HE hd
  clear hP c0 c1 c2 c3 c4 c5 c6 c7 c8 c9
  refine hC.mono ?_
  clear hC
  rintro e wq ⟨rfl, hP⟩
  obtain ⟨c0, c1, c2, c3, c4, c5, c6, c7, c8, c9⟩ := hP.cells
  go_wp2_with fail
  go_ret
  exact ⟨by simp [whyAm, hd], hP.fr⟩
set_option maxHeartbeats 2000000 in
set_option maxRecDepth 100000 in
theorem mayRedact_any (q : QM) (S : List P3) (G : List Nat) (F : List F5) (w : World) (_HE : Hid (QE w q S G F)) :
  Calls Tryz.prog 117 #[q.v] w fun e w' => e = .returned (.bool (reF q)) ∧ Fr (fun _ => False) w w' := by
 have hP := QB.new w q
 simp only [QM.cs] at hP
 obtain ⟨c0, c1, c2, c3, c4, c5, c6, c7, c8, c9⟩ := hP.cells
 simp only [QM.v]
 go_enter Tryz.func117, Tryz.ntmps117
 rcases ho : q.own with _ | _
 ·go_wp2_with fail
  have hC := own_B hP ho
  clear hP c0 c1 c2 c3 c4 c5 c6 c7 c8 c9
  refine hC.mono ?_
  clear hC
  rintro e wq ⟨rfl, hP⟩
  obtain ⟨c0, c1, c2, c3, c4, c5, c6, c7, c8, c9⟩ := hP.cells
  rcases hn : q.near with _ | _
  ·go_wp2_with fail
   have hC := near_B hP hn
   clear hP c0 c1 c2 c3 c4 c5 c6 c7 c8 c9
   refine hC.mono ?_
   clear hC
   rintro e wq ⟨rfl, hP⟩
   obtain ⟨c0, c1, c2, c3, c4, c5, c6, c7, c8, c9⟩ := hP.cells
   go_wp2_with fail
   go_ret
   exact ⟨by simp [reF, hn, ho], hP.fr⟩
  ·go_wp2_with fail
   have hC := near_B hP hn
   clear hP c0 c1 c2 c3 c4 c5 c6 c7 c8 c9
   refine hC.mono ?_
   clear hC
   rintro e wq ⟨rfl, hP⟩
   obtain ⟨c0, c1, c2, c3, c4, c5, c6, c7, c8, c9⟩ := hP.cells
   rcases hr3 : q.role [3] with _ | _
   ·go_wp2_with fail
    have hC := is1_B hP 3 hr3
    clear hP c0 c1 c2 c3 c4 c5 c6 c7 c8 c9
    refine hC.mono ?_
    clear hC
    rintro e wq ⟨rfl, hP⟩
    obtain ⟨c0, c1, c2, c3, c4, c5, c6, c7, c8, c9⟩ := hP.cells
    go_wp2_with fail
    go_ret
    exact ⟨by simp [reF, hn, ho, hr3], hP.fr⟩
   ·go_wp2_with fail
    have hC := is1_B hP 3 hr3
    clear hP c0 c1 c2 c3 c4 c5 c6 c7 c8 c9
    refine hC.mono ?_
    clear hC
    rintro e wq ⟨rfl, hP⟩
    obtain ⟨c0, c1, c2, c3, c4, c5, c6, c7, c8, c9⟩ := hP.cells
    go_wp2_with fail
    go_ret
    exact ⟨by simp [reF, hn, ho, hr3], hP.fr⟩
 ·go_wp2_with fail
  have hC := own_B hP ho
  clear hP c0 c1 c2 c3 c4 c5 c6 c7 c8 c9
  refine hC.mono ?_
  clear hC
  rintro e wq ⟨rfl, hP⟩
  obtain ⟨c0, c1, c2, c3, c4, c5, c6, c7, c8, c9⟩ := hP.cells
  go_wp2_with fail
  go_ret
  exact ⟨by simp [reF, ho], hP.fr⟩
set_option maxHeartbeats 2000000 in
set_option maxRecDepth 100000 in
theorem maySeal_any (q : QM) (S : List P3) (G : List Nat) (F : List F5) (w : World) (_HE : Hid (QE w q S G F)) :
  Calls Tryz.prog 120 #[q.v] w fun e w' => e = .returned (.bool (seF q)) ∧ Fr (fun _ => False) w w' := by
 have hP := QB.new w q
 simp only [QM.cs] at hP
 obtain ⟨c0, c1, c2, c3, c4, c5, c6, c7, c8, c9⟩ := hP.cells
 simp only [QM.v]
 go_enter Tryz.func120, Tryz.ntmps120
 rcases ho : q.own with _ | _
 ·go_wp2_with fail
  have hC := own_B hP ho
  clear hP c0 c1 c2 c3 c4 c5 c6 c7 c8 c9
  refine hC.mono ?_
  clear hC
  rintro e wq ⟨rfl, hP⟩
  obtain ⟨c0, c1, c2, c3, c4, c5, c6, c7, c8, c9⟩ := hP.cells
  go_wp2_with fail
  go_ret
  exact ⟨by simp [seF, ho], hP.fr⟩
 ·go_wp2_with fail
  have hC := own_B hP ho
  clear hP c0 c1 c2 c3 c4 c5 c6 c7 c8 c9
  refine hC.mono ?_
  clear hC
  rintro e wq ⟨rfl, hP⟩
  obtain ⟨c0, c1, c2, c3, c4, c5, c6, c7, c8, c9⟩ := hP.cells
  go_wp2_with fail
  go_ret
  exact ⟨by simp [seF, ho], hP.fr⟩
set_option maxRecDepth 100000 in
theorem notAllowed_any (q : QM) (w : World) : Calls Tryz.prog 118 #[q.v] w fun e w' => e = .returned (.int .u8 5) ∧ Fr (fun _ => False) w w' := by
 simp only [QM.v]
 go_enter Tryz.func118, Tryz.ntmps118
 go_wp2_with fail
 go_ret
 exact ⟨rfl, (Fr.refl _ _).alloc _⟩
set_option maxHeartbeats 2000000 in
set_option maxRecDepth 100000 in
theorem mayBreak_any (q : QM) (w : World) :
  Calls Tryz.prog 121 #[q.v] w fun e w' => e = .returned (.bool (brF q)) ∧ Fr (fun _ => False) w w' := by
 have hP := QB.new w q
 simp only [QM.cs] at hP
 obtain ⟨c0, c1, c2, c3, c4, c5, c6, c7, c8, c9⟩ := hP.cells
 simp only [QM.v]
 go_enter Tryz.func121, Tryz.ntmps121
 rcases hr32 : q.role [3, 2] with _ | _
 ·go_wp2_with fail
  have hC := is2_B hP 3 2 hr32
  rw [show ∀ o, (w.alloc o).heap.size = w.heap.size + 1 from fun o => by simp] at hC
  clear hP c0 c1 c2 c3 c4 c5 c6 c7 c8 c9
  refine hC.mono ?_
  clear hC
  rintro e wq ⟨rfl, hP⟩
  obtain ⟨c0, c1, c2, c3, c4, c5, c6, c7, c8, c9⟩ := hP.cells
  go_wp2_with fail
  go_ret
  exact ⟨by simp [brF, hr32], hP.fr⟩
 ·go_wp2_with fail
  have hC := is2_B hP 3 2 hr32
  rw [show ∀ o, (w.alloc o).heap.size = w.heap.size + 1 from fun o => by simp] at hC
  clear hP c0 c1 c2 c3 c4 c5 c6 c7 c8 c9
  refine hC.mono ?_
  clear hC
  rintro e wq ⟨rfl, hP⟩
  obtain ⟨c0, c1, c2, c3, c4, c5, c6, c7, c8, c9⟩ := hP.cells
  go_wp2_with fail
  go_ret
  exact ⟨by simp [brF, hr32], hP.fr⟩
theorem results_cell_mid {P : Program} {fn : Func} {p : Tmp} {ty : TypeId} (h : fn.results = #[.cell p ty]) (tmps : Array Value) (w : World) (b o : Nat) (cs : List Value) (d : TypeDesc)
  (hp : tmps.getD p undef = .pointer (some ⟨b, o, none⟩)) (hc : w.rangeAt b o cs)
  (hu : P.underlying ty = some d) (hd : d.isRow = true) (hi : (P.info? ty).map (·.size) = some cs.length) :
  (results fn tmps).run P w = .ok (.agg cs.toArray) w := by
 have hp' : tmps[p]?.getD undef = .pointer (some ⟨b, o, none⟩) := by simpa using hp
 simp [results, h, hp', asAddr, run_loadVar_mid w b o ty cs d hc hu hd hi]
def rulesL : List Value := [.nilFunc, .nilFunc, .func (.func 111) #[] #[], .func (.func 112) #[] #[], .func (.func 113) #[] #[], .func (.func 114) #[] #[], .func (.func 115) #[] #[], .func (.func 116) #[] #[], .func (.func 117) #[] #[], .func (.func 118) #[] #[], .func (.func 119) #[] #[], .func (.func 116) #[] #[], .func (.func 120) #[] #[], .func (.func 118) #[] #[], .func (.func 121) #[] #[], .func (.func 118) #[] #[]]
def rulesV : Value := .agg rulesL.toArray
set_option maxHeartbeats 2000000 in
set_option maxRecDepth 100000 in
theorem rules_any (w : World) : Calls Tryz.prog 103 #[] w fun e w' => e = .returned rulesV ∧ Fr (fun _ => False) w w' := by
 go_enter Tryz.func103, Tryz.ntmps103
 go_wp2_with fail
 refine bodyPost_ret (results_cell_mid rfl _ _ w.heap.size 0 rulesL _ rfl ?_ Tryz.underlying152 rfl (by kernel_rfl)) rfl ?_
 ·intro j v hv
  rw [World.cell?_alloc_at _ _ _ _ rfl, Nat.zero_add]
  show rulesL.toArray[j]? = some v
  rw [List.getElem?_toArray]
  exact hv
 ·exact ⟨rfl, (Fr.refl _ _).alloc _⟩
theorem box10 {W : World} {b : Nat} {x0 x1 x2 x3 x4 x5 x6 x7 x8 x9 : Value} {t : TypeId} (hb : W.heap[b]? = some (.cells #[x0, x1, x2, x3, x4, x5, x6, x7, x8, x9] t)) :
  W.cell? ⟨b, 0, none⟩ = some x0 ∧ W.cell? ⟨b, 1, none⟩ = some x1 ∧ W.cell? ⟨b, 2, none⟩ = some x2 ∧ W.cell? ⟨b, 3, none⟩ = some x3 ∧ W.cell? ⟨b, 4, none⟩ = some x4 ∧ W.cell? ⟨b, 5, none⟩ = some x5 ∧ W.cell? ⟨b, 6, none⟩ = some x6 ∧ W.cell? ⟨b, 7, none⟩ = some x7 ∧ W.cell? ⟨b, 8, none⟩ = some x8 ∧ W.cell? ⟨b, 9, none⟩ = some x9 ∧ ∀ i, W.frozen? ⟨b, i, none⟩ = false := by
 refine ⟨?_, ?_, ?_, ?_, ?_, ?_, ?_, ?_, ?_, ?_, fun i => ?_⟩
 iterate 10 (simp only [World.cell?, hb]; rfl)
 simp [World.frozen?, hb]
theorem box_set {w2 : World} {b : Nat} {x0 x1 x2 x3 x4 x5 x6 x7 x8 x9 : Value} (y1 y2 y3 : Value) (o : Obj) (hsz : b < w2.heap.size) (c0 : w2.cell? ⟨b, 0, none⟩ = some x0) (c1 : w2.cell? ⟨b, 1, none⟩ = some x1) (c2 : w2.cell? ⟨b, 2, none⟩ = some x2) (c3 : w2.cell? ⟨b, 3, none⟩ = some x3) (c4 : w2.cell? ⟨b, 4, none⟩ = some x4) (c5 : w2.cell? ⟨b, 5, none⟩ = some x5) (c6 : w2.cell? ⟨b, 6, none⟩ = some x6) (c7 : w2.cell? ⟨b, 7, none⟩ = some x7) (c8 : w2.cell? ⟨b, 8, none⟩ = some x8) (c9 : w2.cell? ⟨b, 9, none⟩ = some x9) :
  let W := (((w2.setCell ⟨b, 1, none⟩ y1).setCell ⟨b, 2, none⟩ y2).setCell ⟨b, 3, none⟩ y3).alloc o
  W.cell? ⟨b, 0, none⟩ = some x0 ∧ W.cell? ⟨b, 1, none⟩ = some y1 ∧ W.cell? ⟨b, 2, none⟩ = some y2 ∧ W.cell? ⟨b, 3, none⟩ = some y3 ∧ W.cell? ⟨b, 4, none⟩ = some x4 ∧ W.cell? ⟨b, 5, none⟩ = some x5 ∧ W.cell? ⟨b, 6, none⟩ = some x6 ∧ W.cell? ⟨b, 7, none⟩ = some x7 ∧ W.cell? ⟨b, 8, none⟩ = some x8 ∧ W.cell? ⟨b, 9, none⟩ = some x9 := by
 refine ⟨?_, ?_, ?_, ?_, ?_, ?_, ?_, ?_, ?_, ?_⟩
 all_goals go_simp
set_option maxHeartbeats 2000000 in
set_option maxRecDepth 100000 in
theorem answer_1 (q : QM) (k : Nat) (S : List P3) (w : World) (p : P3) (hp : perso S k = some p) (hS : Stf w q.sv S) (hl : S.length ≤ 140737488355328) (m : Bool) (y : Nat)
  (hm : ∀ W, Fr (fun _ => False) w W → Calls Tryz.prog 111 #[({ q with p := p } : QM).v] W fun e w' => e = .returned (.bool m) ∧ Fr (fun _ => False) W w')
  (hy : ∀ W, Fr (fun _ => False) w W → Calls Tryz.prog 112 #[({ q with p := p } : QM).v] W fun e w' => e = .returned (.int .u8 (y : Nat)) ∧ Fr (fun _ => False) W w') :
  Calls Tryz.prog 92 #[.int .i64 1, .int .u32 (k : Nat), q.v] w fun e w' => e = .returned (.int .u8 ((if m then 0 else y : Nat) : Nat)) ∧ Fr (fun _ => False) w w' := by
 have HF := hide (fun o => find_any q.sv S k _ (hS.fr (((Fr.refl (fun _ => False) w).alloc o))) hl)
 have HM := hide hm
 have HY := hide hy
 obtain ⟨xo, xc, hxe⟩ := hS.form
 rw [hp] at HF
 simp only [Option.getD_some, Option.isSome_some, pv, hxe] at HF
 clear hm hy hS hp
 simp only [QM.v, hxe] at HM HY ⊢
 go_enter Tryz.func92, Tryz.ntmps92
 go_wp2_with fail
 refine (unhide HF _).mono ?_
 clear HF
 rintro e w2 ⟨rfl, hf2⟩
 have hsz : w.heap.size < w2.heap.size := Nat.lt_of_lt_of_le (by simp) hf2.size
 have hbx := (hf2.block w.heap.size (by simp) (fun h => h)).trans Array.getElem?_push_size
 have HFr := hide ((((Fr.refl (fun _ => False) w).alloc _).trans hf2 (fun _ _ h => h)))
 obtain ⟨c0, c1, c2, c3, c4, c5, c6, c7, c8, c9, fz⟩ := box10 hbx
 have z1 := fz 1
 have z2 := fz 2
 have z3 := fz 3
 clear fz hf2 hbx
 go_wp2_with fail
 obtain ⟨W3, hW3⟩ : ∃ W3, (((w2.setCell ⟨w.heap.size, 1, none⟩ (.int .u32 (p.a : Nat))).setCell ⟨w.heap.size, 2, none⟩ (.int .u32 (p.r : Nat))).setCell ⟨w.heap.size, 3, none⟩ (.int .u32 (p.w : Nat))).alloc (.cells #[.int .u32 (p.a : Nat), .int .u32 (p.r : Nat), .int .u32 (p.w : Nat)] 33) = W3 := ⟨_, rfl⟩
 have hD := box_set (.int .u32 (p.a : Nat)) (.int .u32 (p.r : Nat)) (.int .u32 (p.w : Nat)) (.cells #[.int .u32 (p.a : Nat), .int .u32 (p.r : Nat), .int .u32 (p.w : Nat)] 33) hsz c0 c1 c2 c3 c4 c5 c6 c7 c8 c9
 simp only [hW3] at hD
 obtain ⟨d0, d1, d2, d3, d4, d5, d6, d7, d8, d9⟩ := hD
 have hF3 : Fr (fun _ => False) w W3 := by
  rw [← hW3]
  exact ((((unhide HFr).setCell (.inr (Nat.le_refl _)) _).setCell (.inr (Nat.le_refl _)) _).setCell (.inr (Nat.le_refl _)) _).alloc _
 rw [hW3]
 clear hW3 c0 c1 c2 c3 c4 c5 c6 c7 c8 c9 z1 z2 z3 HFr hsz
 have hR := rules_any W3
 simp only [rulesV, rulesL] at hR
 refine hR.mono ?_
 clear hR
 rintro e w4 ⟨rfl, hf4⟩
 have hl3 : w.heap.size < W3.heap.size := lt_of_cell d0
 replace d0 := (hf4.cell (p := ⟨w.heap.size, 0, none⟩) hl3 (fun h => h)).trans d0
 replace d1 := (hf4.cell (p := ⟨w.heap.size, 1, none⟩) hl3 (fun h => h)).trans d1
 replace d2 := (hf4.cell (p := ⟨w.heap.size, 2, none⟩) hl3 (fun h => h)).trans d2
 replace d3 := (hf4.cell (p := ⟨w.heap.size, 3, none⟩) hl3 (fun h => h)).trans d3
 replace d4 := (hf4.cell (p := ⟨w.heap.size, 4, none⟩) hl3 (fun h => h)).trans d4
 replace d5 := (hf4.cell (p := ⟨w.heap.size, 5, none⟩) hl3 (fun h => h)).trans d5
 replace d6 := (hf4.cell (p := ⟨w.heap.size, 6, none⟩) hl3 (fun h => h)).trans d6
 replace d7 := (hf4.cell (p := ⟨w.heap.size, 7, none⟩) hl3 (fun h => h)).trans d7
 replace d8 := (hf4.cell (p := ⟨w.heap.size, 8, none⟩) hl3 (fun h => h)).trans d8
 replace d9 := (hf4.cell (p := ⟨w.heap.size, 9, none⟩) hl3 (fun h => h)).trans d9
 have HF4 := hide (hF3.trans hf4 (fun _ _ h => h))
 have hl4 : w.heap.size < w4.heap.size := lt_of_cell d0
 clear hF3 hf4 hl3
 have hix : ∀ W, (Instr.index 152 rulesV (.int .i64 1)).run Tryz.prog W = .ok (.agg #[.func (.func 111) #[] #[], .func (.func 112) #[] #[]]) W := fun W => by kernel_rfl
 simp only [rulesV, rulesL] at hix
 go_wp2_with fail
 refine ((unhide HM) _ ((unhide HF4).alloc _)).mono ?_
 clear HM hix
 rintro e w5 ⟨rfl, hf5⟩
 have HF5 := hide (((unhide HF4).alloc _).trans hf5 (fun _ _ h => h))
 rcases m with _ | _
 ·have hrow := (hf5.block w4.heap.size (by simp) (fun h => h)).trans Array.getElem?_push_size
  have r1 : w5.cell? ⟨w4.heap.size, 1, none⟩ = some (.func (.func 112) #[] #[]) := by simp only [World.cell?, hrow]; rfl
  have f5 : Fr (fun _ => False) w4 w5 := ((Fr.refl _ _).alloc _).trans hf5 (fun _ _ h => h)
  replace d0 := (f5.cell (p := ⟨w.heap.size, 0, none⟩) hl4 (fun h => h)).trans d0
  replace d1 := (f5.cell (p := ⟨w.heap.size, 1, none⟩) hl4 (fun h => h)).trans d1
  replace d2 := (f5.cell (p := ⟨w.heap.size, 2, none⟩) hl4 (fun h => h)).trans d2
  replace d3 := (f5.cell (p := ⟨w.heap.size, 3, none⟩) hl4 (fun h => h)).trans d3
  replace d4 := (f5.cell (p := ⟨w.heap.size, 4, none⟩) hl4 (fun h => h)).trans d4
  replace d5 := (f5.cell (p := ⟨w.heap.size, 5, none⟩) hl4 (fun h => h)).trans d5
  replace d6 := (f5.cell (p := ⟨w.heap.size, 6, none⟩) hl4 (fun h => h)).trans d6
  replace d7 := (f5.cell (p := ⟨w.heap.size, 7, none⟩) hl4 (fun h => h)).trans d7
  replace d8 := (f5.cell (p := ⟨w.heap.size, 8, none⟩) hl4 (fun h => h)).trans d8
  replace d9 := (f5.cell (p := ⟨w.heap.size, 9, none⟩) hl4 (fun h => h)).trans d9
  have hl5 : w.heap.size < w5.heap.size := lt_of_cell d0
  clear hf5 hrow f5
  go_wp2_with fail
  refine ((unhide HY) _ (unhide HF5)).mono ?_
  clear HY
  rintro e w6 ⟨rfl, hf6⟩
  go_wp2_with fail
  go_ret
  exact ⟨rfl, (unhide HF5).trans hf6 (fun _ _ h => h)⟩
 ·go_wp2_with fail
  go_ret
  exact ⟨rfl, unhide HF5⟩
set_option maxHeartbeats 2000000 in
set_option maxRecDepth 100000 in
theorem answer_2 (q : QM) (k : Nat) (S : List P3) (w : World) (p : P3) (hp : perso S k = some p) (hS : Stf w q.sv S) (hl : S.length ≤ 140737488355328) (m : Bool) (y : Nat)
  (hm : ∀ W, Fr (fun _ => False) w W → Calls Tryz.prog 113 #[({ q with p := p } : QM).v] W fun e w' => e = .returned (.bool m) ∧ Fr (fun _ => False) W w')
  (hy : ∀ W, Fr (fun _ => False) w W → Calls Tryz.prog 114 #[({ q with p := p } : QM).v] W fun e w' => e = .returned (.int .u8 (y : Nat)) ∧ Fr (fun _ => False) W w') :
  Calls Tryz.prog 92 #[.int .i64 2, .int .u32 (k : Nat), q.v] w fun e w' => e = .returned (.int .u8 ((if m then 0 else y : Nat) : Nat)) ∧ Fr (fun _ => False) w w' := by
 have HF := hide (fun o => find_any q.sv S k _ (hS.fr (((Fr.refl (fun _ => False) w).alloc o))) hl)
 have HM := hide hm
 have HY := hide hy
 obtain ⟨xo, xc, hxe⟩ := hS.form
 rw [hp] at HF
 simp only [Option.getD_some, Option.isSome_some, pv, hxe] at HF
 clear hm hy hS hp
 simp only [QM.v, hxe] at HM HY ⊢
 go_enter Tryz.func92, Tryz.ntmps92
 go_wp2_with fail
 refine (unhide HF _).mono ?_
 clear HF
 rintro e w2 ⟨rfl, hf2⟩
 have hsz : w.heap.size < w2.heap.size := Nat.lt_of_lt_of_le (by simp) hf2.size
 have hbx := (hf2.block w.heap.size (by simp) (fun h => h)).trans Array.getElem?_push_size
 have HFr := hide ((((Fr.refl (fun _ => False) w).alloc _).trans hf2 (fun _ _ h => h)))
 obtain ⟨c0, c1, c2, c3, c4, c5, c6, c7, c8, c9, fz⟩ := box10 hbx
 have z1 := fz 1
 have z2 := fz 2
 have z3 := fz 3
 clear fz hf2 hbx
 go_wp2_with fail
 obtain ⟨W3, hW3⟩ : ∃ W3, (((w2.setCell ⟨w.heap.size, 1, none⟩ (.int .u32 (p.a : Nat))).setCell ⟨w.heap.size, 2, none⟩ (.int .u32 (p.r : Nat))).setCell ⟨w.heap.size, 3, none⟩ (.int .u32 (p.w : Nat))).alloc (.cells #[.int .u32 (p.a : Nat), .int .u32 (p.r : Nat), .int .u32 (p.w : Nat)] 33) = W3 := ⟨_, rfl⟩
 have hD := box_set (.int .u32 (p.a : Nat)) (.int .u32 (p.r : Nat)) (.int .u32 (p.w : Nat)) (.cells #[.int .u32 (p.a : Nat), .int .u32 (p.r : Nat), .int .u32 (p.w : Nat)] 33) hsz c0 c1 c2 c3 c4 c5 c6 c7 c8 c9
 simp only [hW3] at hD
 obtain ⟨d0, d1, d2, d3, d4, d5, d6, d7, d8, d9⟩ := hD
 have hF3 : Fr (fun _ => False) w W3 := by
  rw [← hW3]
  exact ((((unhide HFr).setCell (.inr (Nat.le_refl _)) _).setCell (.inr (Nat.le_refl _)) _).setCell (.inr (Nat.le_refl _)) _).alloc _
 rw [hW3]
 clear hW3 c0 c1 c2 c3 c4 c5 c6 c7 c8 c9 z1 z2 z3 HFr hsz
 have hR := rules_any W3
 simp only [rulesV, rulesL] at hR
 refine hR.mono ?_
 clear hR
 rintro e w4 ⟨rfl, hf4⟩
 have hl3 : w.heap.size < W3.heap.size := lt_of_cell d0
 replace d0 := (hf4.cell (p := ⟨w.heap.size, 0, none⟩) hl3 (fun h => h)).trans d0
 replace d1 := (hf4.cell (p := ⟨w.heap.size, 1, none⟩) hl3 (fun h => h)).trans d1
 replace d2 := (hf4.cell (p := ⟨w.heap.size, 2, none⟩) hl3 (fun h => h)).trans d2
 replace d3 := (hf4.cell (p := ⟨w.heap.size, 3, none⟩) hl3 (fun h => h)).trans d3
 replace d4 := (hf4.cell (p := ⟨w.heap.size, 4, none⟩) hl3 (fun h => h)).trans d4
 replace d5 := (hf4.cell (p := ⟨w.heap.size, 5, none⟩) hl3 (fun h => h)).trans d5
 replace d6 := (hf4.cell (p := ⟨w.heap.size, 6, none⟩) hl3 (fun h => h)).trans d6
 replace d7 := (hf4.cell (p := ⟨w.heap.size, 7, none⟩) hl3 (fun h => h)).trans d7
 replace d8 := (hf4.cell (p := ⟨w.heap.size, 8, none⟩) hl3 (fun h => h)).trans d8
 replace d9 := (hf4.cell (p := ⟨w.heap.size, 9, none⟩) hl3 (fun h => h)).trans d9
 have HF4 := hide (hF3.trans hf4 (fun _ _ h => h))
 have hl4 : w.heap.size < w4.heap.size := lt_of_cell d0
 clear hF3 hf4 hl3
 have hix : ∀ W, (Instr.index 152 rulesV (.int .i64 2)).run Tryz.prog W = .ok (.agg #[.func (.func 113) #[] #[], .func (.func 114) #[] #[]]) W := fun W => by kernel_rfl
 simp only [rulesV, rulesL] at hix
 go_wp2_with fail
 refine ((unhide HM) _ ((unhide HF4).alloc _)).mono ?_
 clear HM hix
 rintro e w5 ⟨rfl, hf5⟩
 have HF5 := hide (((unhide HF4).alloc _).trans hf5 (fun _ _ h => h))
 rcases m with _ | _
 ·have hrow := (hf5.block w4.heap.size (by simp) (fun h => h)).trans Array.getElem?_push_size
  have r1 : w5.cell? ⟨w4.heap.size, 1, none⟩ = some (.func (.func 114) #[] #[]) := by simp only [World.cell?, hrow]; rfl
  have f5 : Fr (fun _ => False) w4 w5 := ((Fr.refl _ _).alloc _).trans hf5 (fun _ _ h => h)
  replace d0 := (f5.cell (p := ⟨w.heap.size, 0, none⟩) hl4 (fun h => h)).trans d0
  replace d1 := (f5.cell (p := ⟨w.heap.size, 1, none⟩) hl4 (fun h => h)).trans d1
  replace d2 := (f5.cell (p := ⟨w.heap.size, 2, none⟩) hl4 (fun h => h)).trans d2
  replace d3 := (f5.cell (p := ⟨w.heap.size, 3, none⟩) hl4 (fun h => h)).trans d3
  replace d4 := (f5.cell (p := ⟨w.heap.size, 4, none⟩) hl4 (fun h => h)).trans d4
  replace d5 := (f5.cell (p := ⟨w.heap.size, 5, none⟩) hl4 (fun h => h)).trans d5
  replace d6 := (f5.cell (p := ⟨w.heap.size, 6, none⟩) hl4 (fun h => h)).trans d6
  replace d7 := (f5.cell (p := ⟨w.heap.size, 7, none⟩) hl4 (fun h => h)).trans d7
  replace d8 := (f5.cell (p := ⟨w.heap.size, 8, none⟩) hl4 (fun h => h)).trans d8
  replace d9 := (f5.cell (p := ⟨w.heap.size, 9, none⟩) hl4 (fun h => h)).trans d9
  have hl5 : w.heap.size < w5.heap.size := lt_of_cell d0
  clear hf5 hrow f5
  go_wp2_with fail
  refine ((unhide HY) _ (unhide HF5)).mono ?_
  clear HY
  rintro e w6 ⟨rfl, hf6⟩
  go_wp2_with fail
  go_ret
  exact ⟨rfl, (unhide HF5).trans hf6 (fun _ _ h => h)⟩
 ·go_wp2_with fail
  go_ret
  exact ⟨rfl, unhide HF5⟩
set_option maxHeartbeats 2000000 in
set_option maxRecDepth 100000 in
theorem answer_3 (q : QM) (k : Nat) (S : List P3) (w : World) (p : P3) (hp : perso S k = some p) (hS : Stf w q.sv S) (hl : S.length ≤ 140737488355328) (m : Bool) (y : Nat)
  (hm : ∀ W, Fr (fun _ => False) w W → Calls Tryz.prog 115 #[({ q with p := p } : QM).v] W fun e w' => e = .returned (.bool m) ∧ Fr (fun _ => False) W w')
  (hy : ∀ W, Fr (fun _ => False) w W → Calls Tryz.prog 116 #[({ q with p := p } : QM).v] W fun e w' => e = .returned (.int .u8 (y : Nat)) ∧ Fr (fun _ => False) W w') :
  Calls Tryz.prog 92 #[.int .i64 3, .int .u32 (k : Nat), q.v] w fun e w' => e = .returned (.int .u8 ((if m then 0 else y : Nat) : Nat)) ∧ Fr (fun _ => False) w w' := by
 have HF := hide (fun o => find_any q.sv S k _ (hS.fr (((Fr.refl (fun _ => False) w).alloc o))) hl)
 have HM := hide hm
 have HY := hide hy
 obtain ⟨xo, xc, hxe⟩ := hS.form
 rw [hp] at HF
 simp only [Option.getD_some, Option.isSome_some, pv, hxe] at HF
 clear hm hy hS hp
 simp only [QM.v, hxe] at HM HY ⊢
 go_enter Tryz.func92, Tryz.ntmps92
 go_wp2_with fail
 refine (unhide HF _).mono ?_
 clear HF
 rintro e w2 ⟨rfl, hf2⟩
 have hsz : w.heap.size < w2.heap.size := Nat.lt_of_lt_of_le (by simp) hf2.size
 have hbx := (hf2.block w.heap.size (by simp) (fun h => h)).trans Array.getElem?_push_size
 have HFr := hide ((((Fr.refl (fun _ => False) w).alloc _).trans hf2 (fun _ _ h => h)))
 obtain ⟨c0, c1, c2, c3, c4, c5, c6, c7, c8, c9, fz⟩ := box10 hbx
 have z1 := fz 1
 have z2 := fz 2
 have z3 := fz 3
 clear fz hf2 hbx
 go_wp2_with fail
 obtain ⟨W3, hW3⟩ : ∃ W3, (((w2.setCell ⟨w.heap.size, 1, none⟩ (.int .u32 (p.a : Nat))).setCell ⟨w.heap.size, 2, none⟩ (.int .u32 (p.r : Nat))).setCell ⟨w.heap.size, 3, none⟩ (.int .u32 (p.w : Nat))).alloc (.cells #[.int .u32 (p.a : Nat), .int .u32 (p.r : Nat), .int .u32 (p.w : Nat)] 33) = W3 := ⟨_, rfl⟩
 have hD := box_set (.int .u32 (p.a : Nat)) (.int .u32 (p.r : Nat)) (.int .u32 (p.w : Nat)) (.cells #[.int .u32 (p.a : Nat), .int .u32 (p.r : Nat), .int .u32 (p.w : Nat)] 33) hsz c0 c1 c2 c3 c4 c5 c6 c7 c8 c9
 simp only [hW3] at hD
 obtain ⟨d0, d1, d2, d3, d4, d5, d6, d7, d8, d9⟩ := hD
 have hF3 : Fr (fun _ => False) w W3 := by
  rw [← hW3]
  exact ((((unhide HFr).setCell (.inr (Nat.le_refl _)) _).setCell (.inr (Nat.le_refl _)) _).setCell (.inr (Nat.le_refl _)) _).alloc _
 rw [hW3]
 clear hW3 c0 c1 c2 c3 c4 c5 c6 c7 c8 c9 z1 z2 z3 HFr hsz
 have hR := rules_any W3
 simp only [rulesV, rulesL] at hR
 refine hR.mono ?_
 clear hR
 rintro e w4 ⟨rfl, hf4⟩
 have hl3 : w.heap.size < W3.heap.size := lt_of_cell d0
 replace d0 := (hf4.cell (p := ⟨w.heap.size, 0, none⟩) hl3 (fun h => h)).trans d0
 replace d1 := (hf4.cell (p := ⟨w.heap.size, 1, none⟩) hl3 (fun h => h)).trans d1
 replace d2 := (hf4.cell (p := ⟨w.heap.size, 2, none⟩) hl3 (fun h => h)).trans d2
 replace d3 := (hf4.cell (p := ⟨w.heap.size, 3, none⟩) hl3 (fun h => h)).trans d3
 replace d4 := (hf4.cell (p := ⟨w.heap.size, 4, none⟩) hl3 (fun h => h)).trans d4
 replace d5 := (hf4.cell (p := ⟨w.heap.size, 5, none⟩) hl3 (fun h => h)).trans d5
 replace d6 := (hf4.cell (p := ⟨w.heap.size, 6, none⟩) hl3 (fun h => h)).trans d6
 replace d7 := (hf4.cell (p := ⟨w.heap.size, 7, none⟩) hl3 (fun h => h)).trans d7
 replace d8 := (hf4.cell (p := ⟨w.heap.size, 8, none⟩) hl3 (fun h => h)).trans d8
 replace d9 := (hf4.cell (p := ⟨w.heap.size, 9, none⟩) hl3 (fun h => h)).trans d9
 have HF4 := hide (hF3.trans hf4 (fun _ _ h => h))
 have hl4 : w.heap.size < w4.heap.size := lt_of_cell d0
 clear hF3 hf4 hl3
 have hix : ∀ W, (Instr.index 152 rulesV (.int .i64 3)).run Tryz.prog W = .ok (.agg #[.func (.func 115) #[] #[], .func (.func 116) #[] #[]]) W := fun W => by kernel_rfl
 simp only [rulesV, rulesL] at hix
 go_wp2_with fail
 refine ((unhide HM) _ ((unhide HF4).alloc _)).mono ?_
 clear HM hix
 rintro e w5 ⟨rfl, hf5⟩
 have HF5 := hide (((unhide HF4).alloc _).trans hf5 (fun _ _ h => h))
 rcases m with _ | _
 ·have hrow := (hf5.block w4.heap.size (by simp) (fun h => h)).trans Array.getElem?_push_size
  have r1 : w5.cell? ⟨w4.heap.size, 1, none⟩ = some (.func (.func 116) #[] #[]) := by simp only [World.cell?, hrow]; rfl
  have f5 : Fr (fun _ => False) w4 w5 := ((Fr.refl _ _).alloc _).trans hf5 (fun _ _ h => h)
  replace d0 := (f5.cell (p := ⟨w.heap.size, 0, none⟩) hl4 (fun h => h)).trans d0
  replace d1 := (f5.cell (p := ⟨w.heap.size, 1, none⟩) hl4 (fun h => h)).trans d1
  replace d2 := (f5.cell (p := ⟨w.heap.size, 2, none⟩) hl4 (fun h => h)).trans d2
  replace d3 := (f5.cell (p := ⟨w.heap.size, 3, none⟩) hl4 (fun h => h)).trans d3
  replace d4 := (f5.cell (p := ⟨w.heap.size, 4, none⟩) hl4 (fun h => h)).trans d4
  replace d5 := (f5.cell (p := ⟨w.heap.size, 5, none⟩) hl4 (fun h => h)).trans d5
  replace d6 := (f5.cell (p := ⟨w.heap.size, 6, none⟩) hl4 (fun h => h)).trans d6
  replace d7 := (f5.cell (p := ⟨w.heap.size, 7, none⟩) hl4 (fun h => h)).trans d7
  replace d8 := (f5.cell (p := ⟨w.heap.size, 8, none⟩) hl4 (fun h => h)).trans d8
  replace d9 := (f5.cell (p := ⟨w.heap.size, 9, none⟩) hl4 (fun h => h)).trans d9
  have hl5 : w.heap.size < w5.heap.size := lt_of_cell d0
  clear hf5 hrow f5
  go_wp2_with fail
  refine ((unhide HY) _ (unhide HF5)).mono ?_
  clear HY
  rintro e w6 ⟨rfl, hf6⟩
  go_wp2_with fail
  go_ret
  exact ⟨rfl, (unhide HF5).trans hf6 (fun _ _ h => h)⟩
 ·go_wp2_with fail
  go_ret
  exact ⟨rfl, unhide HF5⟩
set_option maxHeartbeats 2000000 in
set_option maxRecDepth 100000 in
theorem answer_4 (q : QM) (k : Nat) (S : List P3) (w : World) (p : P3) (hp : perso S k = some p) (hS : Stf w q.sv S) (hl : S.length ≤ 140737488355328) (m : Bool) (y : Nat)
  (hm : ∀ W, Fr (fun _ => False) w W → Calls Tryz.prog 117 #[({ q with p := p } : QM).v] W fun e w' => e = .returned (.bool m) ∧ Fr (fun _ => False) W w')
  (hy : ∀ W, Fr (fun _ => False) w W → Calls Tryz.prog 118 #[({ q with p := p } : QM).v] W fun e w' => e = .returned (.int .u8 (y : Nat)) ∧ Fr (fun _ => False) W w') :
  Calls Tryz.prog 92 #[.int .i64 4, .int .u32 (k : Nat), q.v] w fun e w' => e = .returned (.int .u8 ((if m then 0 else y : Nat) : Nat)) ∧ Fr (fun _ => False) w w' := by
 have HF := hide (fun o => find_any q.sv S k _ (hS.fr (((Fr.refl (fun _ => False) w).alloc o))) hl)
 have HM := hide hm
 have HY := hide hy
 obtain ⟨xo, xc, hxe⟩ := hS.form
 rw [hp] at HF
 simp only [Option.getD_some, Option.isSome_some, pv, hxe] at HF
 clear hm hy hS hp
 simp only [QM.v, hxe] at HM HY ⊢
 go_enter Tryz.func92, Tryz.ntmps92
 go_wp2_with fail
 refine (unhide HF _).mono ?_
 clear HF
 rintro e w2 ⟨rfl, hf2⟩
 have hsz : w.heap.size < w2.heap.size := Nat.lt_of_lt_of_le (by simp) hf2.size
 have hbx := (hf2.block w.heap.size (by simp) (fun h => h)).trans Array.getElem?_push_size
 have HFr := hide ((((Fr.refl (fun _ => False) w).alloc _).trans hf2 (fun _ _ h => h)))
 obtain ⟨c0, c1, c2, c3, c4, c5, c6, c7, c8, c9, fz⟩ := box10 hbx
 have z1 := fz 1
 have z2 := fz 2
 have z3 := fz 3
 clear fz hf2 hbx
 go_wp2_with fail
 obtain ⟨W3, hW3⟩ : ∃ W3, (((w2.setCell ⟨w.heap.size, 1, none⟩ (.int .u32 (p.a : Nat))).setCell ⟨w.heap.size, 2, none⟩ (.int .u32 (p.r : Nat))).setCell ⟨w.heap.size, 3, none⟩ (.int .u32 (p.w : Nat))).alloc (.cells #[.int .u32 (p.a : Nat), .int .u32 (p.r : Nat), .int .u32 (p.w : Nat)] 33) = W3 := ⟨_, rfl⟩
 have hD := box_set (.int .u32 (p.a : Nat)) (.int .u32 (p.r : Nat)) (.int .u32 (p.w : Nat)) (.cells #[.int .u32 (p.a : Nat), .int .u32 (p.r : Nat), .int .u32 (p.w : Nat)] 33) hsz c0 c1 c2 c3 c4 c5 c6 c7 c8 c9
 simp only [hW3] at hD
 obtain ⟨d0, d1, d2, d3, d4, d5, d6, d7, d8, d9⟩ := hD
 have hF3 : Fr (fun _ => False) w W3 := by
  rw [← hW3]
  exact ((((unhide HFr).setCell (.inr (Nat.le_refl _)) _).setCell (.inr (Nat.le_refl _)) _).setCell (.inr (Nat.le_refl _)) _).alloc _
 rw [hW3]
 clear hW3 c0 c1 c2 c3 c4 c5 c6 c7 c8 c9 z1 z2 z3 HFr hsz
 have hR := rules_any W3
 simp only [rulesV, rulesL] at hR
 refine hR.mono ?_
 clear hR
 rintro e w4 ⟨rfl, hf4⟩
 have hl3 : w.heap.size < W3.heap.size := lt_of_cell d0
 replace d0 := (hf4.cell (p := ⟨w.heap.size, 0, none⟩) hl3 (fun h => h)).trans d0
 replace d1 := (hf4.cell (p := ⟨w.heap.size, 1, none⟩) hl3 (fun h => h)).trans d1
 replace d2 := (hf4.cell (p := ⟨w.heap.size, 2, none⟩) hl3 (fun h => h)).trans d2
 replace d3 := (hf4.cell (p := ⟨w.heap.size, 3, none⟩) hl3 (fun h => h)).trans d3
 replace d4 := (hf4.cell (p := ⟨w.heap.size, 4, none⟩) hl3 (fun h => h)).trans d4
 replace d5 := (hf4.cell (p := ⟨w.heap.size, 5, none⟩) hl3 (fun h => h)).trans d5
 replace d6 := (hf4.cell (p := ⟨w.heap.size, 6, none⟩) hl3 (fun h => h)).trans d6
 replace d7 := (hf4.cell (p := ⟨w.heap.size, 7, none⟩) hl3 (fun h => h)).trans d7
 replace d8 := (hf4.cell (p := ⟨w.heap.size, 8, none⟩) hl3 (fun h => h)).trans d8
 replace d9 := (hf4.cell (p := ⟨w.heap.size, 9, none⟩) hl3 (fun h => h)).trans d9
 have HF4 := hide (hF3.trans hf4 (fun _ _ h => h))
 have hl4 : w.heap.size < w4.heap.size := lt_of_cell d0
 clear hF3 hf4 hl3
 have hix : ∀ W, (Instr.index 152 rulesV (.int .i64 4)).run Tryz.prog W = .ok (.agg #[.func (.func 117) #[] #[], .func (.func 118) #[] #[]]) W := fun W => by kernel_rfl
 simp only [rulesV, rulesL] at hix
 go_wp2_with fail
 refine ((unhide HM) _ ((unhide HF4).alloc _)).mono ?_
 clear HM hix
 rintro e w5 ⟨rfl, hf5⟩
 have HF5 := hide (((unhide HF4).alloc _).trans hf5 (fun _ _ h => h))
 rcases m with _ | _
 ·have hrow := (hf5.block w4.heap.size (by simp) (fun h => h)).trans Array.getElem?_push_size
  have r1 : w5.cell? ⟨w4.heap.size, 1, none⟩ = some (.func (.func 118) #[] #[]) := by simp only [World.cell?, hrow]; rfl
  have f5 : Fr (fun _ => False) w4 w5 := ((Fr.refl _ _).alloc _).trans hf5 (fun _ _ h => h)
  replace d0 := (f5.cell (p := ⟨w.heap.size, 0, none⟩) hl4 (fun h => h)).trans d0
  replace d1 := (f5.cell (p := ⟨w.heap.size, 1, none⟩) hl4 (fun h => h)).trans d1
  replace d2 := (f5.cell (p := ⟨w.heap.size, 2, none⟩) hl4 (fun h => h)).trans d2
  replace d3 := (f5.cell (p := ⟨w.heap.size, 3, none⟩) hl4 (fun h => h)).trans d3
  replace d4 := (f5.cell (p := ⟨w.heap.size, 4, none⟩) hl4 (fun h => h)).trans d4
  replace d5 := (f5.cell (p := ⟨w.heap.size, 5, none⟩) hl4 (fun h => h)).trans d5
  replace d6 := (f5.cell (p := ⟨w.heap.size, 6, none⟩) hl4 (fun h => h)).trans d6
  replace d7 := (f5.cell (p := ⟨w.heap.size, 7, none⟩) hl4 (fun h => h)).trans d7
  replace d8 := (f5.cell (p := ⟨w.heap.size, 8, none⟩) hl4 (fun h => h)).trans d8
  replace d9 := (f5.cell (p := ⟨w.heap.size, 9, none⟩) hl4 (fun h => h)).trans d9
  have hl5 : w.heap.size < w5.heap.size := lt_of_cell d0
  clear hf5 hrow f5
  go_wp2_with fail
  refine ((unhide HY) _ (unhide HF5)).mono ?_
  clear HY
  rintro e w6 ⟨rfl, hf6⟩
  go_wp2_with fail
  go_ret
  exact ⟨rfl, (unhide HF5).trans hf6 (fun _ _ h => h)⟩
 ·go_wp2_with fail
  go_ret
  exact ⟨rfl, unhide HF5⟩
set_option maxHeartbeats 2000000 in
set_option maxRecDepth 100000 in
theorem answer_5 (q : QM) (k : Nat) (S : List P3) (w : World) (p : P3) (hp : perso S k = some p) (hS : Stf w q.sv S) (hl : S.length ≤ 140737488355328) (m : Bool) (y : Nat)
  (hm : ∀ W, Fr (fun _ => False) w W → Calls Tryz.prog 119 #[({ q with p := p } : QM).v] W fun e w' => e = .returned (.bool m) ∧ Fr (fun _ => False) W w')
  (hy : ∀ W, Fr (fun _ => False) w W → Calls Tryz.prog 116 #[({ q with p := p } : QM).v] W fun e w' => e = .returned (.int .u8 (y : Nat)) ∧ Fr (fun _ => False) W w') :
  Calls Tryz.prog 92 #[.int .i64 5, .int .u32 (k : Nat), q.v] w fun e w' => e = .returned (.int .u8 ((if m then 0 else y : Nat) : Nat)) ∧ Fr (fun _ => False) w w' := by
 have HF := hide (fun o => find_any q.sv S k _ (hS.fr (((Fr.refl (fun _ => False) w).alloc o))) hl)
 have HM := hide hm
 have HY := hide hy
 obtain ⟨xo, xc, hxe⟩ := hS.form
 rw [hp] at HF
 simp only [Option.getD_some, Option.isSome_some, pv, hxe] at HF
 clear hm hy hS hp
 simp only [QM.v, hxe] at HM HY ⊢
 go_enter Tryz.func92, Tryz.ntmps92
 go_wp2_with fail
 refine (unhide HF _).mono ?_
 clear HF
 rintro e w2 ⟨rfl, hf2⟩
 have hsz : w.heap.size < w2.heap.size := Nat.lt_of_lt_of_le (by simp) hf2.size
 have hbx := (hf2.block w.heap.size (by simp) (fun h => h)).trans Array.getElem?_push_size
 have HFr := hide ((((Fr.refl (fun _ => False) w).alloc _).trans hf2 (fun _ _ h => h)))
 obtain ⟨c0, c1, c2, c3, c4, c5, c6, c7, c8, c9, fz⟩ := box10 hbx
 have z1 := fz 1
 have z2 := fz 2
 have z3 := fz 3
 clear fz hf2 hbx
 go_wp2_with fail
 obtain ⟨W3, hW3⟩ : ∃ W3, (((w2.setCell ⟨w.heap.size, 1, none⟩ (.int .u32 (p.a : Nat))).setCell ⟨w.heap.size, 2, none⟩ (.int .u32 (p.r : Nat))).setCell ⟨w.heap.size, 3, none⟩ (.int .u32 (p.w : Nat))).alloc (.cells #[.int .u32 (p.a : Nat), .int .u32 (p.r : Nat), .int .u32 (p.w : Nat)] 33) = W3 := ⟨_, rfl⟩
 have hD := box_set (.int .u32 (p.a : Nat)) (.int .u32 (p.r : Nat)) (.int .u32 (p.w : Nat)) (.cells #[.int .u32 (p.a : Nat), .int .u32 (p.r : Nat), .int .u32 (p.w : Nat)] 33) hsz c0 c1 c2 c3 c4 c5 c6 c7 c8 c9
 simp only [hW3] at hD
 obtain ⟨d0, d1, d2, d3, d4, d5, d6, d7, d8, d9⟩ := hD
 have hF3 : Fr (fun _ => False) w W3 := by
  rw [← hW3]
  exact ((((unhide HFr).setCell (.inr (Nat.le_refl _)) _).setCell (.inr (Nat.le_refl _)) _).setCell (.inr (Nat.le_refl _)) _).alloc _
 rw [hW3]
 clear hW3 c0 c1 c2 c3 c4 c5 c6 c7 c8 c9 z1 z2 z3 HFr hsz
 have hR := rules_any W3
 simp only [rulesV, rulesL] at hR
 refine hR.mono ?_
 clear hR
 rintro e w4 ⟨rfl, hf4⟩
 have hl3 : w.heap.size < W3.heap.size := lt_of_cell d0
 replace d0 := (hf4.cell (p := ⟨w.heap.size, 0, none⟩) hl3 (fun h => h)).trans d0
 replace d1 := (hf4.cell (p := ⟨w.heap.size, 1, none⟩) hl3 (fun h => h)).trans d1
 replace d2 := (hf4.cell (p := ⟨w.heap.size, 2, none⟩) hl3 (fun h => h)).trans d2
 replace d3 := (hf4.cell (p := ⟨w.heap.size, 3, none⟩) hl3 (fun h => h)).trans d3
 replace d4 := (hf4.cell (p := ⟨w.heap.size, 4, none⟩) hl3 (fun h => h)).trans d4
 replace d5 := (hf4.cell (p := ⟨w.heap.size, 5, none⟩) hl3 (fun h => h)).trans d5
 replace d6 := (hf4.cell (p := ⟨w.heap.size, 6, none⟩) hl3 (fun h => h)).trans d6
 replace d7 := (hf4.cell (p := ⟨w.heap.size, 7, none⟩) hl3 (fun h => h)).trans d7
 replace d8 := (hf4.cell (p := ⟨w.heap.size, 8, none⟩) hl3 (fun h => h)).trans d8
 replace d9 := (hf4.cell (p := ⟨w.heap.size, 9, none⟩) hl3 (fun h => h)).trans d9
 have HF4 := hide (hF3.trans hf4 (fun _ _ h => h))
 have hl4 : w.heap.size < w4.heap.size := lt_of_cell d0
 clear hF3 hf4 hl3
 have hix : ∀ W, (Instr.index 152 rulesV (.int .i64 5)).run Tryz.prog W = .ok (.agg #[.func (.func 119) #[] #[], .func (.func 116) #[] #[]]) W := fun W => by kernel_rfl
 simp only [rulesV, rulesL] at hix
 go_wp2_with fail
 refine ((unhide HM) _ ((unhide HF4).alloc _)).mono ?_
 clear HM hix
 rintro e w5 ⟨rfl, hf5⟩
 have HF5 := hide (((unhide HF4).alloc _).trans hf5 (fun _ _ h => h))
 rcases m with _ | _
 ·have hrow := (hf5.block w4.heap.size (by simp) (fun h => h)).trans Array.getElem?_push_size
  have r1 : w5.cell? ⟨w4.heap.size, 1, none⟩ = some (.func (.func 116) #[] #[]) := by simp only [World.cell?, hrow]; rfl
  have f5 : Fr (fun _ => False) w4 w5 := ((Fr.refl _ _).alloc _).trans hf5 (fun _ _ h => h)
  replace d0 := (f5.cell (p := ⟨w.heap.size, 0, none⟩) hl4 (fun h => h)).trans d0
  replace d1 := (f5.cell (p := ⟨w.heap.size, 1, none⟩) hl4 (fun h => h)).trans d1
  replace d2 := (f5.cell (p := ⟨w.heap.size, 2, none⟩) hl4 (fun h => h)).trans d2
  replace d3 := (f5.cell (p := ⟨w.heap.size, 3, none⟩) hl4 (fun h => h)).trans d3
  replace d4 := (f5.cell (p := ⟨w.heap.size, 4, none⟩) hl4 (fun h => h)).trans d4
  replace d5 := (f5.cell (p := ⟨w.heap.size, 5, none⟩) hl4 (fun h => h)).trans d5
  replace d6 := (f5.cell (p := ⟨w.heap.size, 6, none⟩) hl4 (fun h => h)).trans d6
  replace d7 := (f5.cell (p := ⟨w.heap.size, 7, none⟩) hl4 (fun h => h)).trans d7
  replace d8 := (f5.cell (p := ⟨w.heap.size, 8, none⟩) hl4 (fun h => h)).trans d8
  replace d9 := (f5.cell (p := ⟨w.heap.size, 9, none⟩) hl4 (fun h => h)).trans d9
  have hl5 : w.heap.size < w5.heap.size := lt_of_cell d0
  clear hf5 hrow f5
  go_wp2_with fail
  refine ((unhide HY) _ (unhide HF5)).mono ?_
  clear HY
  rintro e w6 ⟨rfl, hf6⟩
  go_wp2_with fail
  go_ret
  exact ⟨rfl, (unhide HF5).trans hf6 (fun _ _ h => h)⟩
 ·go_wp2_with fail
  go_ret
  exact ⟨rfl, unhide HF5⟩
set_option maxHeartbeats 2000000 in
set_option maxRecDepth 100000 in
theorem answer_6 (q : QM) (k : Nat) (S : List P3) (w : World) (p : P3) (hp : perso S k = some p) (hS : Stf w q.sv S) (hl : S.length ≤ 140737488355328) (m : Bool) (y : Nat)
  (hm : ∀ W, Fr (fun _ => False) w W → Calls Tryz.prog 120 #[({ q with p := p } : QM).v] W fun e w' => e = .returned (.bool m) ∧ Fr (fun _ => False) W w')
  (hy : ∀ W, Fr (fun _ => False) w W → Calls Tryz.prog 118 #[({ q with p := p } : QM).v] W fun e w' => e = .returned (.int .u8 (y : Nat)) ∧ Fr (fun _ => False) W w') :
  Calls Tryz.prog 92 #[.int .i64 6, .int .u32 (k : Nat), q.v] w fun e w' => e = .returned (.int .u8 ((if m then 0 else y : Nat) : Nat)) ∧ Fr (fun _ => False) w w' := by
 have HF := hide (fun o => find_any q.sv S k _ (hS.fr (((Fr.refl (fun _ => False) w).alloc o))) hl)
 have HM := hide hm
 have HY := hide hy
 obtain ⟨xo, xc, hxe⟩ := hS.form
 rw [hp] at HF
 simp only [Option.getD_some, Option.isSome_some, pv, hxe] at HF
 clear hm hy hS hp
 simp only [QM.v, hxe] at HM HY ⊢
 go_enter Tryz.func92, Tryz.ntmps92
 go_wp2_with fail
 refine (unhide HF _).mono ?_
 clear HF
 rintro e w2 ⟨rfl, hf2⟩
 have hsz : w.heap.size < w2.heap.size := Nat.lt_of_lt_of_le (by simp) hf2.size
 have hbx := (hf2.block w.heap.size (by simp) (fun h => h)).trans Array.getElem?_push_size
 have HFr := hide ((((Fr.refl (fun _ => False) w).alloc _).trans hf2 (fun _ _ h => h)))
 obtain ⟨c0, c1, c2, c3, c4, c5, c6, c7, c8, c9, fz⟩ := box10 hbx
 have z1 := fz 1
 have z2 := fz 2
 have z3 := fz 3
 clear fz hf2 hbx
 go_wp2_with fail
 obtain ⟨W3, hW3⟩ : ∃ W3, (((w2.setCell ⟨w.heap.size, 1, none⟩ (.int .u32 (p.a : Nat))).setCell ⟨w.heap.size, 2, none⟩ (.int .u32 (p.r : Nat))).setCell ⟨w.heap.size, 3, none⟩ (.int .u32 (p.w : Nat))).alloc (.cells #[.int .u32 (p.a : Nat), .int .u32 (p.r : Nat), .int .u32 (p.w : Nat)] 33) = W3 := ⟨_, rfl⟩
 have hD := box_set (.int .u32 (p.a : Nat)) (.int .u32 (p.r : Nat)) (.int .u32 (p.w : Nat)) (.cells #[.int .u32 (p.a : Nat), .int .u32 (p.r : Nat), .int .u32 (p.w : Nat)] 33) hsz c0 c1 c2 c3 c4 c5 c6 c7 c8 c9
 simp only [hW3] at hD
 obtain ⟨d0, d1, d2, d3, d4, d5, d6, d7, d8, d9⟩ := hD
 have hF3 : Fr (fun _ => False) w W3 := by
  rw [← hW3]
  exact ((((unhide HFr).setCell (.inr (Nat.le_refl _)) _).setCell (.inr (Nat.le_refl _)) _).setCell (.inr (Nat.le_refl _)) _).alloc _
 rw [hW3]
 clear hW3 c0 c1 c2 c3 c4 c5 c6 c7 c8 c9 z1 z2 z3 HFr hsz
 have hR := rules_any W3
 simp only [rulesV, rulesL] at hR
 refine hR.mono ?_
 clear hR
 rintro e w4 ⟨rfl, hf4⟩
 have hl3 : w.heap.size < W3.heap.size := lt_of_cell d0
 replace d0 := (hf4.cell (p := ⟨w.heap.size, 0, none⟩) hl3 (fun h => h)).trans d0
 replace d1 := (hf4.cell (p := ⟨w.heap.size, 1, none⟩) hl3 (fun h => h)).trans d1
 replace d2 := (hf4.cell (p := ⟨w.heap.size, 2, none⟩) hl3 (fun h => h)).trans d2
 replace d3 := (hf4.cell (p := ⟨w.heap.size, 3, none⟩) hl3 (fun h => h)).trans d3
 replace d4 := (hf4.cell (p := ⟨w.heap.size, 4, none⟩) hl3 (fun h => h)).trans d4
 replace d5 := (hf4.cell (p := ⟨w.heap.size, 5, none⟩) hl3 (fun h => h)).trans d5
 replace d6 := (hf4.cell (p := ⟨w.heap.size, 6, none⟩) hl3 (fun h => h)).trans d6
 replace d7 := (hf4.cell (p := ⟨w.heap.size, 7, none⟩) hl3 (fun h => h)).trans d7
 replace d8 := (hf4.cell (p := ⟨w.heap.size, 8, none⟩) hl3 (fun h => h)).trans d8
 replace d9 := (hf4.cell (p := ⟨w.heap.size, 9, none⟩) hl3 (fun h => h)).trans d9
 have HF4 := hide (hF3.trans hf4 (fun _ _ h => h))
 have hl4 : w.heap.size < w4.heap.size := lt_of_cell d0
 clear hF3 hf4 hl3
 have hix : ∀ W, (Instr.index 152 rulesV (.int .i64 6)).run Tryz.prog W = .ok (.agg #[.func (.func 120) #[] #[], .func (.func 118) #[] #[]]) W := fun W => by kernel_rfl
 simp only [rulesV, rulesL] at hix
 go_wp2_with fail
 refine ((unhide HM) _ ((unhide HF4).alloc _)).mono ?_
 clear HM hix
 rintro e w5 ⟨rfl, hf5⟩
 have HF5 := hide (((unhide HF4).alloc _).trans hf5 (fun _ _ h => h))
 rcases m with _ | _
 ·have hrow := (hf5.block w4.heap.size (by simp) (fun h => h)).trans Array.getElem?_push_size
  have r1 : w5.cell? ⟨w4.heap.size, 1, none⟩ = some (.func (.func 118) #[] #[]) := by simp only [World.cell?, hrow]; rfl
  have f5 : Fr (fun _ => False) w4 w5 := ((Fr.refl _ _).alloc _).trans hf5 (fun _ _ h => h)
  replace d0 := (f5.cell (p := ⟨w.heap.size, 0, none⟩) hl4 (fun h => h)).trans d0
  replace d1 := (f5.cell (p := ⟨w.heap.size, 1, none⟩) hl4 (fun h => h)).trans d1
  replace d2 := (f5.cell (p := ⟨w.heap.size, 2, none⟩) hl4 (fun h => h)).trans d2
  replace d3 := (f5.cell (p := ⟨w.heap.size, 3, none⟩) hl4 (fun h => h)).trans d3
  replace d4 := (f5.cell (p := ⟨w.heap.size, 4, none⟩) hl4 (fun h => h)).trans d4
  replace d5 := (f5.cell (p := ⟨w.heap.size, 5, none⟩) hl4 (fun h => h)).trans d5
  replace d6 := (f5.cell (p := ⟨w.heap.size, 6, none⟩) hl4 (fun h => h)).trans d6
  replace d7 := (f5.cell (p := ⟨w.heap.size, 7, none⟩) hl4 (fun h => h)).trans d7
  replace d8 := (f5.cell (p := ⟨w.heap.size, 8, none⟩) hl4 (fun h => h)).trans d8
  replace d9 := (f5.cell (p := ⟨w.heap.size, 9, none⟩) hl4 (fun h => h)).trans d9
  have hl5 : w.heap.size < w5.heap.size := lt_of_cell d0
  clear hf5 hrow f5
  go_wp2_with fail
  refine ((unhide HY) _ (unhide HF5)).mono ?_
  clear HY
  rintro e w6 ⟨rfl, hf6⟩
  go_wp2_with fail
  go_ret
  exact ⟨rfl, (unhide HF5).trans hf6 (fun _ _ h => h)⟩
 ·go_wp2_with fail
  go_ret
  exact ⟨rfl, unhide HF5⟩
set_option maxHeartbeats 2000000 in
set_option maxRecDepth 100000 in
theorem answer_7 (q : QM) (k : Nat) (S : List P3) (w : World) (p : P3) (hp : perso S k = some p) (hS : Stf w q.sv S) (hl : S.length ≤ 140737488355328) (m : Bool) (y : Nat)
  (hm : ∀ W, Fr (fun _ => False) w W → Calls Tryz.prog 121 #[({ q with p := p } : QM).v] W fun e w' => e = .returned (.bool m) ∧ Fr (fun _ => False) W w')
  (hy : ∀ W, Fr (fun _ => False) w W → Calls Tryz.prog 118 #[({ q with p := p } : QM).v] W fun e w' => e = .returned (.int .u8 (y : Nat)) ∧ Fr (fun _ => False) W w') :
  Calls Tryz.prog 92 #[.int .i64 7, .int .u32 (k : Nat), q.v] w fun e w' => e = .returned (.int .u8 ((if m then 0 else y : Nat) : Nat)) ∧ Fr (fun _ => False) w w' := by
 have HF := hide (fun o => find_any q.sv S k _ (hS.fr (((Fr.refl (fun _ => False) w).alloc o))) hl)
 have HM := hide hm
 have HY := hide hy
 obtain ⟨xo, xc, hxe⟩ := hS.form
 rw [hp] at HF
 simp only [Option.getD_some, Option.isSome_some, pv, hxe] at HF
 clear hm hy hS hp
 simp only [QM.v, hxe] at HM HY ⊢
 go_enter Tryz.func92, Tryz.ntmps92
 go_wp2_with fail
 refine (unhide HF _).mono ?_
 clear HF
 rintro e w2 ⟨rfl, hf2⟩
 have hsz : w.heap.size < w2.heap.size := Nat.lt_of_lt_of_le (by simp) hf2.size
 have hbx := (hf2.block w.heap.size (by simp) (fun h => h)).trans Array.getElem?_push_size
 have HFr := hide ((((Fr.refl (fun _ => False) w).alloc _).trans hf2 (fun _ _ h => h)))
 obtain ⟨c0, c1, c2, c3, c4, c5, c6, c7, c8, c9, fz⟩ := box10 hbx
 have z1 := fz 1
 have z2 := fz 2
 have z3 := fz 3
 clear fz hf2 hbx
 go_wp2_with fail
 obtain ⟨W3, hW3⟩ : ∃ W3, (((w2.setCell ⟨w.heap.size, 1, none⟩ (.int .u32 (p.a : Nat))).setCell ⟨w.heap.size, 2, none⟩ (.int .u32 (p.r : Nat))).setCell ⟨w.heap.size, 3, none⟩ (.int .u32 (p.w : Nat))).alloc (.cells #[.int .u32 (p.a : Nat), .int .u32 (p.r : Nat), .int .u32 (p.w : Nat)] 33) = W3 := ⟨_, rfl⟩
 have hD := box_set (.int .u32 (p.a : Nat)) (.int .u32 (p.r : Nat)) (.int .u32 (p.w : Nat)) (.cells #[.int .u32 (p.a : Nat), .int .u32 (p.r : Nat), .int .u32 (p.w : Nat)] 33) hsz c0 c1 c2 c3 c4 c5 c6 c7 c8 c9
 simp only [hW3] at hD
 obtain ⟨d0, d1, d2, d3, d4, d5, d6, d7, d8, d9⟩ := hD
 have hF3 : Fr (fun _ => False) w W3 := by
  rw [← hW3]
  exact ((((unhide HFr).setCell (.inr (Nat.le_refl _)) _).setCell (.inr (Nat.le_refl _)) _).setCell (.inr (Nat.le_refl _)) _).alloc _
 rw [hW3]
 clear hW3 c0 c1 c2 c3 c4 c5 c6 c7 c8 c9 z1 z2 z3 HFr hsz
 have hR := rules_any W3
 simp only [rulesV, rulesL] at hR
 refine hR.mono ?_
 clear hR
 rintro e w4 ⟨rfl, hf4⟩
 have hl3 : w.heap.size < W3.heap.size := lt_of_cell d0
 replace d0 := (hf4.cell (p := ⟨w.heap.size, 0, none⟩) hl3 (fun h => h)).trans d0
 replace d1 := (hf4.cell (p := ⟨w.heap.size, 1, none⟩) hl3 (fun h => h)).trans d1
 replace d2 := (hf4.cell (p := ⟨w.heap.size, 2, none⟩) hl3 (fun h => h)).trans d2
 replace d3 := (hf4.cell (p := ⟨w.heap.size, 3, none⟩) hl3 (fun h => h)).trans d3
 replace d4 := (hf4.cell (p := ⟨w.heap.size, 4, none⟩) hl3 (fun h => h)).trans d4
 replace d5 := (hf4.cell (p := ⟨w.heap.size, 5, none⟩) hl3 (fun h => h)).trans d5
 replace d6 := (hf4.cell (p := ⟨w.heap.size, 6, none⟩) hl3 (fun h => h)).trans d6
 replace d7 := (hf4.cell (p := ⟨w.heap.size, 7, none⟩) hl3 (fun h => h)).trans d7
 replace d8 := (hf4.cell (p := ⟨w.heap.size, 8, none⟩) hl3 (fun h => h)).trans d8
 replace d9 := (hf4.cell (p := ⟨w.heap.size, 9, none⟩) hl3 (fun h => h)).trans d9
 have HF4 := hide (hF3.trans hf4 (fun _ _ h => h))
 have hl4 : w.heap.size < w4.heap.size := lt_of_cell d0
 clear hF3 hf4 hl3
 have hix : ∀ W, (Instr.index 152 rulesV (.int .i64 7)).run Tryz.prog W = .ok (.agg #[.func (.func 121) #[] #[], .func (.func 118) #[] #[]]) W := fun W => by kernel_rfl
 simp only [rulesV, rulesL] at hix
 go_wp2_with fail
 refine ((unhide HM) _ ((unhide HF4).alloc _)).mono ?_
 clear HM hix
 rintro e w5 ⟨rfl, hf5⟩
 have HF5 := hide (((unhide HF4).alloc _).trans hf5 (fun _ _ h => h))
 rcases m with _ | _
 ·have hrow := (hf5.block w4.heap.size (by simp) (fun h => h)).trans Array.getElem?_push_size
  have r1 : w5.cell? ⟨w4.heap.size, 1, none⟩ = some (.func (.func 118) #[] #[]) := by simp only [World.cell?, hrow]; rfl
  have f5 : Fr (fun _ => False) w4 w5 := ((Fr.refl _ _).alloc _).trans hf5 (fun _ _ h => h)
  replace d0 := (f5.cell (p := ⟨w.heap.size, 0, none⟩) hl4 (fun h => h)).trans d0
  replace d1 := (f5.cell (p := ⟨w.heap.size, 1, none⟩) hl4 (fun h => h)).trans d1
  replace d2 := (f5.cell (p := ⟨w.heap.size, 2, none⟩) hl4 (fun h => h)).trans d2
  replace d3 := (f5.cell (p := ⟨w.heap.size, 3, none⟩) hl4 (fun h => h)).trans d3
  replace d4 := (f5.cell (p := ⟨w.heap.size, 4, none⟩) hl4 (fun h => h)).trans d4
  replace d5 := (f5.cell (p := ⟨w.heap.size, 5, none⟩) hl4 (fun h => h)).trans d5
  replace d6 := (f5.cell (p := ⟨w.heap.size, 6, none⟩) hl4 (fun h => h)).trans d6
  replace d7 := (f5.cell (p := ⟨w.heap.size, 7, none⟩) hl4 (fun h => h)).trans d7
  replace d8 := (f5.cell (p := ⟨w.heap.size, 8, none⟩) hl4 (fun h => h)).trans d8
  replace d9 := (f5.cell (p := ⟨w.heap.size, 9, none⟩) hl4 (fun h => h)).trans d9
  have hl5 : w.heap.size < w5.heap.size := lt_of_cell d0
  clear hf5 hrow f5
  go_wp2_with fail
  refine ((unhide HY) _ (unhide HF5)).mono ?_
  clear HY
  rintro e w6 ⟨rfl, hf6⟩
  go_wp2_with fail
  go_ret
  exact ⟨rfl, (unhide HF5).trans hf6 (fun _ _ h => h)⟩
 ·go_wp2_with fail
  go_ret
  exact ⟨rfl, unhide HF5⟩
set_option maxHeartbeats 2000000 in
set_option maxRecDepth 100000 in
theorem answer_none (op : Int) (q : QM) (k : Nat) (S : List P3) (w : World) (hp : perso S k = none) (hS : Stf w q.sv S) (hl : S.length ≤ 140737488355328) :
  Calls Tryz.prog 92 #[.int .i64 op, .int .u32 (k : Nat), q.v] w fun e w' => e = .returned (.int .u8 1) ∧ Fr (fun _ => False) w w' := by
 have HF := hide (fun o => find_any q.sv S k _ (hS.fr (((Fr.refl (fun _ => False) w).alloc o))) hl)
 obtain ⟨xo, xc, hxe⟩ := hS.form
 rw [hp] at HF
 simp only [Option.getD_none, Option.isSome_none, pv, p0, hxe] at HF
 clear hS hp
 simp only [QM.v, hxe]
 go_enter Tryz.func92, Tryz.ntmps92
 go_wp2_with fail
 refine (unhide HF _).mono ?_
 clear HF
 rintro e w2 ⟨rfl, hf2⟩
 go_wp2_with fail
 go_ret
 exact ⟨rfl, (((Fr.refl (fun _ => False) w).alloc _).trans hf2 (fun _ _ h => h)).alloc _⟩
theorem QE.who {w : World} {q : QM} {S : List P3} {G : List Nat} {F : List F5} (h : QE w q S G F) (p : P3) : QE w { q with p := p } S G F := ⟨h.s, h.g, h.f, h.sl, h.gl, h.fl⟩
def ansv (S : List P3) (k : Nat) (f : P3 → Nat) : Nat := match perso S k with
 | none => 1
 | some p => f p
theorem ans_create (q : QM) (k : Nat) (S : List P3) (G : List Nat) (F : List F5) (w : World) (h : QE w q S G F) :
  Calls Tryz.prog 92 #[.int .i64 1, .int .u32 (k : Nat), q.v] w fun e w' => e = .returned (.int .u8 ((ansv S k fun p => if crF { q with p := p } S then 0 else whyCr { q with p := p } S : Nat) : Nat)) ∧ Fr (fun _ => False) w w' := by
 unfold ansv
 rcases hp : perso S k with _ | p
 ·exact answer_none 1 q k S w hp h.s h.sl
 ·exact answer_1 q k S w p hp h.s h.sl _ _ (fun W hf => mayCreate_any _ S G F W (hide ((h.who p).fr hf))) (fun W hf => whyNotCreate_any _ S G F W (hide ((h.who p).fr hf)))
theorem ans_amend (q : QM) (k : Nat) (S : List P3) (G : List Nat) (F : List F5) (w : World) (h : QE w q S G F) :
  Calls Tryz.prog 92 #[.int .i64 2, .int .u32 (k : Nat), q.v] w fun e w' => e = .returned (.int .u8 ((ansv S k fun p => if amF { q with p := p } G F then 0 else whyAm { q with p := p } G : Nat) : Nat)) ∧ Fr (fun _ => False) w w' := by
 unfold ansv
 rcases hp : perso S k with _ | p
 ·exact answer_none 2 q k S w hp h.s h.sl
 ·exact answer_2 q k S w p hp h.s h.sl _ _ (fun W hf => mayAmend_any _ S G F W (hide ((h.who p).fr hf))) (fun W hf => whyNotAmend_any _ S G F W (hide ((h.who p).fr hf)))
theorem ans_read (q : QM) (k : Nat) (S : List P3) (G : List Nat) (F : List F5) (w : World) (h : QE w q S G F) :
  Calls Tryz.prog 92 #[.int .i64 3, .int .u32 (k : Nat), q.v] w fun e w' => e = .returned (.int .u8 ((ansv S k fun p => if rdF { q with p := p } G then 0 else whyRd { q with p := p } : Nat) : Nat)) ∧ Fr (fun _ => False) w w' := by
 unfold ansv
 rcases hp : perso S k with _ | p
 ·exact answer_none 3 q k S w hp h.s h.sl
 ·exact answer_3 q k S w p hp h.s h.sl _ _ (fun W hf => mayRead_any _ S G F W (hide ((h.who p).fr hf))) (fun W hf => whyNotRead_any _ S G F W (hide ((h.who p).fr hf)))
theorem ans_redact (q : QM) (k : Nat) (S : List P3) (G : List Nat) (F : List F5) (w : World) (h : QE w q S G F) :
  Calls Tryz.prog 92 #[.int .i64 4, .int .u32 (k : Nat), q.v] w fun e w' => e = .returned (.int .u8 ((ansv S k fun p => if reF { q with p := p } then 0 else 5 : Nat) : Nat)) ∧ Fr (fun _ => False) w w' := by
 unfold ansv
 rcases hp : perso S k with _ | p
 ·exact answer_none 4 q k S w hp h.s h.sl
 ·exact answer_4 q k S w p hp h.s h.sl _ _ (fun W hf => mayRedact_any _ S G F W (hide ((h.who p).fr hf))) (fun W _ => notAllowed_any _ W)
theorem ans_history (q : QM) (k : Nat) (S : List P3) (G : List Nat) (F : List F5) (w : World) (h : QE w q S G F) :
  Calls Tryz.prog 92 #[.int .i64 5, .int .u32 (k : Nat), q.v] w fun e w' => e = .returned (.int .u8 ((ansv S k fun p => if hiF { q with p := p } G then 0 else whyRd { q with p := p } : Nat) : Nat)) ∧ Fr (fun _ => False) w w' := by
 unfold ansv
 rcases hp : perso S k with _ | p
 ·exact answer_none 5 q k S w hp h.s h.sl
 ·exact answer_5 q k S w p hp h.s h.sl _ _ (fun W hf => mayHistory_any _ S G F W (hide ((h.who p).fr hf))) (fun W hf => whyNotRead_any _ S G F W (hide ((h.who p).fr hf)))
theorem ans_seal (q : QM) (k : Nat) (S : List P3) (G : List Nat) (F : List F5) (w : World) (h : QE w q S G F) :
  Calls Tryz.prog 92 #[.int .i64 6, .int .u32 (k : Nat), q.v] w fun e w' => e = .returned (.int .u8 ((ansv S k fun p => if seF { q with p := p } then 0 else 5 : Nat) : Nat)) ∧ Fr (fun _ => False) w w' := by
 unfold ansv
 rcases hp : perso S k with _ | p
 ·exact answer_none 6 q k S w hp h.s h.sl
 ·exact answer_6 q k S w p hp h.s h.sl _ _ (fun W hf => maySeal_any _ S G F W (hide ((h.who p).fr hf))) (fun W _ => notAllowed_any _ W)
theorem ans_break (q : QM) (k : Nat) (S : List P3) (G : List Nat) (F : List F5) (w : World) (h : QE w q S G F) :
  Calls Tryz.prog 92 #[.int .i64 7, .int .u32 (k : Nat), q.v] w fun e w' => e = .returned (.int .u8 ((ansv S k fun p => if brF { q with p := p } then 0 else 5 : Nat) : Nat)) ∧ Fr (fun _ => False) w w' := by
 unfold ansv
 rcases hp : perso S k with _ | p
 ·exact answer_none 7 q k S w hp h.s h.sl
 ·exact answer_7 q k S w p hp h.s h.sl _ _ (fun W _ => mayBreak_any _ W) (fun W _ => notAllowed_any _ W)
theorem fds_nil (w : World) : Fds w (.slice none 0 0) [] := .inl ⟨_, _, rfl, rfl⟩
theorem us_nil (w : World) : Us w (.slice none 0 0) [] := .inl ⟨_, _, rfl, rfl⟩
set_option maxHeartbeats 2000000 in
set_option maxRecDepth 100000 in
theorem pread_any (sv : Value) (S : List P3) (wd ow : Nat) (sl : Bool) (gv : Value) (G : List Nat) (k : Nat)  (w : World) (hS : Stf w sv S) (hl : S.length ≤ 140737488355328) (hG : Us w gv G) (hgl : G.length ≤ 140737488355328) :
  Calls Tryz.prog 80 #[sv, .agg #[.int .u32 (wd : Nat), .int .u32 (ow : Nat), .bool sl, gv], .int .u32 (k : Nat)] w fun e w' => e = .returned (.int .u8 ((ansv S k fun p => if rdF (⟨sv, p, wd, ow, sl, gv, .slice none 0 0, ByteArray.empty⟩ : QM) G then 0 else whyRd (⟨sv, p, wd, ow, sl, gv, .slice none 0 0, ByteArray.empty⟩ : QM) : Nat) : Nat)) ∧ Fr (fun _ => False) w w' := by
 have HA := hide (fun W (hf : Fr (fun _ => False) w W) => ans_read ⟨sv, p0, wd, ow, sl, gv, .slice none 0 0, ByteArray.empty⟩ k S G [] W (QE.fr ⟨hS, hG, (fds_nil w), hl, hgl, (by simp)⟩ hf))
 simp only [QM.v, p0] at HA
 obtain ⟨xo, xc, rfl⟩ := hS.form
 obtain ⟨go, gc, rfl⟩ := hG.form
 clear hS hG
 go_enter Tryz.func80, Tryz.ntmps80
 go_wp2_with fail
 refine ((unhide HA) _ (by first | exact (Fr.refl _ _).alloc _ | exact Fr.refl _ _)).mono ?_
 clear HA
 rintro e w2 ⟨rfl, hf⟩
 go_wp2_with fail
 go_ret
 exact ⟨rfl, by first | exact ((Fr.refl _ _).alloc _).trans hf (fun _ _ h => h) | exact hf⟩
set_option maxHeartbeats 2000000 in
set_option maxRecDepth 100000 in
theorem phistory_any (sv : Value) (S : List P3) (wd ow : Nat) (sl : Bool) (gv : Value) (G : List Nat) (k : Nat)  (w : World) (hS : Stf w sv S) (hl : S.length ≤ 140737488355328) (hG : Us w gv G) (hgl : G.length ≤ 140737488355328) :
  Calls Tryz.prog 83 #[sv, .agg #[.int .u32 (wd : Nat), .int .u32 (ow : Nat), .bool sl, gv], .int .u32 (k : Nat)] w fun e w' => e = .returned (.int .u8 ((ansv S k fun p => if hiF (⟨sv, p, wd, ow, sl, gv, .slice none 0 0, ByteArray.empty⟩ : QM) G then 0 else whyRd (⟨sv, p, wd, ow, sl, gv, .slice none 0 0, ByteArray.empty⟩ : QM) : Nat) : Nat)) ∧ Fr (fun _ => False) w w' := by
 have HA := hide (fun W (hf : Fr (fun _ => False) w W) => ans_history ⟨sv, p0, wd, ow, sl, gv, .slice none 0 0, ByteArray.empty⟩ k S G [] W (QE.fr ⟨hS, hG, (fds_nil w), hl, hgl, (by simp)⟩ hf))
 simp only [QM.v, p0] at HA
 obtain ⟨xo, xc, rfl⟩ := hS.form
 obtain ⟨go, gc, rfl⟩ := hG.form
 clear hS hG
 go_enter Tryz.func83, Tryz.ntmps83
 go_wp2_with fail
 refine ((unhide HA) _ (by first | exact (Fr.refl _ _).alloc _ | exact Fr.refl _ _)).mono ?_
 clear HA
 rintro e w2 ⟨rfl, hf⟩
 go_wp2_with fail
 go_ret
 exact ⟨rfl, by first | exact ((Fr.refl _ _).alloc _).trans hf (fun _ _ h => h) | exact hf⟩
set_option maxHeartbeats 2000000 in
set_option maxRecDepth 100000 in
theorem predact_any (sv : Value) (S : List P3) (wd ow : Nat) (sl : Bool) (gv : Value) (G : List Nat) (k : Nat)  (w : World) (hS : Stf w sv S) (hl : S.length ≤ 140737488355328) (hG : Us w gv G) (hgl : G.length ≤ 140737488355328) :
  Calls Tryz.prog 81 #[sv, .agg #[.int .u32 (wd : Nat), .int .u32 (ow : Nat), .bool sl, gv], .int .u32 (k : Nat)] w fun e w' => e = .returned (.int .u8 ((ansv S k fun p => if reF (⟨sv, p, wd, ow, sl, gv, .slice none 0 0, ByteArray.empty⟩ : QM) then 0 else 5 : Nat) : Nat)) ∧ Fr (fun _ => False) w w' := by
 have HA := hide (fun W (hf : Fr (fun _ => False) w W) => ans_redact ⟨sv, p0, wd, ow, sl, gv, .slice none 0 0, ByteArray.empty⟩ k S G [] W (QE.fr ⟨hS, hG, (fds_nil w), hl, hgl, (by simp)⟩ hf))
 simp only [QM.v, p0] at HA
 obtain ⟨xo, xc, rfl⟩ := hS.form
 obtain ⟨go, gc, rfl⟩ := hG.form
 clear hS hG
 go_enter Tryz.func81, Tryz.ntmps81
 go_wp2_with fail
 refine ((unhide HA) _ (by first | exact (Fr.refl _ _).alloc _ | exact Fr.refl _ _)).mono ?_
 clear HA
 rintro e w2 ⟨rfl, hf⟩
 go_wp2_with fail
 go_ret
 exact ⟨rfl, by first | exact ((Fr.refl _ _).alloc _).trans hf (fun _ _ h => h) | exact hf⟩
set_option maxHeartbeats 2000000 in
set_option maxRecDepth 100000 in
theorem pseal_any (sv : Value) (S : List P3) (wd ow : Nat) (sl : Bool) (gv : Value) (G : List Nat) (k : Nat)  (w : World) (hS : Stf w sv S) (hl : S.length ≤ 140737488355328) (hG : Us w gv G) (hgl : G.length ≤ 140737488355328) :
  Calls Tryz.prog 85 #[sv, .agg #[.int .u32 (wd : Nat), .int .u32 (ow : Nat), .bool sl, gv], .int .u32 (k : Nat)] w fun e w' => e = .returned (.int .u8 ((ansv S k fun p => if seF (⟨sv, p, wd, ow, sl, gv, .slice none 0 0, ByteArray.empty⟩ : QM) then 0 else 5 : Nat) : Nat)) ∧ Fr (fun _ => False) w w' := by
 have HA := hide (fun W (hf : Fr (fun _ => False) w W) => ans_seal ⟨sv, p0, wd, ow, sl, gv, .slice none 0 0, ByteArray.empty⟩ k S G [] W (QE.fr ⟨hS, hG, (fds_nil w), hl, hgl, (by simp)⟩ hf))
 simp only [QM.v, p0] at HA
 obtain ⟨xo, xc, rfl⟩ := hS.form
 obtain ⟨go, gc, rfl⟩ := hG.form
 clear hS hG
 go_enter Tryz.func85, Tryz.ntmps85
 go_wp2_with fail
 refine ((unhide HA) _ (by first | exact (Fr.refl _ _).alloc _ | exact Fr.refl _ _)).mono ?_
 clear HA
 rintro e w2 ⟨rfl, hf⟩
 go_wp2_with fail
 go_ret
 exact ⟨rfl, by first | exact ((Fr.refl _ _).alloc _).trans hf (fun _ _ h => h) | exact hf⟩
set_option maxHeartbeats 2000000 in
set_option maxRecDepth 100000 in
theorem pamend_any (sv : Value) (S : List P3) (wd ow : Nat) (sl : Bool) (gv : Value) (G : List Nat) (k : Nat) (fv : Value) (F : List F5) (w : World) (hS : Stf w sv S) (hl : S.length ≤ 140737488355328) (hG : Us w gv G) (hgl : G.length ≤ 140737488355328) (hF : Fds w fv F) (hfl : F.length ≤ 140737488355328) :
  Calls Tryz.prog 76 #[sv, .agg #[.int .u32 (wd : Nat), .int .u32 (ow : Nat), .bool sl, gv], .int .u32 (k : Nat), fv] w fun e w' => e = .returned (.int .u8 ((ansv S k fun p => if amF (⟨sv, p, wd, ow, sl, gv, fv, ByteArray.empty⟩ : QM) G F then 0 else whyAm (⟨sv, p, wd, ow, sl, gv, fv, ByteArray.empty⟩ : QM) G : Nat) : Nat)) ∧ Fr (fun _ => False) w w' := by
 have HA := hide (fun W (hf : Fr (fun _ => False) w W) => ans_amend ⟨sv, p0, wd, ow, sl, gv, fv, ByteArray.empty⟩ k S G F W (QE.fr ⟨hS, hG, hF, hl, hgl, hfl⟩ hf))
 simp only [QM.v, p0] at HA
 obtain ⟨xo, xc, rfl⟩ := hS.form
 obtain ⟨go, gc, rfl⟩ := hG.form
 obtain ⟨fo, fc, rfl⟩ := hF.form
 clear hS hG hF
 go_enter Tryz.func76, Tryz.ntmps76
 go_wp2_with fail
 refine ((unhide HA) _ (by first | exact (Fr.refl _ _).alloc _ | exact Fr.refl _ _)).mono ?_
 clear HA
 rintro e w2 ⟨rfl, hf⟩
 go_wp2_with fail
 go_ret
 exact ⟨rfl, by first | exact ((Fr.refl _ _).alloc _).trans hf (fun _ _ h => h) | exact hf⟩
set_option maxHeartbeats 2000000 in
set_option maxRecDepth 100000 in
theorem pbreak_any (sv : Value) (S : List P3) (wd ow : Nat) (sl : Bool) (gv : Value) (G : List Nat) (k : Nat) (rs : ByteArray) (w : World) (hS : Stf w sv S) (hl : S.length ≤ 140737488355328) (hG : Us w gv G) (hgl : G.length ≤ 140737488355328) :
  Calls Tryz.prog 86 #[sv, .agg #[.int .u32 (wd : Nat), .int .u32 (ow : Nat), .bool sl, gv], .int .u32 (k : Nat), .string rs] w fun e w' => e = .returned (.int .u8 ((ansv S k fun p => if brF (⟨sv, p, wd, ow, sl, gv, .slice none 0 0, rs⟩ : QM) then 0 else 5 : Nat) : Nat)) ∧ Fr (fun _ => False) w w' := by
 have HA := hide (fun W (hf : Fr (fun _ => False) w W) => ans_break ⟨sv, p0, wd, ow, sl, gv, .slice none 0 0, rs⟩ k S G [] W (QE.fr ⟨hS, hG, (fds_nil w), hl, hgl, (by simp)⟩ hf))
 simp only [QM.v, p0] at HA
 obtain ⟨xo, xc, rfl⟩ := hS.form
 obtain ⟨go, gc, rfl⟩ := hG.form
 clear hS hG
 go_enter Tryz.func86, Tryz.ntmps86
 go_wp2_with fail
 refine ((unhide HA) _ (by first | exact (Fr.refl _ _).alloc _ | exact Fr.refl _ _)).mono ?_
 clear HA
 rintro e w2 ⟨rfl, hf⟩
 go_wp2_with fail
 go_ret
 exact ⟨rfl, by first | exact ((Fr.refl _ _).alloc _).trans hf (fun _ _ h => h) | exact hf⟩
set_option maxHeartbeats 2000000 in
set_option maxRecDepth 100000 in
theorem pcreate_any (sv : Value) (S : List P3) (k wd ow : Nat) (w : World) (hS : Stf w sv S) (hl : S.length ≤ 140737488355328) :
  Calls Tryz.prog 70 #[sv, .int .u32 (k : Nat), .int .u32 (wd : Nat), .int .u32 (ow : Nat)] w fun e w' => e = .returned (.int .u8 ((ansv S k fun p => if crF (⟨sv, p, wd, ow, false, .slice none 0 0, .slice none 0 0, ByteArray.empty⟩ : QM) S then 0 else whyCr (⟨sv, p, wd, ow, false, .slice none 0 0, .slice none 0 0, ByteArray.empty⟩ : QM) S : Nat) : Nat)) ∧ Fr (fun _ => False) w w' := by
 have HA := hide (fun W (hf : Fr (fun _ => False) w W) => ans_create ⟨sv, p0, wd, ow, false, .slice none 0 0, .slice none 0 0, ByteArray.empty⟩ k S [] [] W (QE.fr ⟨hS, us_nil w, fds_nil w, hl, by simp, by simp⟩ hf))
 simp only [QM.v, p0] at HA
 obtain ⟨xo, xc, rfl⟩ := hS.form
 clear hS
 go_enter Tryz.func70, Tryz.ntmps70
 go_wp2_with fail
 refine ((unhide HA) _ (by first | exact (Fr.refl _ _).alloc _ | exact Fr.refl _ _)).mono ?_
 clear HA
 rintro e w2 ⟨rfl, hf⟩
 go_wp2_with fail
 go_ret
 exact ⟨rfl, by first | exact ((Fr.refl _ _).alloc _).trans hf (fun _ _ h => h) | exact hf⟩
end Go.Proofs.YthpoligdgbmnkaaGreatDoor
namespace Go.Proofs.YthpoligdgbmnkaaGreatDoor
theorem rd_num (x : Nat) (hf : x % 2147483648 < 2139095040) : ∃ m k : Nat, Ieee.single.read x = .number (x / 2147483648 % 2 == 1) m (-149 + (k : Int)) ∧ k ≤ 253 ∧ m ≤ 16777215 ∧ (m = 0 ↔ x % 2147483648 = 0) ∧ (k = 253 ∧ m = 16777215 → x % 2147483648 = 2139095039) := by
 have e : Ieee.single.read x = if x % 2147483648 < 8388608 then Ieee.Datum.number (x / 2147483648 % 2 == 1) (x % 2147483648) (-149) else if x % 2147483648 < 2139095040 then Ieee.Datum.number (x / 2147483648 % 2 == 1) (8388608 + x % 2147483648 % 8388608) (-149 + ((x % 2147483648 / 8388608 - 1 : Nat) : Int)) else if x % 2147483648 = 2139095040 then .infinity (x / 2147483648 % 2 == 1) else .nan (x / 2147483648 % 2 == 1) (x % 2147483648 - 2139095040) := rfl
 rw [e]
 generalize x % 2147483648 = r at *
 by_cases h : r < 8388608
 ·rw [if_pos h]
  exact ⟨r, 0, rfl, by omega, by omega, Iff.rfl, by omega⟩
 ·rw [if_neg h, if_pos hf]
  refine ⟨8388608 + r % 8388608, r / 8388608 - 1, rfl, by omega, by omega, by omega, by omega⟩
theorem shl_ge (a k : Nat) : a ≤ a <<< k := by rw [Nat.shiftLeft_eq]; exact Nat.le_mul_of_pos_right a (Nat.two_pow_pos k)
theorem shl_gt (a k : Nat) (ha : 0 < a) (hk : 0 < k) : a < a <<< k := by
 rw [Nat.shiftLeft_eq]
 have : 2 ^ 1 ≤ 2 ^ k := Nat.pow_le_pow_right (by decide) hk
 have := Nat.mul_le_mul_left a this
 omega
theorem ord_hi (x : Nat) (hf : x % 2147483648 < 2139095040) : Ieee.single.order x 2139095039 = some (if x % 4294967296 = 2139095039 then .eq else .lt) := by
 obtain ⟨m, k, e, hk, hm, _, hx⟩ := rd_num x hf
 have eh : Ieee.single.read 2139095039 = .number false 16777215 104 := by decide
 show (Ieee.single.read x).order (Ieee.single.read 2139095039) = _
 rw [e, eh]
 show some (compare (Ieee.signed _ m ((-149 + (k : Int)) - min (-149 + (k : Int)) 104).toNat) (Ieee.signed false 16777215 (104 - min (-149 + (k : Int)) 104).toNat)) = _
 have e1 : min (-149 + (k : Int)) 104 = -149 + (k : Int) := by omega
 rw [e1, show (-149 + (k : Int)) - (-149 + (k : Int)) = 0 by omega]
 have e2 : (104 - (-149 + (k : Int))).toNat = 253 - k := by omega
 rw [e2]
 simp only [Ieee.signed, Int.toNat_zero, Nat.shiftLeft_zero, Bool.false_eq_true, if_false]
 have hge := shl_ge 16777215 (253 - k)
 by_cases hn : (x / 2147483648 % 2 == 1) = true
 ·rw [if_pos hn]
  have hn' : x / 2147483648 % 2 = 1 := by simpa using hn
  rw [if_neg (by omega)]
  congr 1
  rw [Int.compare_eq_lt]
  omega
 ·rw [if_neg hn]
  have hn' : x / 2147483648 % 2 = 0 := by
   have : ¬ x / 2147483648 % 2 = 1 := by simpa using hn
   omega
  by_cases hq : k = 253 ∧ m = 16777215
  ·have := hx hq
   obtain ⟨rfl, rfl⟩ := hq
   rw [if_pos (by omega)]
   congr 1
  ·congr 1
   have hlt : m < 16777215 <<< (253 - k) := by
    by_cases h1 : k = 253
    ·have : m ≠ 16777215 := fun e => hq ⟨h1, e⟩
     omega
    ·have := shl_gt 16777215 (253 - k) (by decide) (by omega)
     omega
   have hne : ¬ x % 4294967296 = 2139095039 := fun h => by
    have hr : x % 2147483648 = 2139095039 := by omega
    have er : Ieee.single.read x = Ieee.single.read 2139095039 := by
     show (if x % 2147483648 < 8388608 then Ieee.Datum.number (x / 2147483648 % 2 == 1) (x % 2147483648) (-149) else if x % 2147483648 < 2139095040 then Ieee.Datum.number (x / 2147483648 % 2 == 1) (8388608 + x % 2147483648 % 8388608) (-149 + ((x % 2147483648 / 8388608 - 1 : Nat) : Int)) else if x % 2147483648 = 2139095040 then .infinity (x / 2147483648 % 2 == 1) else .nan (x / 2147483648 % 2 == 1) (x % 2147483648 - 2139095040)) = _
     rw [hr, hn']
     decide
    rw [e, eh] at er
    injection er with _ h1 h2
    exact hq ⟨by omega, h1⟩
   rw [if_neg hne, Int.compare_eq_lt]
   omega
theorem rd_eq (x : Nat) : Ieee.single.read x = if x % 2147483648 < 8388608 then Ieee.Datum.number (x / 2147483648 % 2 == 1) (x % 2147483648) (-149) else if x % 2147483648 < 2139095040 then Ieee.Datum.number (x / 2147483648 % 2 == 1) (8388608 + x % 2147483648 % 8388608) (-149 + ((x % 2147483648 / 8388608 - 1 : Nat) : Int)) else if x % 2147483648 = 2139095040 then .infinity (x / 2147483648 % 2 == 1) else .nan (x / 2147483648 % 2 == 1) (x % 2147483648 - 2139095040) := rfl
theorem ord_lo (x : Nat) (hf : x % 2147483648 < 2139095040) : Ieee.single.order x 4286578687 = some (if x % 4294967296 = 4286578687 then .eq else .gt) := by
 obtain ⟨m, k, e, hk, hm, _, hx⟩ := rd_num x hf
 have eh : Ieee.single.read 4286578687 = .number true 16777215 104 := by decide
 show (Ieee.single.read x).order (Ieee.single.read 4286578687) = _
 rw [e, eh]
 show some (compare (Ieee.signed _ m ((-149 + (k : Int)) - min (-149 + (k : Int)) 104).toNat) (Ieee.signed true 16777215 (104 - min (-149 + (k : Int)) 104).toNat)) = _
 have e1 : min (-149 + (k : Int)) 104 = -149 + (k : Int) := by omega
 rw [e1, show (-149 + (k : Int)) - (-149 + (k : Int)) = 0 by omega]
 have e2 : (104 - (-149 + (k : Int))).toNat = 253 - k := by omega
 rw [e2]
 simp only [Ieee.signed, Int.toNat_zero, Nat.shiftLeft_zero, if_true]
 have hge := shl_ge 16777215 (253 - k)
 by_cases hn : (x / 2147483648 % 2 == 1) = true
 ·rw [if_pos hn]
  have hn' : x / 2147483648 % 2 = 1 := by simpa using hn
  by_cases hq : k = 253 ∧ m = 16777215
  ·have := hx hq
   obtain ⟨rfl, rfl⟩ := hq
   rw [if_pos (by omega)]
   congr 1
  ·congr 1
   have hlt : m < 16777215 <<< (253 - k) := by
    by_cases h1 : k = 253
    ·have : m ≠ 16777215 := fun e => hq ⟨h1, e⟩
     omega
    ·have := shl_gt 16777215 (253 - k) (by decide) (by omega)
     omega
   have hne : ¬ x % 4294967296 = 4286578687 := fun h => by
    have hr : x % 2147483648 = 2139095039 := by omega
    have er : Ieee.single.read x = Ieee.single.read 4286578687 := by
     rw [rd_eq x, hr, hn']
     decide
    rw [e, eh] at er
    injection er with _ h1 h2
    exact hq ⟨by omega, h1⟩
   rw [if_neg hne, Int.compare_eq_gt]
   omega
 ·rw [if_neg hn]
  have hn' : x / 2147483648 % 2 = 0 := by
   have : ¬ x / 2147483648 % 2 = 1 := by simpa using hn
   omega
  rw [if_neg (by omega)]
  congr 1
  rw [Int.compare_eq_gt]
  omega
theorem ord_self (x : Nat) (hf : x % 2147483648 < 2139095040) : Ieee.single.order x x = some .eq := by
 obtain ⟨m, k, e, _⟩ := rd_num x hf
 show (Ieee.single.read x).order (Ieee.single.read x) = _
 rw [e]
 simp [Ieee.Datum.order]
theorem ord_zero (x : Nat) (hf : x % 2147483648 < 2139095040) : (Ieee.single.order x 0 == some .eq) = decide (x % 2147483648 = 0) := by
 obtain ⟨m, k, e, hk, hm, h0, _⟩ := rd_num x hf
 have eh : Ieee.single.read 0 = .number false 0 (-149) := by decide
 show ((Ieee.single.read x).order (Ieee.single.read 0) == _) = _
 rw [e, eh]
 show (some (compare (Ieee.signed _ m ((-149 + (k : Int)) - min (-149 + (k : Int)) (-149)).toNat) (Ieee.signed false 0 (-149 - min (-149 + (k : Int)) (-149)).toNat)) == some .eq) = _
 have e1 : min (-149 + (k : Int)) (-149) = -149 := by omega
 rw [e1, show ((-149 + (k : Int)) - -149).toNat = k by omega]
 simp only [Ieee.signed, Nat.zero_shiftLeft, Bool.false_eq_true, if_false]
 have hge := shl_ge m k
 by_cases hm0 : m = 0
 ·have := h0.1 hm0
  subst hm0
  rw [decide_eq_true this]
  simp
 ·have hx0 : ¬ x % 2147483648 = 0 := fun e => hm0 (h0.2 e)
  rw [decide_eq_false hx0]
  have : compare (if (x / 2147483648 % 2 == 1) = true then -((m <<< k : Nat) : Int) else ((m <<< k : Nat) : Int)) ((0 : Nat) : Int) ≠ .eq := by
   rw [Ne, Int.compare_eq_eq]
   split <;> omega
  simpa using this
theorem ord_nan_l (x y : Nat) (h : 2139095040 < x % 2147483648) : Ieee.single.order x y = none := by
 show (Ieee.single.read x).order (Ieee.single.read y) = _
 rw [rd_eq x, if_neg (by omega), if_neg (by omega), if_neg (by omega)]
 rfl
theorem cut_nan (m : Bool) (x y t : Nat) : 2139095040 < (Question.nanMinMax .f32 m x y).cut t % 2147483648 := by
 show 2139095040 < (t % 2 * 2147483648 + 2139095040 + 1 + t / 2 % 8388607) % 2147483648
 have h := Nat.mod_lt (t / 2) (show 0 < 8388607 by decide)
 generalize t / 2 % 8388607 = q at h
 generalize t % 2 = p
 rw [show p * 2147483648 + 2139095040 + 1 + q = (2139095041 + q) + 2147483648 * p by omega, Nat.add_mul_mod_self_left, Nat.mod_eq_of_lt (by omega)]
 omega
theorem run_max_fin (P : Program) (w : World) (a : Array TypeId) (ty : TypeId) (x : Nat) (hx : x < 4294967296) (hf : x % 2147483648 < 2139095040) : (Builtin.max_ a ty #[.float .f32 x, .float .f32 4286578687]).run P w = .ok (.float .f32 x) w := by
 have ho : FloatKind.f32.format.order x 4286578687 = some (if x % 4294967296 = 4286578687 then .eq else .gt) := ord_lo x hf
 rw [Nat.mod_eq_of_lt hx] at ho
 show (Builtin.max2 (.float .f32 x) (.float .f32 4286578687) >>= pure).run P w = _
 unfold Builtin.max2
 simp only [ho]
 by_cases e : x = 4286578687
 ·subst e
  have en : (FloatKind.f32.decode 4286578687).neg = true := by decide
  simp only [if_true, en]
  rfl
 ·simp only [if_neg e]
  rfl
theorem run_min_fin (P : Program) (w : World) (a : Array TypeId) (ty : TypeId) (x : Nat) (hx : x < 4294967296) (hf : x % 2147483648 < 2139095040) : (Builtin.min_ a ty #[.float .f32 x, .float .f32 2139095039]).run P w = .ok (.float .f32 x) w := by
 have ho : FloatKind.f32.format.order x 2139095039 = some (if x % 4294967296 = 2139095039 then .eq else .lt) := ord_hi x hf
 rw [Nat.mod_eq_of_lt hx] at ho
 show (Builtin.min2 (.float .f32 x) (.float .f32 2139095039) >>= pure).run P w = _
 unfold Builtin.min2
 simp only [ho]
 by_cases e : x = 2139095039
 ·subst e
  have en : (FloatKind.f32.decode 2139095039).neg = false := by decide
  simp only [if_true, en]
  rfl
 ·simp only [if_neg e]
  rfl
theorem run_max_nan (P : Program) (w : World) (a : Array TypeId) (ty : TypeId) (x y : Nat) (hf : 2139095040 < x % 2147483648) : ∃ z, 2139095040 < z % 2147483648 ∧ (Builtin.max_ a ty #[.float .f32 x, .float .f32 y]).run P w = .ok (.float .f32 z) w.drew := by
 have ho : FloatKind.f32.format.order x y = none := ord_nan_l x y hf
 refine ⟨(Question.nanMinMax .f32 true x y).cut (w.tape w.drawn (Question.nanMinMax .f32 true x y)), cut_nan _ _ _ _, ?_⟩
 show (Builtin.max2 (.float .f32 x) (.float .f32 y) >>= pure).run P w = _
 unfold Builtin.max2
 simp only [ho]
 simp [Question.forced]
theorem run_min_nan (P : Program) (w : World) (a : Array TypeId) (ty : TypeId) (x y : Nat) (hf : 2139095040 < x % 2147483648) : ∃ z, 2139095040 < z % 2147483648 ∧ (Builtin.min_ a ty #[.float .f32 x, .float .f32 y]).run P w = .ok (.float .f32 z) w.drew := by
 have ho : FloatKind.f32.format.order x y = none := ord_nan_l x y hf
 refine ⟨(Question.nanMinMax .f32 false x y).cut (w.tape w.drawn (Question.nanMinMax .f32 false x y)), cut_nan _ _ _ _, ?_⟩
 show (Builtin.min2 (.float .f32 x) (.float .f32 y) >>= pure).run P w = _
 unfold Builtin.min2
 simp only [ho]
 simp [Question.forced]
theorem run_max_inf (P : Program) (w : World) (a : Array TypeId) (ty : TypeId) (b : Bool) : (Builtin.max_ a ty #[.float .f32 (if b then 4286578688 else 2139095040), .float .f32 4286578687]).run P w = .ok (.float .f32 (if b then 4286578687 else 2139095040)) w := by
 cases b <;> rfl
theorem run_min_inf (P : Program) (w : World) (a : Array TypeId) (ty : TypeId) (b : Bool) : (Builtin.min_ a ty #[.float .f32 (if b then 4286578687 else 2139095040), .float .f32 2139095039]).run P w = .ok (.float .f32 (if b then 4286578687 else 2139095039)) w := by
 cases b <;> rfl
end Go.Proofs.YthpoligdgbmnkaaGreatDoor
namespace Go.Proofs.YthpoligdgbmnkaaGreatDoor
open Go.RowKit
theorem box1 (w : World) (a : Obj) : Fr (fun _ => False) w (w.alloc a) := (Fr.refl _ _).alloc _
theorem Fr.drewN {S : Nat → Prop} {a w : World} (h : Fr S a w) (n : Nat) : Fr S a (w.drewN n) := ⟨h.os, h.tape, h.output, h.size, h.block⟩
def canB (x : Nat) : Bool := decide (x % 2147483648 < 2139095040) && decide (x ≠ 2147483648)
def fldB (f : F5) : Bool := decide (f.n.size ≤ 64) && decide (f.t.size ≤ 64) && (if f.k = 1 then decide (f.v = 0 ∧ f.u = 0) else if f.k = 2 then decide (f.t.size = 0) && canB f.v && decide (1 ≤ f.u ∧ f.u ≤ 21) else if f.k = 3 then decide (f.t.size = 0) && decide (f.v = 0 ∧ f.u = 0) else false)
def sleB (v a : ByteArray) : Bool := Op.bytesLess v.toList a.toList || v.toList == a.toList
def risB (gone : Bool) : ByteArray → List F5 → Bool
 | _, [] => true
 | a, f :: r => !(sleB f.n a) && fldB f && (decide (f.k ≠ 3) || gone) && risB gone f.n r
def fdsB (l : List F5) (gone : Bool) : Bool := decide (l.length ≤ 32) && risB gone ⟨#[]⟩ l
structure RQ where
 cl : Nat
 nu : Nat
 ac : Nat
 op : Nat
 rc : Nat
 ve : Nat
 wa : Nat
 ow : Nat
 fv : Value
 rs : ByteArray
def RQ.v (r : RQ) : Value := .agg #[.int .u32 (r.cl : Nat), .int .u32 (r.nu : Nat), .int .u32 (r.ac : Nat), .int .u8 (r.op : Nat), .int .u32 (r.rc : Nat), .int .u32 (r.ve : Nat), .int .u32 (r.wa : Nat), .int .u32 (r.ow : Nat), r.fv, .string r.rs]
theorem Tryz.fbitsO (x : Nat) (w : World) : (callFunc 68 #[.float .f32 x]).run Tryz.prog w = .ok (.value (.int .u32 x)) w := by
 have h := @run_callFunc_extern Tryz.prog 68 _ Extern.MathFloatBits.float32bits Tryz.func68 (by kernel_rfl) (by kernel_rfl) (by kernel_rfl) (by kernel_rfl) #[.float .f32 x] w
 rw [h]; rfl
theorem Tryz.feq (x y : Nat) (w : World) : (binOp .eql 53 (.float .f32 x) (.float .f32 y)).run Tryz.prog w = .ok (.bool (Op.floatEq .f32 x y)) w := by kernel_rfl
set_option maxRecDepth 100000 in
theorem within_fin (x : Nat) (w : World) (hx : x < 4294967296) (hf : x % 2147483648 < 2139095040) :
  Calls Tryz.prog 125 #[.float .f32 x, .float .f32 4286578687, .float .f32 2139095039] w fun e w' => e = .returned (.bool true) ∧ w' = w := by
 have h1 := fun a ty W => run_max_fin Tryz.prog W a ty x hx hf
 have h2 := fun a ty W => run_min_fin Tryz.prog W a ty x hx hf
 have h3 : Op.floatEq .f32 x x = true := by
  have := ord_self x hf
  show (Ieee.single.order x x == some .eq) = true
  rw [this]; rfl
 have hq := Tryz.feq
 go_enter Tryz.func125, Tryz.ntmps125
 go_wp2_with fail
 go_ret
 exact ⟨rfl, rfl⟩
set_option maxRecDepth 100000 in
theorem within_inf (b : Bool) (w : World) :
  Calls Tryz.prog 125 #[.float .f32 (if b then 4286578688 else 2139095040), .float .f32 4286578687, .float .f32 2139095039] w fun e w' => e = .returned (.bool false) ∧ w' = w := by
 have h1 := fun a ty W => run_max_inf Tryz.prog W a ty b
 have h2 := fun a ty W => run_min_inf Tryz.prog W a ty b
 have h3 : Op.floatEq .f32 (if b then 4286578687 else 2139095039) (if b then 4286578688 else 2139095040) = false := by cases b <;> decide
 have hq := Tryz.feq
 generalize (if b then 4286578688 else 2139095040 : Nat) = X at *
 generalize (if b then 4286578687 else 2139095040 : Nat) = Y at *
 generalize (if b then 4286578687 else 2139095039 : Nat) = Z at *
 go_enter Tryz.func125, Tryz.ntmps125
 go_wp2_with fail
 go_ret
 exact ⟨rfl, rfl⟩
set_option maxRecDepth 100000 in
theorem within_nan (x : Nat) (w : World) (hf : 2139095040 < x % 2147483648) :
  Calls Tryz.prog 125 #[.float .f32 x, .float .f32 4286578687, .float .f32 2139095039] w fun e w' => e = .returned (.bool false) ∧ ∃ q, w' = w.drewN q := by
 obtain ⟨z, hz, h1⟩ := run_max_nan Tryz.prog w #[53, 53] 53 x 4286578687 hf
 obtain ⟨u, hu, h2⟩ := run_min_nan Tryz.prog w.drew #[53, 53] 53 z 2139095039 hz
 have h3 : Op.floatEq .f32 u x = false := by
  have := ord_nan_l u x hu
  show (Ieee.single.order u x == some .eq) = false
  rw [this]; rfl
 have hq := Tryz.feq
 go_enter Tryz.func125, Tryz.ntmps125
 go_wp2_with fail
 go_ret
 exact ⟨rfl, 2, rfl⟩
theorem within_any (x : Nat) (w : World) (hx : x < 4294967296) :
  Calls Tryz.prog 125 #[.float .f32 x, .float .f32 4286578687, .float .f32 2139095039] w fun e w' => e = .returned (.bool (decide (x % 2147483648 < 2139095040))) ∧ ∃ q, w' = w.drewN q := by
 by_cases h1 : x % 2147483648 < 2139095040
 ·rw [decide_eq_true h1]
  refine (within_fin x w hx h1).mono ?_
  rintro e w' ⟨rfl, rfl⟩
  exact ⟨rfl, 0, rfl⟩
 ·rw [decide_eq_false h1]
  by_cases h2 : x % 2147483648 = 2139095040
  ·obtain ⟨b, rfl⟩ : ∃ b : Bool, x = if b then 4286578688 else 2139095040 := by
    by_cases h3 : x < 2147483648
    ·exact ⟨false, by simp; omega⟩
    ·exact ⟨true, by simp; omega⟩
   refine (within_inf b w).mono ?_
   rintro e w' ⟨rfl, rfl⟩
   exact ⟨rfl, 0, rfl⟩
  ·exact within_nan x w (by omega)
set_option maxRecDepth 100000 in
theorem isNumber_any (x : Nat) (w : World) (hx : x < 4294967296) :
  Calls Tryz.prog 110 #[.float .f32 x] w fun e w' => e = .returned (.bool (decide (x % 2147483648 < 2139095040))) ∧ ∃ q, w' = w.drewN q := by
 have hw := within_any x w hx
 generalize decide (x % 2147483648 < 2139095040) = B at *
 go_enter Tryz.func110, Tryz.ntmps110
 go_wp2_with fail
 refine hw.mono ?_
 rintro e w1 ⟨rfl, q, rfl⟩
 go_wp2_with fail
 go_ret
 exact ⟨rfl, q, rfl⟩
set_option maxRecDepth 100000 in
theorem isCanon_any (x : Nat) (w : World) (hx : x < 4294967296) :
  Calls Tryz.prog 90 #[.float .f32 x] w fun e w' => e = .returned (.bool (canB x)) ∧ ∃ q, w' = w.drewN q := by
 have hq := Tryz.feq
 have hfb := Tryz.fbitsO
 by_cases h1 : x % 2147483648 < 2139095040
 ·by_cases h2 : x % 2147483648 = 0
  ·have HC : Calls Tryz.prog 102 #[.float .f32 x] w fun e w' => e = .returned (.tuple #[.float .f32 0, .int .i64 0]) ∧ ∃ q, w' = w.drewN q := by
    have hz : Op.floatEq .f32 x 0 = true := by
     have := ord_zero x h1
     show (Ieee.single.order x 0 == some .eq) = true
     rw [this, decide_eq_true h2]
    go_enter Tryz.func102, Tryz.ntmps102
    go_wp2_with fail
    refine (isNumber_any x _ hx).mono ?_
    rintro e w1 ⟨rfl, q, rfl⟩
    rw [decide_eq_true h1]
    go_wp2_with fail
    go_ret2
    exact ⟨rfl, q, rfl⟩
   have HC := hide HC
   by_cases h3 : x = 0
   ·subst h3
    rw [show canB 0 = true by decide]
    go_enter Tryz.func90, Tryz.ntmps90
    go_wp2_with fail
    refine (unhide HC).mono ?_
    rintro e w1 ⟨rfl, q, rfl⟩
    go_wp2_with fail
    go_ret
    exact ⟨rfl, q, rfl⟩
   ·have h4 : ((0 : Int) == (x : Int)) = false := by rw [beq_eq_false_iff_ne]; omega
    have h5 : canB x = false := by
     have : x = 2147483648 := by omega
     subst this
     decide
    rw [h5]
    go_enter Tryz.func90, Tryz.ntmps90
    go_wp2_with fail
    refine (unhide HC).mono ?_
    rintro e w1 ⟨rfl, q, rfl⟩
    go_wp2_with fail
    go_ret
    exact ⟨rfl, q, rfl⟩
  ·have HC : Calls Tryz.prog 102 #[.float .f32 x] w fun e w' => e = .returned (.tuple #[.float .f32 x, .int .i64 0]) ∧ ∃ q, w' = w.drewN q := by
    have hz : Op.floatEq .f32 x 0 = false := by
     have := ord_zero x h1
     show (Ieee.single.order x 0 == some .eq) = false
     rw [this, decide_eq_false h2]
    go_enter Tryz.func102, Tryz.ntmps102
    go_wp2_with fail
    refine (isNumber_any x _ hx).mono ?_
    rintro e w1 ⟨rfl, q, rfl⟩
    rw [decide_eq_true h1]
    go_wp2_with fail
    go_ret2
    exact ⟨rfl, q, rfl⟩
   have HC := hide HC
   have h5 : canB x = true := by
    simp only [canB, decide_eq_true h1, Bool.true_and]
    exact decide_eq_true (by omega)
   rw [h5]
   go_enter Tryz.func90, Tryz.ntmps90
   go_wp2_with fail
   refine (unhide HC).mono ?_
   rintro e w1 ⟨rfl, q, rfl⟩
   go_wp2_with fail
   go_ret
   exact ⟨rfl, q, rfl⟩
 ·have HC : Calls Tryz.prog 102 #[.float .f32 x] w fun e w' => (∃ c : Int, e = .returned (.tuple #[.float .f32 0, .int .i64 c]) ∧ ¬ c = 0) ∧ ∃ q, w' = w.drewN q := by
   go_enter Tryz.func102, Tryz.ntmps102
   go_wp2_with fail
   refine (isNumber_any x _ hx).mono ?_
   rintro e w1 ⟨rfl, q, rfl⟩
   rw [decide_eq_false h1]
   go_wp2_with fail
   go_ret2
   exact ⟨⟨_, rfl, by decide⟩, q, rfl⟩
  have HC := hide HC
  have h5 : canB x = false := by simp only [canB, decide_eq_false h1, Bool.false_and]
  rw [h5]
  go_enter Tryz.func90, Tryz.ntmps90
  go_wp2_with fail
  refine (unhide HC).mono ?_
  rintro e w1 ⟨⟨c, rfl, hc⟩, q, rfl⟩
  go_wp2_with fail
  go_ret
  exact ⟨rfl, q, rfl⟩
def F5.cs (f : F5) : Array Value := #[.string f.n, .int .u8 (f.k : Nat), .string f.t, .float .f32 f.v, .int .u8 (f.u : Nat)]
def F5.val (f : F5) : Value := .agg f.cs
set_option maxRecDepth 100000 in
theorem hasQ_any (f : F5) (w : World) :
  Calls Tryz.prog 89 #[f.val] w fun e w' => e = .returned (.bool (!decide (f.v = 0 ∧ f.u = 0))) ∧ Fr (fun _ => False) w w' := by
 obtain ⟨n, k, t, v, u⟩ := f
 have hfb := Tryz.fbitsO
 simp only [F5.val, F5.cs]
 by_cases h1 : v = 0
 ·by_cases h2 : u = 0
  ·subst h1 h2
   go_enter Tryz.func89, Tryz.ntmps89
   go_wp2_with fail
   go_ret
   exact ⟨rfl, (Fr.refl _ _).alloc _⟩
  ·subst h1
   have h3 : ((u : Int) != 0) = true := by simp; omega
   rw [decide_eq_false (by simp [h2])]
   go_enter Tryz.func89, Tryz.ntmps89
   go_wp2_with fail
   go_ret
   exact ⟨rfl, (Fr.refl _ _).alloc _⟩
 ·have h3 : ((v : Int) != 0) = true := by simp; omega
  rw [decide_eq_false (by simp [h1])]
  go_enter Tryz.func89, Tryz.ntmps89
  go_wp2_with fail
  go_ret
  exact ⟨rfl, (Fr.refl _ _).alloc _⟩
set_option maxRecDepth 100000 in
theorem units_any (w : World) : Calls Tryz.prog 91 #[] w fun e w' => e = .returned (.int .i64 21) ∧ w' = w := by
 go_enter Tryz.func91, Tryz.ntmps91
 go_wp2_with fail
 go_ret
 exact ⟨rfl, rfl⟩
theorem size0 (t : ByteArray) (h : t.size = 0) : t = ⟨#[]⟩ := by
 cases t with
 | mk d => simp [ByteArray.size] at h; subst h; rfl
theorem ba_empty : (ByteArray.mk #[]).size = 0 := rfl
theorem fbox (w W' : World) (f : F5) (ty : TypeId) (hf : Fr (fun _ => False) (w.alloc (.cells f.cs ty)) W') : W'.cell? ⟨w.heap.size, 0, none⟩ = some (.string f.n) ∧ W'.cell? ⟨w.heap.size, 1, none⟩ = some (.int .u8 (f.k : Nat)) ∧ W'.cell? ⟨w.heap.size, 2, none⟩ = some (.string f.t) ∧ W'.cell? ⟨w.heap.size, 3, none⟩ = some (.float .f32 f.v) ∧ W'.cell? ⟨w.heap.size, 4, none⟩ = some (.int .u8 (f.u : Nat)) := by
 have h0 : (w.alloc (.cells f.cs ty)).heap[w.heap.size]? = some (.cells f.cs ty) := Array.getElem?_push_size
 have hb : W'.heap[w.heap.size]? = some (.cells f.cs ty) := by
  rw [hf.block _ (lt_of_block h0) (fun h => h)]
  exact h0
 refine ⟨?_, ?_, ?_, ?_, ?_⟩ <;> (simp only [World.cell?, hb]; rfl)
set_option maxHeartbeats 1000000 in
set_option maxRecDepth 100000 in
theorem isFormed_2a (n : ByteArray) (v u : Nat) (w : World) (hn : n.size ≤ 64) (hv : v < 4294967296) (hc : canB v = true) (hu : 1 ≤ u) (hu2 : u < 256) :
  Calls Tryz.prog 69 #[(F5.mk n 2 ⟨#[]⟩ v u).val] w fun e w' => e = .returned (.bool (decide (u ≤ 21))) ∧ Fr (fun _ => False) w w' := by
 have a1 : ¬ (64 : Int) < (n.size : Int) := by omega
 have a2 : ¬ (64 : Int) < ((ByteArray.mk #[]).size : Int) := by decide
 have a3 : ¬ (u : Int) < 1 := by omega
 have a4 : IntKind.i64.wrap (u : Int) = (u : Int) := by rw [IntKind.wrap_i64]; omega
 have hcast : decide ((u : Int) ≤ 21) = decide (u ≤ 21) := by rw [decide_eq_decide]; omega
 have HC : Hid (∀ W', Calls Tryz.prog 90 #[.float .f32 v] W' fun e w' => e = .returned (.bool true) ∧ ∃ q, w' = W'.drewN q) := fun W' => by
  have := isCanon_any v W' hv
  rw [hc] at this
  exact this
 simp only [F5.val, F5.cs] at *
 go_enter Tryz.func69, Tryz.ntmps69
 go_wp2_with fail
 go_quiet (first | (go_at_call 90; exact Calls.quiet_of ((unhide HC) _)) | (go_at_call 91; exact Calls.quiet_of_same (units_any _)))
 go_wp2_with fail
 go_ret
 exact ⟨rfl, (box1 w _).drewN _⟩
set_option maxHeartbeats 1000000 in
set_option maxRecDepth 100000 in
theorem isFormed_2b (n : ByteArray) (v : Nat) (w : World) (hn : n.size ≤ 64) (hv : v < 4294967296) (hc : canB v = true) :
  Calls Tryz.prog 69 #[(F5.mk n 2 ⟨#[]⟩ v 0).val] w fun e w' => e = .returned (.bool false) ∧ Fr (fun _ => False) w w' := by
 have a1 : ¬ (64 : Int) < (n.size : Int) := by omega
 have a2 : ¬ (64 : Int) < ((ByteArray.mk #[]).size : Int) := by decide
 have HC : Hid (∀ W', Calls Tryz.prog 90 #[.float .f32 v] W' fun e w' => e = .returned (.bool true) ∧ ∃ q, w' = W'.drewN q) := fun W' => by
  have := isCanon_any v W' hv
  rw [hc] at this
  exact this
 simp only [F5.val, F5.cs] at *
 go_enter Tryz.func69, Tryz.ntmps69
 go_wp2_with fail
 go_quiet ((go_at_call 90; exact Calls.quiet_of ((unhide HC) _)))
 go_wp2_with fail
 go_ret
 exact ⟨rfl, (box1 w _).drewN _⟩
set_option maxHeartbeats 1000000 in
set_option maxRecDepth 100000 in
theorem isFormed_2c (n : ByteArray) (v u : Nat) (w : World) (hn : n.size ≤ 64) (hv : v < 4294967296) (hc : canB v = false) :
  Calls Tryz.prog 69 #[(F5.mk n 2 ⟨#[]⟩ v u).val] w fun e w' => e = .returned (.bool false) ∧ Fr (fun _ => False) w w' := by
 have a1 : ¬ (64 : Int) < (n.size : Int) := by omega
 have a2 : ¬ (64 : Int) < ((ByteArray.mk #[]).size : Int) := by decide
 have HC : Hid (∀ W', Calls Tryz.prog 90 #[.float .f32 v] W' fun e w' => e = .returned (.bool false) ∧ ∃ q, w' = W'.drewN q) := fun W' => by
  have := isCanon_any v W' hv
  rw [hc] at this
  exact this
 simp only [F5.val, F5.cs] at *
 go_enter Tryz.func69, Tryz.ntmps69
 go_wp2_with fail
 go_quiet ((go_at_call 90; exact Calls.quiet_of ((unhide HC) _)))
 go_wp2_with fail
 go_ret
 exact ⟨rfl, (box1 w _).drewN _⟩
set_option maxHeartbeats 1000000 in
set_option maxRecDepth 100000 in
theorem isFormed_2d (n t : ByteArray) (v u : Nat) (w : World) (hn : n.size ≤ 64) (ht : t.size ≤ 64) (h0 : t.toList.isEmpty = false) :
  Calls Tryz.prog 69 #[(F5.mk n 2 t v u).val] w fun e w' => e = .returned (.bool false) ∧ Fr (fun _ => False) w w' := by
 have a1 : ¬ (64 : Int) < (n.size : Int) := by omega
 have a2 : ¬ (64 : Int) < (t.size : Int) := by omega
 simp only [F5.val, F5.cs] at *
 go_enter Tryz.func69, Tryz.ntmps69
 go_wp2_with fail
 go_quiet (fail)
 go_wp2_with fail
 go_ret
 exact ⟨rfl, (box1 w _).drewN _⟩
set_option maxHeartbeats 1000000 in
set_option maxRecDepth 100000 in
theorem isFormed_1 (n t : ByteArray) (v u : Nat) (w : World) (hn : n.size ≤ 64) (ht : t.size ≤ 64) :
  Calls Tryz.prog 69 #[(F5.mk n 1 t v u).val] w fun e w' => e = .returned (.bool (decide (v = 0 ∧ u = 0))) ∧ Fr (fun _ => False) w w' := by
 have a1 : ¬ (64 : Int) < (n.size : Int) := by omega
 have a2 : ¬ (64 : Int) < (t.size : Int) := by omega
 have hq0 := fun W' => hasQ_any (F5.mk n 1 t v u) W'
 simp only [F5.val, F5.cs] at *
 generalize decide (v = 0 ∧ u = 0) = R at *
 have HQ := hide hq0
 have HF := hide (box1 w (.cells (F5.mk n 1 t v u).cs 55))
 simp only [F5.cs] at HF
 clear hq0
 go_enter Tryz.func69, Tryz.ntmps69
 go_wp2_with fail
 refine ((unhide HQ) _).mono ?_
 rintro e w2 ⟨rfl, hf2⟩
 have H2 := hide ((unhide HF).trans hf2 (fun _ _ h => h))
 clear hf2 HQ HF
 cases R
 all_goals
  go_wp2_with fail
  go_ret
  exact ⟨rfl, unhide H2⟩
set_option maxHeartbeats 1000000 in
set_option maxRecDepth 100000 in
theorem isFormed_3 (n : ByteArray) (v u : Nat) (w : World) (hn : n.size ≤ 64) :
  Calls Tryz.prog 69 #[(F5.mk n 3 ⟨#[]⟩ v u).val] w fun e w' => e = .returned (.bool (decide (v = 0 ∧ u = 0))) ∧ Fr (fun _ => False) w w' := by
 have a1 : ¬ (64 : Int) < (n.size : Int) := by omega
 have a2 : ¬ (64 : Int) < ((ByteArray.mk #[]).size : Int) := by decide
 have hq0 := fun W' => hasQ_any (F5.mk n 3 ⟨#[]⟩ v u) W'
 simp only [F5.val, F5.cs] at *
 generalize decide (v = 0 ∧ u = 0) = R at *
 have HQ := hide hq0
 have HF := hide (box1 w (.cells (F5.mk n 3 ⟨#[]⟩ v u).cs 55))
 simp only [F5.cs] at HF
 clear hq0
 go_enter Tryz.func69, Tryz.ntmps69
 go_wp2_with fail
 refine ((unhide HQ) _).mono ?_
 rintro e w2 ⟨rfl, hf2⟩
 have H2 := hide ((unhide HF).trans hf2 (fun _ _ h => h))
 clear hf2 HQ HF
 cases R
 all_goals
  go_wp2_with fail
  go_ret
  exact ⟨rfl, unhide H2⟩
set_option maxRecDepth 100000 in
theorem isFormed_3d (n t : ByteArray) (v u : Nat) (w : World) (hn : n.size ≤ 64) (ht : t.size ≤ 64) (h0 : t.toList.isEmpty = false) :
  Calls Tryz.prog 69 #[(F5.mk n 3 t v u).val] w fun e w' => e = .returned (.bool false) ∧ Fr (fun _ => False) w w' := by
 have a1 : ¬ (64 : Int) < (n.size : Int) := by omega
 have a2 : ¬ (64 : Int) < (t.size : Int) := by omega
 simp only [F5.val, F5.cs] at *
 go_enter Tryz.func69, Tryz.ntmps69
 go_wp2_with fail
 go_ret
 exact ⟨rfl, box1 w _⟩
set_option maxRecDepth 100000 in
theorem isFormed_k (n t : ByteArray) (k : Nat) (v u : Nat) (w : World) (hn : n.size ≤ 64) (ht : t.size ≤ 64) (h1 : ¬ k = 1) (h2 : ¬ k = 2) (h3 : ¬ k = 3) :
  Calls Tryz.prog 69 #[(F5.mk n k t v u).val] w fun e w' => e = .returned (.bool false) ∧ Fr (fun _ => False) w w' := by
 have a1 : ¬ (64 : Int) < (n.size : Int) := by omega
 have a2 : ¬ (64 : Int) < (t.size : Int) := by omega
 have b1 : ((k : Int) == 1) = false := by rw [beq_eq_false_iff_ne]; omega
 have b2 : ((k : Int) == 2) = false := by rw [beq_eq_false_iff_ne]; omega
 have b3 : ((k : Int) == 3) = false := by rw [beq_eq_false_iff_ne]; omega
 simp only [F5.val, F5.cs] at *
 go_enter Tryz.func69, Tryz.ntmps69
 go_wp2_with fail
 go_ret
 exact ⟨rfl, box1 w _⟩
set_option maxRecDepth 100000 in
theorem isFormed_n (n t : ByteArray) (k : Nat) (v u : Nat) (w : World) (hn : 64 < n.size) :
  Calls Tryz.prog 69 #[(F5.mk n k t v u).val] w fun e w' => e = .returned (.bool false) ∧ Fr (fun _ => False) w w' := by
 have a1 : (64 : Int) < (n.size : Int) := by omega
 simp only [F5.val, F5.cs] at *
 go_enter Tryz.func69, Tryz.ntmps69
 go_wp2_with fail
 go_ret
 exact ⟨rfl, box1 w _⟩
set_option maxRecDepth 100000 in
theorem isFormed_t (n t : ByteArray) (k : Nat) (v u : Nat) (w : World) (hn : n.size ≤ 64) (ht : 64 < t.size) :
  Calls Tryz.prog 69 #[(F5.mk n k t v u).val] w fun e w' => e = .returned (.bool false) ∧ Fr (fun _ => False) w w' := by
 have a1 : ¬ (64 : Int) < (n.size : Int) := by omega
 have a2 : (64 : Int) < (t.size : Int) := by omega
 simp only [F5.val, F5.cs] at *
 go_enter Tryz.func69, Tryz.ntmps69
 go_wp2_with fail
 go_ret
 exact ⟨rfl, box1 w _⟩
theorem emp (t : ByteArray) : t.toList.isEmpty = decide (t.size = 0) := by
 rw [ByteArray.toList_eq]
 cases t with
 | mk d =>
  cases d with
  | mk l => cases l <;> simp [ByteArray.size]
theorem isFormed_any (f : F5) (w : World) (hv : f.v < 4294967296) (hu : f.u < 256) :
  Calls Tryz.prog 69 #[f.val] w fun e w' => e = .returned (.bool (fldB f)) ∧ Fr (fun _ => False) w w' := by
 obtain ⟨n, k, t, v, u⟩ := f
 simp only at hv hu
 by_cases h1 : n.size ≤ 64
 ·by_cases h2 : t.size ≤ 64
  ·have e0 : fldB ⟨n, k, t, v, u⟩ = (if k = 1 then decide (v = 0 ∧ u = 0) else if k = 2 then decide (t.size = 0) && canB v && decide (1 ≤ u ∧ u ≤ 21) else if k = 3 then decide (t.size = 0) && decide (v = 0 ∧ u = 0) else false) := by simp only [fldB, decide_eq_true h1, decide_eq_true h2, Bool.true_and]
   rw [e0]
   by_cases k1 : k = 1
   ·subst k1
    rw [if_pos rfl]
    exact isFormed_1 n t v u w h1 h2
   ·rw [if_neg k1]
    by_cases k2 : k = 2
    ·subst k2
     rw [if_pos rfl]
     by_cases h0 : t.size = 0
     ·obtain rfl := size0 t h0
      rw [decide_eq_true h0, Bool.true_and]
      cases hc : canB v
      ·exact isFormed_2c n v u w h1 hv hc
      ·rw [Bool.true_and]
       by_cases hu1 : 1 ≤ u
       ·rw [show decide (1 ≤ u ∧ u ≤ 21) = decide (u ≤ 21) from decide_eq_decide.2 ⟨fun h => h.2, fun h => ⟨hu1, h⟩⟩]
        exact isFormed_2a n v u w h1 hv hc hu1 hu
       ·obtain rfl : u = 0 := by omega
        exact isFormed_2b n v w h1 hv hc
     ·rw [decide_eq_false h0, Bool.false_and, Bool.false_and]
      exact isFormed_2d n t v u w h1 h2 (by rw [emp, decide_eq_false h0])
    ·rw [if_neg k2]
     by_cases k3 : k = 3
     ·subst k3
      rw [if_pos rfl]
      by_cases h0 : t.size = 0
      ·obtain rfl := size0 t h0
       rw [decide_eq_true h0, Bool.true_and]
       exact isFormed_3 n v u w h1
      ·rw [decide_eq_false h0, Bool.false_and]
       exact isFormed_3d n t v u w h1 h2 (by rw [emp, decide_eq_false h0])
     ·rw [if_neg k3]
      exact isFormed_k n t k v u w h1 h2 k1 k2 k3
  ·rw [show fldB ⟨n, k, t, v, u⟩ = false by simp only [fldB, decide_eq_false h2, Bool.and_false, Bool.false_and]]
   exact isFormed_t n t k v u w h1 (by omega)
 ·rw [show fldB ⟨n, k, t, v, u⟩ = false by simp only [fldB, decide_eq_false h1, Bool.false_and]]
  exact isFormed_n n t k v u w (by omega)
theorem Tryz.leqS (v a : ByteArray) (w : World) : (binOp .leq 9 (.string v) (.string a)).run Tryz.prog w = .ok (.bool (sleB v a)) w := by simp [binOp, Op.stringOp, sleB]
set_option maxHeartbeats 2000000 in
set_option maxRecDepth 100000 in
theorem areFormed_any (x : Value) (l : List F5) (gone : Bool) (w : World) (hx : Fds w x l) (hl : l.length ≤ 140737488355328) (hv : ∀ f ∈ l, f.v < 4294967296 ∧ f.u < 256) :
  Calls Tryz.prog 56 #[x, .bool gone] w fun e w' => e = .returned (.bool (fdsB l gone)) ∧ Fr (fun _ => False) w w' := by
 obtain ⟨xo, xc, rfl⟩ := hx.form
 have HX := hide hx
 clear hx
 by_cases h32 : (32 : Int) < (l.length : Int)
 ·rw [show fdsB l gone = false by simp only [fdsB, decide_eq_false (show ¬ l.length ≤ 32 by omega), Bool.false_and]]
  go_enter Tryz.func56, Tryz.ntmps56
  go_wp2_with fail
  go_ret
  exact ⟨rfl, Fr.refl _ _⟩
 ·rw [show fdsB l gone = risB gone ⟨#[]⟩ l by simp only [fdsB, decide_eq_true (show l.length ≤ 32 by omega), Bool.true_and]]
  go_enter Tryz.func56, Tryz.ntmps56
  go_wp2_with fail
  go_loopw [5, 13] (fun av iv wr => ∃ (j : Nat) (a : ByteArray), j ≤ l.length ∧ av = .string a ∧ iv = .int .i64 (j : Nat) ∧ risB gone ⟨#[]⟩ l = risB gone a (l.drop j) ∧ Fr (fun _ => False) w wr) (fun _ iv _ => l.length - (intOf iv).toNat)
  case atStart => exact ⟨0, _, Nat.zero_le _, rfl, rfl, by simp, Fr.refl _ _⟩
  case round =>
   obtain ⟨j, a, hj, rfl, rfl, hr, hf⟩ := hrel
   by_cases hlt : j < l.length
   ·obtain ⟨g, o, rfl, c0, c1, c2, c3, c4⟩ := ((unhide HX).fr hf).at_ j hlt
    have hvj := hv l[j] (List.getElem_mem hlt)
    have hdr : l.drop j = l[j] :: l.drop (j + 1) := List.drop_eq_getElem_cons hlt
    rw [hdr] at hr
    generalize l[j] = f at c0 c1 c2 c3 c4 hvj hr
    have hi1 : (j : Int) < (l.length : Int) := by omega
    have HR := hide (And.intro hr hf)
    clear hr hf hdr
    have hleq := Tryz.leqS
    cases hs : sleB f.n a with
    | true =>
     go_wp2_with fail
     go_ret
     refine ⟨?_, (unhide HR).2.trans (box1 wr _) (fun _ _ h => h)⟩
     rw [(unhide HR).1, risB, hs]
     rfl
    | false =>
     have HC := hide (fun W' => isFormed_any f W' hvj.1 hvj.2)
     have HB := hide (fun W' => fbox wr W' f 55)
     have HN := hide hs
     simp only [F5.val, F5.cs] at HC HB
     go_wp2_with fail
     refine ((unhide HC) _).mono ?_
     rintro e w2 ⟨rfl, hf2⟩
     obtain ⟨b0, b1, b2, b3, b4⟩ := (unhide HB) w2 hf2
     have H2 := hide (((unhide HR).2.trans (box1 wr _) (fun _ _ h => h)).trans hf2 (fun _ _ h => h))
     have hb2 : wr.heap.size < w2.heap.size := lt_of_cell b0
     clear HC HB hf2
     cases hfl : fldB f with
     | false =>
      go_wp2_with fail
      go_ret
      refine ⟨?_, unhide H2⟩
      rw [(unhide HR).1, risB, unhide HN, hfl]
      rfl
     | true =>
      by_cases hk3 : f.k = 3
      ·have b3' : ((f.k : Int) == 3) = true := by rw [hk3]; rfl
       rcases Bool.eq_false_or_eq_true gone with hg | hg
       ·subst hg
        go_wp2_with fail
        refine ⟨⟨j + 1, f.n, by omega, rfl, by go_num, ?_, unhide H2⟩, by simp [intOf]; omega⟩
        rw [(unhide HR).1, risB, unhide HN, hfl, hk3]
        rfl
       ·subst hg
        go_wp2_with fail
        go_ret
        refine ⟨?_, unhide H2⟩
        rw [(unhide HR).1, risB, unhide HN, hfl, hk3]
        rfl
      ·have b3' : ((f.k : Int) == 3) = false := by rw [beq_eq_false_iff_ne]; omega
       go_wp2_with fail
       refine ⟨⟨j + 1, f.n, by omega, rfl, by go_num, ?_, unhide H2⟩, by simp [intOf]; omega⟩
       rw [(unhide HR).1, risB, unhide HN, hfl, decide_eq_true (show f.k ≠ 3 from hk3)]
       rfl
   ·go_wp2_with fail
    go_ret
    refine ⟨?_, hf⟩
    rw [hr, List.drop_eq_nil_of_le (by omega)]
    rfl
theorem range_new (W : World) (cs : List Value) (t : TypeId) (b : Nat) (hb : b = W.heap.size) : (W.alloc (.cells cs.toArray t)).rangeAt b 0 cs := by
 subst hb
 intro j v hv
 rw [World.cell?_alloc_at _ _ _ _ rfl, Nat.zero_add]
 show cs.toArray[j]? = some v
 rw [List.getElem?_toArray]
 exact hv
set_option maxHeartbeats 1000000 in
set_option maxRecDepth 100000 in
theorem unused_1 (cl nu ac rc ve wa ow : Nat) (rs : ByteArray) (xo : Option Addr) (n xc : Nat) (w : World) :
  Calls Tryz.prog 55 #[(RQ.mk cl nu ac 1 rc ve wa ow (.slice xo n xc) rs).v] w fun e w' => e = .returned (RQ.mk cl nu ac 1 rc ve 0 0 (.slice none 0 0) rs).v ∧ Fr (fun _ => False) w w' := by
 simp only [RQ.v]
 go_enter Tryz.func55, Tryz.ntmps55
 go_wp2_with fail
 refine bodyPost_ret (results_cell_mid rfl _ _ (w.heap.size + 1) 0 [.int .u32 (cl : Nat), .int .u32 (nu : Nat), .int .u32 (ac : Nat), .int .u8 (1 : Nat), .int .u32 (rc : Nat), .int .u32 (ve : Nat), .int .u32 (0 : Nat), .int .u32 (0 : Nat), .slice none 0 0, .string rs] _ rfl (range_new _ _ _ _ (by simp)) Tryz.underlying41 rfl (by kernel_rfl)) rfl ?_
 exact ⟨rfl, (box1 w _).trans (box1 _ _) (fun _ _ h => h)⟩
set_option maxHeartbeats 1000000 in
set_option maxRecDepth 100000 in
theorem unused_2 (cl nu ac rc ve wa ow : Nat) (rs : ByteArray) (xo : Option Addr) (n xc : Nat) (w : World) :
  Calls Tryz.prog 55 #[(RQ.mk cl nu ac 2 rc ve wa ow (.slice xo n xc) rs).v] w fun e w' => e = .returned (RQ.mk cl nu ac 2 0 0 wa ow (.slice none 0 0) rs).v ∧ Fr (fun _ => False) w w' := by
 simp only [RQ.v]
 go_enter Tryz.func55, Tryz.ntmps55
 go_wp2_with fail
 refine bodyPost_ret (results_cell_mid rfl _ _ (w.heap.size + 1) 0 [.int .u32 (cl : Nat), .int .u32 (nu : Nat), .int .u32 (ac : Nat), .int .u8 (2 : Nat), .int .u32 (0 : Nat), .int .u32 (0 : Nat), .int .u32 (wa : Nat), .int .u32 (ow : Nat), .slice none 0 0, .string rs] _ rfl (range_new _ _ _ _ (by simp)) Tryz.underlying41 rfl (by kernel_rfl)) rfl ?_
 exact ⟨rfl, (box1 w _).trans (box1 _ _) (fun _ _ h => h)⟩
set_option maxHeartbeats 1000000 in
set_option maxRecDepth 100000 in
theorem unused_3 (cl nu ac rc ve wa ow : Nat) (rs : ByteArray) (xo : Option Addr) (n xc : Nat) (w : World) :
  Calls Tryz.prog 55 #[(RQ.mk cl nu ac 3 rc ve wa ow (.slice xo n xc) rs).v] w fun e w' => e = .returned (RQ.mk cl nu ac 3 0 0 wa ow (.slice xo n xc) rs).v ∧ Fr (fun _ => False) w w' := by
 simp only [RQ.v]
 go_enter Tryz.func55, Tryz.ntmps55
 go_wp2_with fail
 refine bodyPost_ret (results_cell_mid rfl _ _ (w.heap.size + 1) 0 [.int .u32 (cl : Nat), .int .u32 (nu : Nat), .int .u32 (ac : Nat), .int .u8 (3 : Nat), .int .u32 (0 : Nat), .int .u32 (0 : Nat), .int .u32 (wa : Nat), .int .u32 (ow : Nat), .slice xo n xc, .string rs] _ rfl (range_new _ _ _ _ (by simp)) Tryz.underlying41 rfl (by kernel_rfl)) rfl ?_
 exact ⟨rfl, (box1 w _).trans (box1 _ _) (fun _ _ h => h)⟩
set_option maxHeartbeats 1000000 in
set_option maxRecDepth 100000 in
theorem unused_4 (cl nu ac rc ve wa ow : Nat) (rs : ByteArray) (xo : Option Addr) (n xc : Nat) (w : World) :
  Calls Tryz.prog 55 #[(RQ.mk cl nu ac 4 rc ve wa ow (.slice xo n xc) rs).v] w fun e w' => e = .returned (RQ.mk cl nu ac 4 0 0 wa ow (.slice xo n xc) rs).v ∧ Fr (fun _ => False) w w' := by
 simp only [RQ.v]
 go_enter Tryz.func55, Tryz.ntmps55
 go_wp2_with fail
 refine bodyPost_ret (results_cell_mid rfl _ _ (w.heap.size + 1) 0 [.int .u32 (cl : Nat), .int .u32 (nu : Nat), .int .u32 (ac : Nat), .int .u8 (4 : Nat), .int .u32 (0 : Nat), .int .u32 (0 : Nat), .int .u32 (wa : Nat), .int .u32 (ow : Nat), .slice xo n xc, .string rs] _ rfl (range_new _ _ _ _ (by simp)) Tryz.underlying41 rfl (by kernel_rfl)) rfl ?_
 exact ⟨rfl, (box1 w _).trans (box1 _ _) (fun _ _ h => h)⟩
set_option maxHeartbeats 1000000 in
set_option maxRecDepth 100000 in
theorem unused_5 (cl nu ac rc ve wa ow : Nat) (rs : ByteArray) (xo : Option Addr) (n xc : Nat) (w : World) :
  Calls Tryz.prog 55 #[(RQ.mk cl nu ac 5 rc ve wa ow (.slice xo n xc) rs).v] w fun e w' => e = .returned (RQ.mk cl nu ac 5 0 ve wa ow (.slice xo n xc) rs).v ∧ Fr (fun _ => False) w w' := by
 simp only [RQ.v]
 go_enter Tryz.func55, Tryz.ntmps55
 go_wp2_with fail
 refine bodyPost_ret (results_cell_mid rfl _ _ (w.heap.size + 1) 0 [.int .u32 (cl : Nat), .int .u32 (nu : Nat), .int .u32 (ac : Nat), .int .u8 (5 : Nat), .int .u32 (0 : Nat), .int .u32 (ve : Nat), .int .u32 (wa : Nat), .int .u32 (ow : Nat), .slice xo n xc, .string rs] _ rfl (range_new _ _ _ _ (by simp)) Tryz.underlying41 rfl (by kernel_rfl)) rfl ?_
 exact ⟨rfl, (box1 w _).trans (box1 _ _) (fun _ _ h => h)⟩
set_option maxHeartbeats 1000000 in
set_option maxRecDepth 100000 in
theorem unused_6 (cl nu ac rc ve wa ow : Nat) (rs : ByteArray) (xo : Option Addr) (n xc : Nat) (w : World) :
  Calls Tryz.prog 55 #[(RQ.mk cl nu ac 6 rc ve wa ow (.slice xo n xc) rs).v] w fun e w' => e = .returned (RQ.mk cl nu ac 6 0 0 wa ow (.slice xo n xc) rs).v ∧ Fr (fun _ => False) w w' := by
 simp only [RQ.v]
 go_enter Tryz.func55, Tryz.ntmps55
 go_wp2_with fail
 refine bodyPost_ret (results_cell_mid rfl _ _ (w.heap.size + 1) 0 [.int .u32 (cl : Nat), .int .u32 (nu : Nat), .int .u32 (ac : Nat), .int .u8 (6 : Nat), .int .u32 (0 : Nat), .int .u32 (0 : Nat), .int .u32 (wa : Nat), .int .u32 (ow : Nat), .slice xo n xc, .string rs] _ rfl (range_new _ _ _ _ (by simp)) Tryz.underlying41 rfl (by kernel_rfl)) rfl ?_
 exact ⟨rfl, (box1 w _).trans (box1 _ _) (fun _ _ h => h)⟩
set_option maxHeartbeats 1000000 in
set_option maxRecDepth 100000 in
theorem unused_7 (cl nu ac rc ve wa ow : Nat) (rs : ByteArray) (xo : Option Addr) (n xc : Nat) (w : World) :
  Calls Tryz.prog 55 #[(RQ.mk cl nu ac 7 rc ve wa ow (.slice xo n xc) rs).v] w fun e w' => e = .returned (RQ.mk cl nu ac 7 0 ve wa ow (.slice xo n xc) ⟨#[]⟩).v ∧ Fr (fun _ => False) w w' := by
 simp only [RQ.v]
 go_enter Tryz.func55, Tryz.ntmps55
 go_wp2_with fail
 refine bodyPost_ret (results_cell_mid rfl _ _ (w.heap.size + 1) 0 [.int .u32 (cl : Nat), .int .u32 (nu : Nat), .int .u32 (ac : Nat), .int .u8 (7 : Nat), .int .u32 (0 : Nat), .int .u32 (ve : Nat), .int .u32 (wa : Nat), .int .u32 (ow : Nat), .slice xo n xc, .string ⟨#[]⟩] _ rfl (range_new _ _ _ _ (by simp)) Tryz.underlying41 rfl (by kernel_rfl)) rfl ?_
 exact ⟨rfl, (box1 w _).trans (box1 _ _) (fun _ _ h => h)⟩
def RQ.emp (r : RQ) (n : Nat) : Bool := decide (r.rc = 0) && (decide (r.ve = 0) && (decide (r.wa = 0) && (decide (r.ow = 0) && (decide (n = 0) && decide (r.rs.size = 0)))))
set_option maxHeartbeats 4000000 in
set_option maxRecDepth 100000 in
theorem isEmpty_any (cl nu ac op rc ve wa ow : Nat) (rs : ByteArray) (xo : Option Addr) (n xc : Nat) (w : World) :
  Calls Tryz.prog 54 #[(RQ.mk cl nu ac op rc ve wa ow (.slice xo n xc) rs).v] w fun e w' => e = .returned (.bool ((RQ.mk cl nu ac op rc ve wa ow (.slice xo n xc) rs).emp n)) ∧ Fr (fun _ => False) w w' := by
 simp only [RQ.v, RQ.emp]
 by_cases h0 : rc = 0
 rotate_left
 ·have e0 : ((rc : Int) == 0) = false := by rw [beq_eq_false_iff_ne]; omega
  rw [decide_eq_false h0]
  simp only [Bool.false_and]
  go_enter Tryz.func54, Tryz.ntmps54
  go_wp2_with fail
  go_ret
  exact ⟨rfl, box1 w _⟩
 subst h0
 simp only [decide_true, Bool.true_and]
 by_cases h1 : ve = 0
 rotate_left
 ·have e1 : ((ve : Int) == 0) = false := by rw [beq_eq_false_iff_ne]; omega
  rw [decide_eq_false h1]
  simp only [Bool.false_and]
  go_enter Tryz.func54, Tryz.ntmps54
  go_wp2_with fail
  go_ret
  exact ⟨rfl, box1 w _⟩
 subst h1
 simp only [decide_true, Bool.true_and]
 by_cases h2 : wa = 0
 rotate_left
 ·have e2 : ((wa : Int) == 0) = false := by rw [beq_eq_false_iff_ne]; omega
  rw [decide_eq_false h2]
  simp only [Bool.false_and]
  go_enter Tryz.func54, Tryz.ntmps54
  go_wp2_with fail
  go_ret
  exact ⟨rfl, box1 w _⟩
 subst h2
 simp only [decide_true, Bool.true_and]
 by_cases h3 : ow = 0
 rotate_left
 ·have e3 : ((ow : Int) == 0) = false := by rw [beq_eq_false_iff_ne]; omega
  rw [decide_eq_false h3]
  simp only [Bool.false_and]
  go_enter Tryz.func54, Tryz.ntmps54
  go_wp2_with fail
  go_ret
  exact ⟨rfl, box1 w _⟩
 subst h3
 simp only [decide_true, Bool.true_and]
 by_cases h4 : n = 0
 rotate_left
 ·have e4 : ((n : Int) == 0) = false := by rw [beq_eq_false_iff_ne]; omega
  rw [decide_eq_false h4]
  simp only [Bool.false_and]
  go_enter Tryz.func54, Tryz.ntmps54
  go_wp2_with fail
  go_ret
  exact ⟨rfl, box1 w _⟩
 subst h4
 simp only [decide_true, Bool.true_and]
 rw [← emp]
 go_enter Tryz.func54, Tryz.ntmps54
 go_wp2_with fail
 go_ret
 exact ⟨rfl, box1 w _⟩
theorem rbox (w W' : World) (r : RQ) (ty : TypeId) (cs : Array Value) (_hcs : r.v = .agg cs) (hf : Fr (fun _ => False) (w.alloc (.cells cs ty)) W') : W'.heap[w.heap.size]? = some (.cells cs ty) := by
 have h0 : (w.alloc (.cells cs ty)).heap[w.heap.size]? = some (.cells cs ty) := Array.getElem?_push_size
 rw [hf.block _ (lt_of_block h0) (fun h => h)]
 exact h0
set_option maxHeartbeats 2000000 in
set_option maxRecDepth 100000 in
theorem formed_1 (cl nu ac rc ve wa ow : Nat) (rs : ByteArray) (xo : Option Addr) (n xc : Nat) (l : List F5) (w : World) (hx : Fds w (.slice xo n xc) l) (hl : l.length ≤ 140737488355328) (hv : ∀ f ∈ l, f.v < 4294967296 ∧ f.u < 256) :
  Calls Tryz.prog 35 #[(RQ.mk cl nu ac 1 rc ve wa ow (.slice xo n xc) rs).v] w fun e w' => e = .returned (.bool ((RQ.mk cl nu ac 1 rc ve 0 0 (.slice none 0 0) rs).emp 0 && (decide (rs.size ≤ 64) && fdsB l false))) ∧ Fr (fun _ => False) w w' := by
 have HU := hide (fun W' => unused_1 cl nu ac rc ve wa ow rs xo n xc W')
 have HE := hide (fun W' => isEmpty_any cl nu ac 1 rc ve 0 0 rs none 0 0 W')
 have HA : Hid (∀ W', Fr (fun _ => False) w W' → Calls Tryz.prog 56 #[.slice xo n xc, .bool false] W' fun e w' => e = .returned (.bool (fdsB l false)) ∧ Fr (fun _ => False) W' w') := fun W' hf => areFormed_any _ l false W' (hx.fr hf) hl hv
 have HB : Hid (∀ W', Fr (fun _ => False) (w.alloc (.cells #[.int .u32 (cl : Nat), .int .u32 (nu : Nat), .int .u32 (ac : Nat), .int .u8 1, .int .u32 (rc : Nat), .int .u32 (ve : Nat), .int .u32 (wa : Nat), .int .u32 (ow : Nat), .slice xo n xc, .string rs] 41)) W' → W'.cell? ⟨w.heap.size, 3, none⟩ = some (.int .u8 1) ∧ W'.cell? ⟨w.heap.size, 5, none⟩ = some (.int .u32 (ve : Nat)) ∧ W'.cell? ⟨w.heap.size, 8, none⟩ = some (.slice xo n xc) ∧ W'.cell? ⟨w.heap.size, 9, none⟩ = some (.string rs)) := fun W' hf => by
  have hb := rbox w W' (RQ.mk cl nu ac 1 rc ve wa ow (.slice xo n xc) rs) 41 _ rfl hf
  refine ⟨?_, ?_, ?_, ?_⟩ <;> (simp only [World.cell?, hb]; rfl)
 generalize (RQ.mk cl nu ac 1 rc ve 0 0 (.slice none 0 0) rs).emp 0 = E at *
 generalize fdsB l false = A at *
 simp only [RQ.v] at *
 clear hx hl hv
 go_enter Tryz.func35, Tryz.ntmps35
 go_wp2_with fail
 refine ((unhide HU) _).mono ?_
 rintro e w2 ⟨rfl, hf2⟩
 have H2 := hide hf2
 clear hf2
 go_wp2_with fail
 refine ((unhide HE) _).mono ?_
 rintro e w3 ⟨rfl, hf3⟩
 obtain ⟨b3, b5, b8, b9⟩ := (unhide HB) w3 ((unhide H2).trans hf3 (fun _ _ h => h))
 have H3 := hide ((box1 w (.cells #[.int .u32 (cl : Nat), .int .u32 (nu : Nat), .int .u32 (ac : Nat), .int .u8 1, .int .u32 (rc : Nat), .int .u32 (ve : Nat), .int .u32 (wa : Nat), .int .u32 (ow : Nat), .slice xo n xc, .string rs] 41)).trans ((unhide H2).trans hf3 (fun _ _ h => h)) (fun _ _ h => h))
 clear hf3 H2 HU HE HB
 cases E
 ·go_wp2_with fail
  go_ret
  exact ⟨rfl, unhide H3⟩
 ·skip
  rcases Nat.lt_or_ge 64 rs.size with h64 | h64
  ·have q64 : ¬ (rs.size : Int) ≤ 64 := by omega
   have d64 : decide ((rs.size : Int) ≤ 64) = false := decide_eq_false q64
   go_wp2_with fail
   go_ret
   exact ⟨by rw [decide_eq_false (show ¬ rs.size ≤ 64 by omega)]; rfl, unhide H3⟩
  ·have q64 : (rs.size : Int) ≤ 64 := by omega
   go_wp2_with fail
   refine ((unhide HA) _ (unhide H3)).mono ?_
   rintro e w4 ⟨rfl, hf4⟩
   have H4 := hide ((unhide H3).trans hf4 (fun _ _ h => h))
   clear hf4
   go_wp2_with fail
   go_ret
   exact ⟨by rw [decide_eq_true (show rs.size ≤ 64 by omega)]; rfl, unhide H4⟩
set_option maxHeartbeats 2000000 in
set_option maxRecDepth 100000 in
theorem formed_2 (cl nu ac rc ve wa ow : Nat) (rs : ByteArray) (xo : Option Addr) (n xc : Nat) (l : List F5) (w : World) (hx : Fds w (.slice xo n xc) l) (hl : l.length ≤ 140737488355328) (hv : ∀ f ∈ l, f.v < 4294967296 ∧ f.u < 256) :
  Calls Tryz.prog 35 #[(RQ.mk cl nu ac 2 rc ve wa ow (.slice xo n xc) rs).v] w fun e w' => e = .returned (.bool ((RQ.mk cl nu ac 2 0 0 wa ow (.slice none 0 0) rs).emp 0 && (decide (rs.size ≤ 64) && fdsB l true))) ∧ Fr (fun _ => False) w w' := by
 have HU := hide (fun W' => unused_2 cl nu ac rc ve wa ow rs xo n xc W')
 have HE := hide (fun W' => isEmpty_any cl nu ac 2 0 0 wa ow rs none 0 0 W')
 have HA : Hid (∀ W', Fr (fun _ => False) w W' → Calls Tryz.prog 56 #[.slice xo n xc, .bool true] W' fun e w' => e = .returned (.bool (fdsB l true)) ∧ Fr (fun _ => False) W' w') := fun W' hf => areFormed_any _ l true W' (hx.fr hf) hl hv
 have HB : Hid (∀ W', Fr (fun _ => False) (w.alloc (.cells #[.int .u32 (cl : Nat), .int .u32 (nu : Nat), .int .u32 (ac : Nat), .int .u8 2, .int .u32 (rc : Nat), .int .u32 (ve : Nat), .int .u32 (wa : Nat), .int .u32 (ow : Nat), .slice xo n xc, .string rs] 41)) W' → W'.cell? ⟨w.heap.size, 3, none⟩ = some (.int .u8 2) ∧ W'.cell? ⟨w.heap.size, 5, none⟩ = some (.int .u32 (ve : Nat)) ∧ W'.cell? ⟨w.heap.size, 8, none⟩ = some (.slice xo n xc) ∧ W'.cell? ⟨w.heap.size, 9, none⟩ = some (.string rs)) := fun W' hf => by
  have hb := rbox w W' (RQ.mk cl nu ac 2 rc ve wa ow (.slice xo n xc) rs) 41 _ rfl hf
  refine ⟨?_, ?_, ?_, ?_⟩ <;> (simp only [World.cell?, hb]; rfl)
 generalize (RQ.mk cl nu ac 2 0 0 wa ow (.slice none 0 0) rs).emp 0 = E at *
 generalize fdsB l true = A at *
 simp only [RQ.v] at *
 clear hx hl hv
 go_enter Tryz.func35, Tryz.ntmps35
 go_wp2_with fail
 refine ((unhide HU) _).mono ?_
 rintro e w2 ⟨rfl, hf2⟩
 have H2 := hide hf2
 clear hf2
 go_wp2_with fail
 refine ((unhide HE) _).mono ?_
 rintro e w3 ⟨rfl, hf3⟩
 obtain ⟨b3, b5, b8, b9⟩ := (unhide HB) w3 ((unhide H2).trans hf3 (fun _ _ h => h))
 have H3 := hide ((box1 w (.cells #[.int .u32 (cl : Nat), .int .u32 (nu : Nat), .int .u32 (ac : Nat), .int .u8 2, .int .u32 (rc : Nat), .int .u32 (ve : Nat), .int .u32 (wa : Nat), .int .u32 (ow : Nat), .slice xo n xc, .string rs] 41)).trans ((unhide H2).trans hf3 (fun _ _ h => h)) (fun _ _ h => h))
 clear hf3 H2 HU HE HB
 cases E
 ·go_wp2_with fail
  go_ret
  exact ⟨rfl, unhide H3⟩
 ·skip
  rcases Nat.lt_or_ge 64 rs.size with h64 | h64
  ·have q64 : ¬ (rs.size : Int) ≤ 64 := by omega
   have d64 : decide ((rs.size : Int) ≤ 64) = false := decide_eq_false q64
   go_wp2_with fail
   go_ret
   exact ⟨by rw [decide_eq_false (show ¬ rs.size ≤ 64 by omega)]; rfl, unhide H3⟩
  ·have q64 : (rs.size : Int) ≤ 64 := by omega
   go_wp2_with fail
   refine ((unhide HA) _ (unhide H3)).mono ?_
   rintro e w4 ⟨rfl, hf4⟩
   have H4 := hide ((unhide H3).trans hf4 (fun _ _ h => h))
   clear hf4
   go_wp2_with fail
   go_ret
   exact ⟨by rw [decide_eq_true (show rs.size ≤ 64 by omega)]; rfl, unhide H4⟩
set_option maxHeartbeats 2000000 in
set_option maxRecDepth 100000 in
theorem formed_3 (cl nu ac rc ve wa ow : Nat) (rs : ByteArray) (xo : Option Addr) (n xc : Nat) (l : List F5) (w : World) (hx : Fds w (.slice xo n xc) l) (hl : l.length ≤ 140737488355328) (hv : ∀ f ∈ l, f.v < 4294967296 ∧ f.u < 256) :
  Calls Tryz.prog 35 #[(RQ.mk cl nu ac 3 rc ve wa ow (.slice xo n xc) rs).v] w fun e w' => e = .returned (.bool ((RQ.mk cl nu ac 3 0 0 wa ow (.slice xo n xc) rs).emp n && (decide (rs.size ≤ 64) && fdsB l false))) ∧ Fr (fun _ => False) w w' := by
 have HU := hide (fun W' => unused_3 cl nu ac rc ve wa ow rs xo n xc W')
 have HE := hide (fun W' => isEmpty_any cl nu ac 3 0 0 wa ow rs xo n xc W')
 have HA : Hid (∀ W', Fr (fun _ => False) w W' → Calls Tryz.prog 56 #[.slice xo n xc, .bool false] W' fun e w' => e = .returned (.bool (fdsB l false)) ∧ Fr (fun _ => False) W' w') := fun W' hf => areFormed_any _ l false W' (hx.fr hf) hl hv
 have HB : Hid (∀ W', Fr (fun _ => False) (w.alloc (.cells #[.int .u32 (cl : Nat), .int .u32 (nu : Nat), .int .u32 (ac : Nat), .int .u8 3, .int .u32 (rc : Nat), .int .u32 (ve : Nat), .int .u32 (wa : Nat), .int .u32 (ow : Nat), .slice xo n xc, .string rs] 41)) W' → W'.cell? ⟨w.heap.size, 3, none⟩ = some (.int .u8 3) ∧ W'.cell? ⟨w.heap.size, 5, none⟩ = some (.int .u32 (ve : Nat)) ∧ W'.cell? ⟨w.heap.size, 8, none⟩ = some (.slice xo n xc) ∧ W'.cell? ⟨w.heap.size, 9, none⟩ = some (.string rs)) := fun W' hf => by
  have hb := rbox w W' (RQ.mk cl nu ac 3 rc ve wa ow (.slice xo n xc) rs) 41 _ rfl hf
  refine ⟨?_, ?_, ?_, ?_⟩ <;> (simp only [World.cell?, hb]; rfl)
 generalize (RQ.mk cl nu ac 3 0 0 wa ow (.slice xo n xc) rs).emp n = E at *
 generalize fdsB l false = A at *
 simp only [RQ.v] at *
 clear hx hl hv
 go_enter Tryz.func35, Tryz.ntmps35
 go_wp2_with fail
 refine ((unhide HU) _).mono ?_
 rintro e w2 ⟨rfl, hf2⟩
 have H2 := hide hf2
 clear hf2
 go_wp2_with fail
 refine ((unhide HE) _).mono ?_
 rintro e w3 ⟨rfl, hf3⟩
 obtain ⟨b3, b5, b8, b9⟩ := (unhide HB) w3 ((unhide H2).trans hf3 (fun _ _ h => h))
 have H3 := hide ((box1 w (.cells #[.int .u32 (cl : Nat), .int .u32 (nu : Nat), .int .u32 (ac : Nat), .int .u8 3, .int .u32 (rc : Nat), .int .u32 (ve : Nat), .int .u32 (wa : Nat), .int .u32 (ow : Nat), .slice xo n xc, .string rs] 41)).trans ((unhide H2).trans hf3 (fun _ _ h => h)) (fun _ _ h => h))
 clear hf3 H2 HU HE HB
 cases E
 ·go_wp2_with fail
  go_ret
  exact ⟨rfl, unhide H3⟩
 ·skip
  rcases Nat.lt_or_ge 64 rs.size with h64 | h64
  ·have q64 : ¬ (rs.size : Int) ≤ 64 := by omega
   have d64 : decide ((rs.size : Int) ≤ 64) = false := decide_eq_false q64
   go_wp2_with fail
   go_ret
   exact ⟨by rw [decide_eq_false (show ¬ rs.size ≤ 64 by omega)]; rfl, unhide H3⟩
  ·have q64 : (rs.size : Int) ≤ 64 := by omega
   go_wp2_with fail
   refine ((unhide HA) _ (unhide H3)).mono ?_
   rintro e w4 ⟨rfl, hf4⟩
   have H4 := hide ((unhide H3).trans hf4 (fun _ _ h => h))
   clear hf4
   go_wp2_with fail
   go_ret
   exact ⟨by rw [decide_eq_true (show rs.size ≤ 64 by omega)]; rfl, unhide H4⟩
set_option maxHeartbeats 2000000 in
set_option maxRecDepth 100000 in
theorem formed_4 (cl nu ac rc ve wa ow : Nat) (rs : ByteArray) (xo : Option Addr) (n xc : Nat) (l : List F5) (w : World) (hx : Fds w (.slice xo n xc) l) (hl : l.length ≤ 140737488355328) (hv : ∀ f ∈ l, f.v < 4294967296 ∧ f.u < 256) :
  Calls Tryz.prog 35 #[(RQ.mk cl nu ac 4 rc ve wa ow (.slice xo n xc) rs).v] w fun e w' => e = .returned (.bool ((RQ.mk cl nu ac 4 0 0 wa ow (.slice xo n xc) rs).emp n && (decide (rs.size ≤ 64) && fdsB l false))) ∧ Fr (fun _ => False) w w' := by
 have HU := hide (fun W' => unused_4 cl nu ac rc ve wa ow rs xo n xc W')
 have HE := hide (fun W' => isEmpty_any cl nu ac 4 0 0 wa ow rs xo n xc W')
 have HA : Hid (∀ W', Fr (fun _ => False) w W' → Calls Tryz.prog 56 #[.slice xo n xc, .bool false] W' fun e w' => e = .returned (.bool (fdsB l false)) ∧ Fr (fun _ => False) W' w') := fun W' hf => areFormed_any _ l false W' (hx.fr hf) hl hv
 have HB : Hid (∀ W', Fr (fun _ => False) (w.alloc (.cells #[.int .u32 (cl : Nat), .int .u32 (nu : Nat), .int .u32 (ac : Nat), .int .u8 4, .int .u32 (rc : Nat), .int .u32 (ve : Nat), .int .u32 (wa : Nat), .int .u32 (ow : Nat), .slice xo n xc, .string rs] 41)) W' → W'.cell? ⟨w.heap.size, 3, none⟩ = some (.int .u8 4) ∧ W'.cell? ⟨w.heap.size, 5, none⟩ = some (.int .u32 (ve : Nat)) ∧ W'.cell? ⟨w.heap.size, 8, none⟩ = some (.slice xo n xc) ∧ W'.cell? ⟨w.heap.size, 9, none⟩ = some (.string rs)) := fun W' hf => by
  have hb := rbox w W' (RQ.mk cl nu ac 4 rc ve wa ow (.slice xo n xc) rs) 41 _ rfl hf
  refine ⟨?_, ?_, ?_, ?_⟩ <;> (simp only [World.cell?, hb]; rfl)
 generalize (RQ.mk cl nu ac 4 0 0 wa ow (.slice xo n xc) rs).emp n = E at *
 generalize fdsB l false = A at *
 simp only [RQ.v] at *
 clear hx hl hv
 go_enter Tryz.func35, Tryz.ntmps35
 go_wp2_with fail
 refine ((unhide HU) _).mono ?_
 rintro e w2 ⟨rfl, hf2⟩
 have H2 := hide hf2
 clear hf2
 go_wp2_with fail
 refine ((unhide HE) _).mono ?_
 rintro e w3 ⟨rfl, hf3⟩
 obtain ⟨b3, b5, b8, b9⟩ := (unhide HB) w3 ((unhide H2).trans hf3 (fun _ _ h => h))
 have H3 := hide ((box1 w (.cells #[.int .u32 (cl : Nat), .int .u32 (nu : Nat), .int .u32 (ac : Nat), .int .u8 4, .int .u32 (rc : Nat), .int .u32 (ve : Nat), .int .u32 (wa : Nat), .int .u32 (ow : Nat), .slice xo n xc, .string rs] 41)).trans ((unhide H2).trans hf3 (fun _ _ h => h)) (fun _ _ h => h))
 clear hf3 H2 HU HE HB
 cases E
 ·go_wp2_with fail
  go_ret
  exact ⟨rfl, unhide H3⟩
 ·skip
  rcases Nat.lt_or_ge 64 rs.size with h64 | h64
  ·have q64 : ¬ (rs.size : Int) ≤ 64 := by omega
   have d64 : decide ((rs.size : Int) ≤ 64) = false := decide_eq_false q64
   go_wp2_with fail
   go_ret
   exact ⟨by rw [decide_eq_false (show ¬ rs.size ≤ 64 by omega)]; rfl, unhide H3⟩
  ·have q64 : (rs.size : Int) ≤ 64 := by omega
   go_wp2_with fail
   refine ((unhide HA) _ (unhide H3)).mono ?_
   rintro e w4 ⟨rfl, hf4⟩
   have H4 := hide ((unhide H3).trans hf4 (fun _ _ h => h))
   clear hf4
   go_wp2_with fail
   go_ret
   exact ⟨by rw [decide_eq_true (show rs.size ≤ 64 by omega)]; rfl, unhide H4⟩
set_option maxHeartbeats 2000000 in
set_option maxRecDepth 100000 in
theorem formed_5 (cl nu ac rc ve wa ow : Nat) (rs : ByteArray) (xo : Option Addr) (n xc : Nat) (l : List F5) (w : World) (hx : Fds w (.slice xo n xc) l) (hl : l.length ≤ 140737488355328) (hv : ∀ f ∈ l, f.v < 4294967296 ∧ f.u < 256) :
  Calls Tryz.prog 35 #[(RQ.mk cl nu ac 5 rc ve wa ow (.slice xo n xc) rs).v] w fun e w' => e = .returned (.bool ((RQ.mk cl nu ac 5 0 ve wa ow (.slice xo n xc) rs).emp n && (decide (rs.size ≤ 64) && fdsB l false))) ∧ Fr (fun _ => False) w w' := by
 have HU := hide (fun W' => unused_5 cl nu ac rc ve wa ow rs xo n xc W')
 have HE := hide (fun W' => isEmpty_any cl nu ac 5 0 ve wa ow rs xo n xc W')
 have HA : Hid (∀ W', Fr (fun _ => False) w W' → Calls Tryz.prog 56 #[.slice xo n xc, .bool false] W' fun e w' => e = .returned (.bool (fdsB l false)) ∧ Fr (fun _ => False) W' w') := fun W' hf => areFormed_any _ l false W' (hx.fr hf) hl hv
 have HB : Hid (∀ W', Fr (fun _ => False) (w.alloc (.cells #[.int .u32 (cl : Nat), .int .u32 (nu : Nat), .int .u32 (ac : Nat), .int .u8 5, .int .u32 (rc : Nat), .int .u32 (ve : Nat), .int .u32 (wa : Nat), .int .u32 (ow : Nat), .slice xo n xc, .string rs] 41)) W' → W'.cell? ⟨w.heap.size, 3, none⟩ = some (.int .u8 5) ∧ W'.cell? ⟨w.heap.size, 5, none⟩ = some (.int .u32 (ve : Nat)) ∧ W'.cell? ⟨w.heap.size, 8, none⟩ = some (.slice xo n xc) ∧ W'.cell? ⟨w.heap.size, 9, none⟩ = some (.string rs)) := fun W' hf => by
  have hb := rbox w W' (RQ.mk cl nu ac 5 rc ve wa ow (.slice xo n xc) rs) 41 _ rfl hf
  refine ⟨?_, ?_, ?_, ?_⟩ <;> (simp only [World.cell?, hb]; rfl)
 generalize (RQ.mk cl nu ac 5 0 ve wa ow (.slice xo n xc) rs).emp n = E at *
 generalize fdsB l false = A at *
 simp only [RQ.v] at *
 clear hx hl hv
 go_enter Tryz.func35, Tryz.ntmps35
 go_wp2_with fail
 refine ((unhide HU) _).mono ?_
 rintro e w2 ⟨rfl, hf2⟩
 have H2 := hide hf2
 clear hf2
 go_wp2_with fail
 refine ((unhide HE) _).mono ?_
 rintro e w3 ⟨rfl, hf3⟩
 obtain ⟨b3, b5, b8, b9⟩ := (unhide HB) w3 ((unhide H2).trans hf3 (fun _ _ h => h))
 have H3 := hide ((box1 w (.cells #[.int .u32 (cl : Nat), .int .u32 (nu : Nat), .int .u32 (ac : Nat), .int .u8 5, .int .u32 (rc : Nat), .int .u32 (ve : Nat), .int .u32 (wa : Nat), .int .u32 (ow : Nat), .slice xo n xc, .string rs] 41)).trans ((unhide H2).trans hf3 (fun _ _ h => h)) (fun _ _ h => h))
 clear hf3 H2 HU HE HB
 cases E
 ·go_wp2_with fail
  go_ret
  exact ⟨rfl, unhide H3⟩
 ·skip
  rcases Nat.lt_or_ge 64 rs.size with h64 | h64
  ·have q64 : ¬ (rs.size : Int) ≤ 64 := by omega
   have d64 : decide ((rs.size : Int) ≤ 64) = false := decide_eq_false q64
   go_wp2_with fail
   go_ret
   exact ⟨by rw [decide_eq_false (show ¬ rs.size ≤ 64 by omega)]; rfl, unhide H3⟩
  ·have q64 : (rs.size : Int) ≤ 64 := by omega
   go_wp2_with fail
   refine ((unhide HA) _ (unhide H3)).mono ?_
   rintro e w4 ⟨rfl, hf4⟩
   have H4 := hide ((unhide H3).trans hf4 (fun _ _ h => h))
   clear hf4
   go_wp2_with fail
   go_ret
   exact ⟨by rw [decide_eq_true (show rs.size ≤ 64 by omega)]; rfl, unhide H4⟩
set_option maxHeartbeats 2000000 in
set_option maxRecDepth 100000 in
theorem formed_6 (cl nu ac rc ve wa ow : Nat) (rs : ByteArray) (xo : Option Addr) (n xc : Nat) (l : List F5) (w : World) (hx : Fds w (.slice xo n xc) l) (hl : l.length ≤ 140737488355328) (hv : ∀ f ∈ l, f.v < 4294967296 ∧ f.u < 256) :
  Calls Tryz.prog 35 #[(RQ.mk cl nu ac 6 rc ve wa ow (.slice xo n xc) rs).v] w fun e w' => e = .returned (.bool ((RQ.mk cl nu ac 6 0 0 wa ow (.slice xo n xc) rs).emp n && (decide (ve ≤ 1) && decide (rs.size ≤ 64) && fdsB l false))) ∧ Fr (fun _ => False) w w' := by
 have HU := hide (fun W' => unused_6 cl nu ac rc ve wa ow rs xo n xc W')
 have HE := hide (fun W' => isEmpty_any cl nu ac 6 0 0 wa ow rs xo n xc W')
 have HA : Hid (∀ W', Fr (fun _ => False) w W' → Calls Tryz.prog 56 #[.slice xo n xc, .bool false] W' fun e w' => e = .returned (.bool (fdsB l false)) ∧ Fr (fun _ => False) W' w') := fun W' hf => areFormed_any _ l false W' (hx.fr hf) hl hv
 have HB : Hid (∀ W', Fr (fun _ => False) (w.alloc (.cells #[.int .u32 (cl : Nat), .int .u32 (nu : Nat), .int .u32 (ac : Nat), .int .u8 6, .int .u32 (rc : Nat), .int .u32 (ve : Nat), .int .u32 (wa : Nat), .int .u32 (ow : Nat), .slice xo n xc, .string rs] 41)) W' → W'.cell? ⟨w.heap.size, 3, none⟩ = some (.int .u8 6) ∧ W'.cell? ⟨w.heap.size, 5, none⟩ = some (.int .u32 (ve : Nat)) ∧ W'.cell? ⟨w.heap.size, 8, none⟩ = some (.slice xo n xc) ∧ W'.cell? ⟨w.heap.size, 9, none⟩ = some (.string rs)) := fun W' hf => by
  have hb := rbox w W' (RQ.mk cl nu ac 6 rc ve wa ow (.slice xo n xc) rs) 41 _ rfl hf
  refine ⟨?_, ?_, ?_, ?_⟩ <;> (simp only [World.cell?, hb]; rfl)
 generalize (RQ.mk cl nu ac 6 0 0 wa ow (.slice xo n xc) rs).emp n = E at *
 generalize fdsB l false = A at *
 simp only [RQ.v] at *
 clear hx hl hv
 go_enter Tryz.func35, Tryz.ntmps35
 go_wp2_with fail
 refine ((unhide HU) _).mono ?_
 rintro e w2 ⟨rfl, hf2⟩
 have H2 := hide hf2
 clear hf2
 go_wp2_with fail
 refine ((unhide HE) _).mono ?_
 rintro e w3 ⟨rfl, hf3⟩
 obtain ⟨b3, b5, b8, b9⟩ := (unhide HB) w3 ((unhide H2).trans hf3 (fun _ _ h => h))
 have H3 := hide ((box1 w (.cells #[.int .u32 (cl : Nat), .int .u32 (nu : Nat), .int .u32 (ac : Nat), .int .u8 6, .int .u32 (rc : Nat), .int .u32 (ve : Nat), .int .u32 (wa : Nat), .int .u32 (ow : Nat), .slice xo n xc, .string rs] 41)).trans ((unhide H2).trans hf3 (fun _ _ h => h)) (fun _ _ h => h))
 clear hf3 H2 HU HE HB
 cases E
 ·go_wp2_with fail
  go_ret
  exact ⟨rfl, unhide H3⟩
 ·rcases Nat.lt_or_ge 1 ve with hve | hve
  ·have qv : (1 : Int) < (ve : Int) := by omega
   have dv : decide (ve ≤ 1) = false := decide_eq_false (by omega)
   go_wp2_with fail
   go_ret
   exact ⟨by rw [dv]; rfl, unhide H3⟩
  ·have qv : ¬ (1 : Int) < (ve : Int) := by omega
   have dvv : decide ((1 : Int) < (ve : Int)) = false := decide_eq_false qv
   rcases Nat.lt_or_ge 64 rs.size with h64 | h64
   ·have q64 : ¬ (rs.size : Int) ≤ 64 := by omega
    have d64 : decide ((rs.size : Int) ≤ 64) = false := decide_eq_false q64
    go_wp2_with fail
    go_ret
    exact ⟨by rw [decide_eq_true hve, decide_eq_false (show ¬ rs.size ≤ 64 by omega)]; rfl, unhide H3⟩
   ·have q64 : (rs.size : Int) ≤ 64 := by omega
    go_wp2_with fail
    refine ((unhide HA) _ (unhide H3)).mono ?_
    rintro e w4 ⟨rfl, hf4⟩
    have H4 := hide ((unhide H3).trans hf4 (fun _ _ h => h))
    clear hf4
    go_wp2_with fail
    go_ret
    exact ⟨by rw [decide_eq_true hve, decide_eq_true (show rs.size ≤ 64 by omega)]; rfl, unhide H4⟩
set_option maxHeartbeats 2000000 in
set_option maxRecDepth 100000 in
theorem formed_7 (cl nu ac rc ve wa ow : Nat) (rs : ByteArray) (xo : Option Addr) (n xc : Nat) (l : List F5) (w : World) (hx : Fds w (.slice xo n xc) l) (hl : l.length ≤ 140737488355328) (hv : ∀ f ∈ l, f.v < 4294967296 ∧ f.u < 256) :
  Calls Tryz.prog 35 #[(RQ.mk cl nu ac 7 rc ve wa ow (.slice xo n xc) rs).v] w fun e w' => e = .returned (.bool ((RQ.mk cl nu ac 7 0 ve wa ow (.slice xo n xc) ⟨#[]⟩).emp n && (decide (rs.size ≤ 64) && fdsB l false))) ∧ Fr (fun _ => False) w w' := by
 have HU := hide (fun W' => unused_7 cl nu ac rc ve wa ow rs xo n xc W')
 have HE := hide (fun W' => isEmpty_any cl nu ac 7 0 ve wa ow ⟨#[]⟩ xo n xc W')
 have HA : Hid (∀ W', Fr (fun _ => False) w W' → Calls Tryz.prog 56 #[.slice xo n xc, .bool false] W' fun e w' => e = .returned (.bool (fdsB l false)) ∧ Fr (fun _ => False) W' w') := fun W' hf => areFormed_any _ l false W' (hx.fr hf) hl hv
 have HB : Hid (∀ W', Fr (fun _ => False) (w.alloc (.cells #[.int .u32 (cl : Nat), .int .u32 (nu : Nat), .int .u32 (ac : Nat), .int .u8 7, .int .u32 (rc : Nat), .int .u32 (ve : Nat), .int .u32 (wa : Nat), .int .u32 (ow : Nat), .slice xo n xc, .string rs] 41)) W' → W'.cell? ⟨w.heap.size, 3, none⟩ = some (.int .u8 7) ∧ W'.cell? ⟨w.heap.size, 5, none⟩ = some (.int .u32 (ve : Nat)) ∧ W'.cell? ⟨w.heap.size, 8, none⟩ = some (.slice xo n xc) ∧ W'.cell? ⟨w.heap.size, 9, none⟩ = some (.string rs)) := fun W' hf => by
  have hb := rbox w W' (RQ.mk cl nu ac 7 rc ve wa ow (.slice xo n xc) rs) 41 _ rfl hf
  refine ⟨?_, ?_, ?_, ?_⟩ <;> (simp only [World.cell?, hb]; rfl)
 generalize (RQ.mk cl nu ac 7 0 ve wa ow (.slice xo n xc) ⟨#[]⟩).emp n = E at *
 generalize fdsB l false = A at *
 simp only [RQ.v] at *
 clear hx hl hv
 go_enter Tryz.func35, Tryz.ntmps35
 go_wp2_with fail
 refine ((unhide HU) _).mono ?_
 rintro e w2 ⟨rfl, hf2⟩
 have H2 := hide hf2
 clear hf2
 go_wp2_with fail
 refine ((unhide HE) _).mono ?_
 rintro e w3 ⟨rfl, hf3⟩
 obtain ⟨b3, b5, b8, b9⟩ := (unhide HB) w3 ((unhide H2).trans hf3 (fun _ _ h => h))
 have H3 := hide ((box1 w (.cells #[.int .u32 (cl : Nat), .int .u32 (nu : Nat), .int .u32 (ac : Nat), .int .u8 7, .int .u32 (rc : Nat), .int .u32 (ve : Nat), .int .u32 (wa : Nat), .int .u32 (ow : Nat), .slice xo n xc, .string rs] 41)).trans ((unhide H2).trans hf3 (fun _ _ h => h)) (fun _ _ h => h))
 clear hf3 H2 HU HE HB
 cases E
 ·go_wp2_with fail
  go_ret
  exact ⟨rfl, unhide H3⟩
 ·skip
  rcases Nat.lt_or_ge 64 rs.size with h64 | h64
  ·have q64 : ¬ (rs.size : Int) ≤ 64 := by omega
   have d64 : decide ((rs.size : Int) ≤ 64) = false := decide_eq_false q64
   go_wp2_with fail
   go_ret
   exact ⟨by rw [decide_eq_false (show ¬ rs.size ≤ 64 by omega)]; rfl, unhide H3⟩
  ·have q64 : (rs.size : Int) ≤ 64 := by omega
   go_wp2_with fail
   refine ((unhide HA) _ (unhide H3)).mono ?_
   rintro e w4 ⟨rfl, hf4⟩
   have H4 := hide ((unhide H3).trans hf4 (fun _ _ h => h))
   clear hf4
   go_wp2_with fail
   go_ret
   exact ⟨by rw [decide_eq_true (show rs.size ≤ 64 by omega)]; rfl, unhide H4⟩
end Go.Proofs.YthpoligdgbmnkaaGreatDoor
namespace Go.Proofs.YthpoligdgbmnkaaGreatDoor
open Go.RowKit Go.Shelf
def laysC_ren : Go.Shelf.Ren := ⟨fun | 316 => 122 | n => n, fun | 9 => 9 | 3 => 3 | 4 => 4 | 37 => 165 | 0 => 0 | 127 => 166 | 5 => 5 | n => n, fun n => n⟩
theorem laysC : Go.Proofs.LaysM.n316 Tryz.prog laysC_ren where
 mixed := by kernel_rfl
 f316 := Tryz.func122.trans (congrArg some (by kernel_rfl))
 t0 := Tryz.underlying0
 a0 := Tryz.isAgg0
 z0 := Tryz.sizeOf0
 v0 := Tryz.zeroValue0
 t3 := Tryz.underlying3
 a3 := Tryz.isAgg3
 z3 := Tryz.sizeOf3
 v3 := Tryz.zeroValue3
 t4 := Tryz.underlying4
 a4 := Tryz.isAgg4
 z4 := Tryz.sizeOf4
 v4 := Tryz.zeroValue4
 t9 := Tryz.underlying9
 a9 := Tryz.isAgg9
 z9 := Tryz.sizeOf9
 v9 := Tryz.zeroValue9
 t37 := Tryz.underlying165
 a37 := Tryz.isAgg165
 z37 := Tryz.sizeOf165
 v37 := Tryz.zeroValue165
 t127 := Tryz.underlying166
 a127 := Tryz.isAgg166
 z127 := Tryz.sizeOf166
 v127 := Tryz.zeroValue166
 t5 := Tryz.underlying5
 a5 := Tryz.isAgg5
 z5 := Tryz.sizeOf5
 v5 := Tryz.zeroValue5
 i0 := by kernel_rfl
 i3 := by kernel_rfl
 i4 := by kernel_rfl
 i5 := by kernel_rfl
 i9 := by kernel_rfl
 i37 := by kernel_rfl
 i127 := by kernel_rfl
theorem Fr.of_below {w w' : World} (h : Below w.heap.size w w') : Fr (fun _ => False) w w' := ⟨h.os, h.tape, h.output, h.size, fun k hk _ => h.block k hk⟩
set_option maxRecDepth 100000 in
theorem sclone_any (s : ByteArray) (w : World) (hs : s.size ≤ 281474976710656) :
  Calls Tryz.prog 104 #[.string s] w fun e w' => e = .returned (.string s) ∧ Fr (fun _ => False) w w' := by
 have H := hide (Any.stringslite_Clone laysC s w hs)
 go_enter Tryz.func104, Tryz.ntmps104
 go_wp2_with (go_at_call 122; refine (unhide H).mono ?_; rintro e w' ⟨rfl, hb⟩)
 have HB := hide (Fr.of_below hb)
 clear hb
 go_wp2_with fail
 go_ret
 exact ⟨rfl, unhide HB⟩
theorem set_same {w : World} {b i : Nat} {cs : Array Value} {t : TypeId} {v : Value} (h : w.heap[b]? = some (.cells cs t)) (hv : cs[i]? = some v) : (w.setCell ⟨b, i, none⟩ v).heap[b]? = some (.cells cs t) := by
 have e : cs.setIfInBounds i v = cs := by
  apply Array.ext_getElem?
  intro j
  rw [Array.getElem?_setIfInBounds]
  by_cases hj : i = j
  ·subst hj
   rw [if_pos rfl, hv]
   have := (Array.getElem?_eq_some_iff.1 hv).1
   simp [this]
  ·rw [if_neg hj]
 simp only [World.setCell, Array.getElem?_modify, if_true, h, Option.map_some]
 simp [e]
structure FB (w W : World) (b : Nat) (f : F5) : Prop where
 blk : W.heap[b]? = some (.cells f.cs 55)
 fr : Fr (fun _ => False) w W
 nw : w.heap.size ≤ b
theorem FB.step {w W W' : World} {b : Nat} {f : F5} (h : FB w W b f) (hf : Fr (fun _ => False) W W') : FB w W' b f :=
 ⟨(hf.block b (lt_of_block h.blk) (fun h => h)).trans h.blk, h.fr.trans hf (fun _ _ h => h), h.nw⟩
theorem FB.cells {w W : World} {b : Nat} {f : F5} (h : FB w W b f) : W.cell? ⟨b, 0, none⟩ = some (.string f.n) ∧ W.cell? ⟨b, 1, none⟩ = some (.int .u8 (f.k : Nat)) ∧ W.cell? ⟨b, 2, none⟩ = some (.string f.t) ∧ W.cell? ⟨b, 3, none⟩ = some (.float .f32 f.v) ∧ W.cell? ⟨b, 4, none⟩ = some (.int .u8 (f.u : Nat)) ∧ ∀ i, W.frozen? ⟨b, i, none⟩ = false := by
 refine ⟨?_, ?_, ?_, ?_, ?_, fun i => ?_⟩ <;> simp [World.cell?, World.frozen?, h.blk, F5.cs]
theorem FB.set0 {w W : World} {b : Nat} {f : F5} (h : FB w W b f) : FB w (W.setCell ⟨b, 0, none⟩ (.string f.n)) b f :=
 ⟨set_same h.blk rfl, h.fr.setCell (.inr h.nw) _, h.nw⟩
theorem FB.set2 {w W : World} {b : Nat} {f : F5} (h : FB w W b f) : FB w (W.setCell ⟨b, 2, none⟩ (.string f.t)) b f :=
 ⟨set_same h.blk rfl, h.fr.setCell (.inr h.nw) _, h.nw⟩
theorem FB.so {w W : World} {b : Nat} {f : F5} (h : FB w W b f) : W.cell? ⟨b, 0, none⟩ = some (.string f.n) ∧ W.cell? ⟨b, 2, none⟩ = some (.string f.t) ∧ W.frozen? ⟨b, 0, none⟩ = false ∧ W.frozen? ⟨b, 2, none⟩ = false ∧ FB w W b f :=
 ⟨h.cells.1, h.cells.2.2.1, h.cells.2.2.2.2.2 0, h.cells.2.2.2.2.2 2, h⟩
def fld0 : F5 := ⟨⟨#[]⟩, 0, ⟨#[]⟩, 0, 0⟩
theorem FB.other {w W : World} {b i : Nat} {f : F5} (h : FB w W b f) {c : Nat} (hc : c ≠ b) (hn : w.heap.size ≤ c) (v : Value) : FB w (W.setCell ⟨c, i, none⟩ v) b f :=
 ⟨by rw [← h.blk]; exact Below.heap_setCell _ _ _ _ (fun e => hc e.symm), h.fr.setCell (.inr hn) _, h.nw⟩
set_option maxHeartbeats 2000000 in
set_option maxRecDepth 100000 in
theorem ownCopy_any (f : F5) (w : World) (hn : f.n.size ≤ 281474976710656) (ht : f.t.size ≤ 281474976710656) :
  Calls Tryz.prog 93 #[f.val] w fun e w' => e = .returned f.val ∧ Fr (fun _ => False) w w' := by
 have HN := hide (fun W => sclone_any f.n W hn)
 have HT := hide (fun W => sclone_any f.t W ht)
 obtain ⟨W1, hW1⟩ : ∃ W1, W1 = (w.alloc (.cells f.cs 55)).alloc (.cells #[.string ⟨#[]⟩, .int .u8 0, .string ⟨#[]⟩, .float .f32 0, .int .u8 0] 55) := ⟨_, rfl⟩
 have h1 : FB w W1 w.heap.size f := by
  have h0 : FB w (w.alloc (.cells f.cs 55)) w.heap.size f := ⟨Array.getElem?_push_size, box1 w _, Nat.le_refl _⟩
  rw [hW1]
  exact h0.step (box1 _ _)
 have h1' : FB w W1 (w.heap.size + 1) fld0 := by
  have e : (w.alloc (.cells f.cs 55)).heap.size = w.heap.size + 1 := by simp
  rw [hW1, ← e]
  exact ⟨Array.getElem?_push_size, (box1 w _).trans (box1 _ _) (fun _ _ h => h), by rw [e]; omega⟩
 have H1 := hide h1
 have K1 := hide h1'
 clear h1 h1' hn ht
 simp only [F5.val, F5.cs] at *
 go_enter Tryz.func93, Tryz.ntmps93
 go_wp2_with fail
 rw [← hW1]
 clear hW1
 go_region_held3 (fun w' => w'.cell? ⟨w.heap.size, 0, none⟩ = some (.string f.n) ∧ w'.cell? ⟨w.heap.size, 2, none⟩ = some (.string f.t) ∧ w'.frozen? ⟨w.heap.size, 0, none⟩ = false ∧ w'.frozen? ⟨w.heap.size, 2, none⟩ = false ∧ FB w w' w.heap.size f)
  (first | exact ((unhide H1).step (Fr.refl _ _).drew).so | exact (unhide H2).so | exact (unhide H3).so | exact (unhide H3).set0.so | exact (unhide H3).set2.so | exact (unhide H3).set0.set2.so | exact (unhide H3).set2.set0.so)
  (first
   | (go_at_call 104; refine ((unhide HN) _).mono ?_; rintro e w2 ⟨rfl, hf2⟩; have H2 := hide (((unhide H1).step (Fr.refl _ _).drew).step hf2); have K2 := hide (((unhide K1).step (Fr.refl _ _).drew).step hf2); clear hf2)
   | (go_at_call 104; refine ((unhide HT) _).mono ?_; rintro e w3 ⟨rfl, hf3⟩; have H3 := hide ((unhide H2).step hf3); have K3 := hide ((unhide K2).step hf3); clear hf3))
 have h4 := (unhide H3).set0.set2
 have k4 : FB w ((w3.setCell ⟨w.heap.size, 0, none⟩ (.string f.n)).setCell ⟨w.heap.size, 2, none⟩ (.string f.t)) (w.heap.size + 1) fld0 := ((unhide K3).other (by omega) (Nat.le_refl _) _).other (by omega) (Nat.le_refl _) _
 generalize (w3.setCell ⟨w.heap.size, 0, none⟩ (.string f.n)).setCell ⟨w.heap.size, 2, none⟩ (.string f.t) = W4 at h4 k4 ⊢
 obtain ⟨c0, c1, c2, c3, c4, cz⟩ := h4.cells
 obtain ⟨e0, e1, e2, e3, e4, ez⟩ := k4.cells
 have HF := hide h4.fr
 have z0 := ez 0
 have z1 := ez 1
 have z2 := ez 2
 have z3 := ez 3
 have z4 := ez 4
 clear h4 k4 cz ez H1 K1 H2 K2 H3 K3 HN HT
 go_wp2_with fail
 (try simp only [Exit.inBlock, Exit.then])
 refine bodyPost_ret (results_cell_mid rfl _ _ (w.heap.size + 1) 0 [.string f.n, .int .u8 (f.k : Nat), .string f.t, .float .f32 f.v, .int .u8 (f.u : Nat)] _ rfl ?_ Tryz.underlying55 rfl (by kernel_rfl)) rfl ?_
 ·intro j v hv
  rcases j with _ | _ | _ | _ | _ | j
  ·simp at hv; subst hv; go_simp
  ·simp at hv; subst hv; go_simp
  ·simp at hv; subst hv; go_simp
  ·simp at hv; subst hv; go_simp
  ·simp at hv; subst hv; go_simp
  ·simp at hv
 ·exact ⟨rfl, (((((unhide HF).setCell (.inr (by simp)) _).setCell (.inr (by simp)) _).setCell (.inr (by simp)) _).setCell (.inr (by simp)) _).setCell (.inr (by simp)) _⟩
end Go.Proofs.YthpoligdgbmnkaaGreatDoor
namespace Go.Proofs.YthpoligdgbmnkaaGreatDoor
open Go.RowKit
theorem ownsRow_of_block {w w' : World} {base e size n : Nat} {v : Value} {xs : List Value} (h : w.ownsRow base e size v n xs) (hb : ∀ g, v.ownBlock = some g → w'.heap[g]? = w.heap[g]?) : w'.ownsRow base e size v n xs := by
 refine ⟨h.1, ?_⟩
 rcases h.2 with h0 | ⟨g, cap, cur, e1, e2, e3, e4⟩
 ·exact .inl h0
 ·exact .inr ⟨g, cap, cur, e1, e2, (hb g (by rw [e1]; rfl)).trans e3, e4⟩
theorem wpList_app {P : Program} {w w' : World} {ops : Array Oper} {rest : List Oper} {o : Oper} {a : Act} {Q : Exit → Act → World → Prop} (hgd : o.guard = none) (s x : Operand) (t u : TypeId)
  (ho : o.op = .call { callee := .builtin .append, args := #[s, x], argTypes := #[t, u] }) (vs vx v' : Value) (hs : a.eval s = vs) (hx : a.eval x = vx) (hr : (Builtin.append_ #[t, u] o.type #[vs, vx]).run P w = .ok v' w')
  (h : wpList P ops Q rest (a.put o.dst v') w') : wpList P ops Q (o :: rest) a w := by
 refine wpList_plain hgd fun K hK => ?_
 unfold Oper.wp execOp
 simp only [ho, resolve, invoke, builtin, Sem.run_bind, Sem.run_pure, Result.andThen_ok, List.map_toArray, List.map_cons, List.map_nil, hs, hx, hr]
 exact hK _ _ h
theorem ownsRow_base {w : World} {base base' e size n : Nat} {v : Value} {xs : List Value} (h : w.ownsRow base e size v n xs) (hb : base' ≤ base) : w.ownsRow base' e size v n xs := by
 refine ⟨h.1, ?_⟩
 rcases h.2 with h | ⟨g, c, cur, e1, e2, e3⟩
 ·exact .inl h
 ·exact .inr ⟨g, c, cur, e1, Nat.le_trans hb e2, e3⟩
theorem addr_add (g o j : Nat) : (⟨g, o, none⟩ : Addr).add j = ⟨g, o + j, none⟩ := by unfold Addr.add; split <;> simp_all
theorem Fr.absorb {S : Nat → Prop} {w a b : World} (h : Fr (fun _ => False) w a) (k : Fr S a b) (hS : ∀ i, S i → w.heap.size ≤ i) : Fr (fun _ => False) w b :=
 h.trans k (fun i hi hs => by have := hS i hs; omega)
theorem own_formX {w : World} {base e size n : Nat} {v : Value} {xs : List Value} (h : w.ownsRow base e size v n xs) : ∃ ao cap, v = .slice ao n cap := by
 rcases h.2 with ⟨rfl, rfl⟩ | ⟨g, cap, cur, rfl, _⟩
 ·exact ⟨none, 0, rfl⟩
 ·exact ⟨some ⟨g, 0, none⟩, cap, rfl⟩
def fcells (l : List F5) : List Value := l.flatMap fun f => [.string f.n, .int .u8 (f.k : Nat), .string f.t, .float .f32 f.v, .int .u8 (f.u : Nat)]
theorem fcells_app (a : List F5) (f : F5) : fcells (a ++ [f]) = fcells a ++ [.string f.n, .int .u8 (f.k : Nat), .string f.t, .float .f32 f.v, .int .u8 (f.u : Nat)] := by simp [fcells]
theorem fcells_len (l : List F5) : (fcells l).length = l.length * 5 := by
 induction l with
 | nil => rfl
 | cons f r ih =>
  have e : fcells (f :: r) = [.string f.n, .int .u8 (f.k : Nat), .string f.t, .float .f32 f.v, .int .u8 (f.u : Nat)] ++ fcells r := by simp [fcells]
  rw [e, List.length_append, ih]
  simp only [List.length_cons, List.length_nil]
  omega
theorem fcells_at : ∀ (l : List F5) (k : Nat) (h : k < l.length), (fcells l)[k * 5]? = some (.string l[k].n) ∧ (fcells l)[k * 5 + 1]? = some (.int .u8 (l[k].k : Nat)) ∧ (fcells l)[k * 5 + 2]? = some (.string l[k].t) ∧ (fcells l)[k * 5 + 3]? = some (.float .f32 l[k].v) ∧ (fcells l)[k * 5 + 4]? = some (.int .u8 (l[k].u : Nat))
 | [], k, h => by simp at h
 | f :: r, 0, _ => by simp [fcells]
 | f :: r, k + 1, h => by
  have ih := fcells_at r k (by simpa using h)
  have e : fcells (f :: r) = [.string f.n, .int .u8 (f.k : Nat), .string f.t, .float .f32 f.v, .int .u8 (f.u : Nat)] ++ fcells r := by simp [fcells]
  have hl : ([Value.string f.n, .int .u8 (f.k : Nat), .string f.t, .float .f32 f.v, .int .u8 (f.u : Nat)]).length = 5 := rfl
  rw [e]
  refine ⟨?_, ?_, ?_, ?_, ?_⟩
  ·rw [List.getElem?_append_right (by rw [hl]; omega), hl, show (k + 1) * 5 - 5 = k * 5 by omega]; exact ih.1
  ·rw [List.getElem?_append_right (by rw [hl]; omega), hl, show (k + 1) * 5 + 1 - 5 = k * 5 + 1 by omega]; exact ih.2.1
  ·rw [List.getElem?_append_right (by rw [hl]; omega), hl, show (k + 1) * 5 + 2 - 5 = k * 5 + 2 by omega]; exact ih.2.2.1
  ·rw [List.getElem?_append_right (by rw [hl]; omega), hl, show (k + 1) * 5 + 3 - 5 = k * 5 + 3 by omega]; exact ih.2.2.2.1
  ·rw [List.getElem?_append_right (by rw [hl]; omega), hl, show (k + 1) * 5 + 4 - 5 = k * 5 + 4 by omega]; exact ih.2.2.2.2
def OwF (w : World) (base : Nat) (v : Value) (l : List F5) : Prop := w.ownsRow base 55 5 v l.length (fcells l)
theorem OwF.fds {w : World} {base : Nat} {v : Value} {l : List F5} (h : OwF w base v l) : Fds w v l := by
 rcases Nat.eq_zero_or_pos l.length with h0 | h0
 ·obtain rfl := List.length_eq_zero_iff.1 h0
  obtain ⟨ao, cap, rfl⟩ := own_formX h
  exact .inl ⟨ao, cap, rfl, rfl⟩
 ·obtain ⟨g, cap, rfl, _, _⟩ := h.form h0
  refine .inr ⟨g, 0, cap, rfl, fun j hj => ?_⟩
  obtain ⟨e0, e1, e2, e3, e4⟩ := fcells_at l j hj
  have hc : ∀ i u, (fcells l)[i]? = some u → w.cell? ⟨g, 0 + i, none⟩ = some u := fun i u hu => by
   rw [Nat.zero_add]
   have hi : i < (fcells l).length := (List.getElem?_eq_some_iff.1 hu).1
   rw [fcells_len] at hi
   rw [h.cellAt i (by omega)]
   exact hu
  exact ⟨hc _ _ e0, by rw [Nat.add_assoc]; exact hc _ _ e1, by rw [Nat.add_assoc]; exact hc _ _ e2, by rw [Nat.add_assoc]; exact hc _ _ e3, by rw [Nat.add_assoc]; exact hc _ _ e4⟩
theorem OwF.fr {w w' : World} {base : Nat} {v : Value} {l : List F5} {S : Nat → Prop} (h : OwF w base v l) (hf : Fr S w w') (hS : ∀ g, v.ownBlock = some g → ¬ S g) : OwF w' base v l :=
 ownsRow_of_block h (fun g hg => hf.block g (h.lt g hg).2 (hS g hg))
theorem Tryz.infoFl : (Tryz.prog.info? 55).map (fun i => (i.zero, i.size, i.bytes)) = some (some (.agg #[.string ⟨#[]⟩, .int .u8 0, .string ⟨#[]⟩, .float .f32 0, .int .u8 0]), 5, 48) := by kernel_rfl
theorem app_fld (w : World) (base : Nat) (v : Value) (l : List F5) (f : F5) (h : OwF w base v l) (hb : base ≤ w.heap.size) (hl : l.length ≤ 1000000000) :
  ∃ ao cap w', (Builtin.append_ #[39, 39] 39 #[v, .slice (some ⟨w.heap.size, 0, none⟩) 1 1]).run Tryz.prog (w.alloc (.cells #[.string f.n, .int .u8 (f.k : Nat), .string f.t, .float .f32 f.v, .int .u8 (f.u : Nat)] 55)) = .ok (.slice ao (l.length + 1) cap) w' ∧ OwF w' base (.slice ao (l.length + 1) cap) (l ++ [f]) ∧ Fr (fun g => v.ownBlock = some g) w w' ∧
   ∀ g, (Value.slice ao (l.length + 1) cap).ownBlock = some g → v.ownBlock = some g ∨ w.heap.size ≤ g := by
 obtain ⟨i0, hi, hz0, hz1, hz2⟩ := info_parts Tryz.infoFl
 have hb' := ownsRow_of_block (w' := w.alloc (.cells #[.string f.n, .int .u8 (f.k : Nat), .string f.t, .float .f32 f.v, .int .u8 (f.u : Nat)] 55)) h (fun g hg => Below.heap_alloc _ _ _ (h.lt g hg).2)
 obtain ⟨v', w', hr, h2, h3, _, h5⟩ := run_append_own_at (P := Tryz.prog) (w := w.alloc (.cells #[.string f.n, .int .u8 (f.k : Nat), .string f.t, .float .f32 f.v, .int .u8 (f.u : Nat)] 55)) base 39 39 55 i0 (.agg #[.string ⟨#[]⟩, .int .u8 0, .string ⟨#[]⟩, .float .f32 0, .int .u8 0]) 5 48 Tryz.underlying39 hi hz0 hz1 hz2 rfl (by decide) v l.length (fcells l) hb' ⟨w.heap.size, 0, none⟩ 1 1 [.string f.n, .int .u8 (f.k : Nat), .string f.t, .float .f32 f.v, .int .u8 (f.u : Nat)] rfl (fun j u hu => by
  rw [addr_add, World.cell?_alloc_at _ _ _ _ rfl]; simpa using hu) (fun u hu => by simp at hu; rcases hu with rfl | rfl | rfl | rfl | rfl <;> rfl) (by simp only [maxLen]; omega) (by omega) (by simp; omega)
 obtain ⟨ao, cap, rfl⟩ := own_formX h2
 refine ⟨ao, cap, w', hr, by unfold OwF; rw [fcells_app, List.length_append, List.length_singleton]; exact h2, ((box1 w _).mono (fun _ _ h => h.elim)).grown h3 (fun g hg => .inl hg), fun g hg => ?_⟩
 rcases h5 with e | e
 ·rw [e] at hg; exact .inl hg
 ·rw [e] at hg; cases hg; exact .inr (by simp)
theorem make_fld (x : Nat) (w : World) (hx : x ≤ 3000000) : ∃ w', (Instr.makeSlice 39 (.int .i64 0) (.int .i64 (x : Int))).run Tryz.prog w = .ok (.slice (some ⟨w.heap.size, 0, none⟩) 0 x) w' ∧ OwF w' w.heap.size (.slice (some ⟨w.heap.size, 0, none⟩) 0 x) [] ∧ Fr (fun _ => False) w w' := by
 obtain ⟨i, hi, hz, hs, hb⟩ := info_parts Tryz.infoFl
 obtain ⟨w', hr, ho, hg⟩ := run_makeSlice_owned (P := Tryz.prog) w w.heap.size 39 55 i (.agg #[.string ⟨#[]⟩, .int .u8 0, .string ⟨#[]⟩, .float .f32 0, .int .u8 0]) 5 Tryz.underlying39 hi hz hs .i64 .i64 x (by omega) (by rw [hb]; omega) (by simp only [maxLen]; omega) (Nat.le_refl _)
 exact ⟨w', hr, ho, (Fr.refl _ _).grown hg (fun _ h => by cases h)⟩
end Go.Proofs.YthpoligdgbmnkaaGreatDoor
namespace Go.Proofs.YthpoligdgbmnkaaGreatDoor
open Go.RowKit Go.Shelf
def FOk (f : F5) : Prop := f.n.size ≤ 281474976710656 ∧ f.t.size ≤ 281474976710656
set_option maxHeartbeats 4000000 in
set_option maxRecDepth 100000 in
theorem ownCopies_any (x : Value) (l : List F5) (w : World) (hx : Fds w x l) (hl : l.length ≤ 1000) (hs : ∀ f ∈ l, FOk f) :
  Calls Tryz.prog 71 #[x] w fun e w' => ∃ v, e = .returned v ∧ OwF w' w.heap.size v l ∧ Fr (fun _ => False) w w' := by
 obtain ⟨xo, xc, rfl⟩ := hx.form
 have HX := hide hx
 clear hx
 obtain ⟨w1, hr1, ho1, hf1⟩ := make_fld l.length w (by omega)
 have H1 := hide (And.intro ho1 hf1)
 clear ho1 hf1
 go_enter Tryz.func71, Tryz.ntmps71
 go_wp2_with fail
 go_loopw [3, 11] (fun ov iv wr => ∃ j : Nat, j ≤ l.length ∧ iv = .int .i64 (j : Nat) ∧ OwF wr w.heap.size ov (l.take j) ∧ Fr (fun _ => False) w wr) (fun _ iv _ => l.length - (intOf iv).toNat)
 case atStart => exact ⟨0, Nat.zero_le _, rfl, by simpa using (unhide H1).1, (unhide H1).2⟩
 case round =>
  obtain ⟨j, hj, rfl, hO, hf⟩ := hrel
  by_cases hlt : j < l.length
  ·obtain ⟨g, o, rfl, c0, c1, c2, c3, c4⟩ := ((unhide HX).fr hf).at_ j hlt
   have hfo := hs l[j] (List.getElem_mem hlt)
   have htk : l.take (j + 1) = l.take j ++ [l[j]] := List.take_succ_eq_append_getElem hlt
   generalize l[j] = f at c0 c1 c2 c3 c4 hfo htk
   have hlen : (l.take j).length = j := by rw [List.length_take]; omega
   obtain ⟨oo, oc, hov⟩ := own_formX hO
   rw [hlen] at hov
   subst hov
   have hi1 : (j : Int) < (l.length : Int) := by omega
   have hgl : g < wr.heap.size := lt_of_cell c0
   have HC := hide (fun W => ownCopy_any f W hfo.1 hfo.2)
   simp only [F5.val, F5.cs] at HC
   have HR := hide (And.intro hO (And.intro hf htk))
   clear hO hf htk
   go_wp2_with fail
   refine ((unhide HC) _).mono ?_
   rintro e w2 ⟨rfl, hf2⟩
   have hF2 := (unhide HR).2.1.trans ((box1 wr _).trans hf2 (fun _ _ h => h)) (fun _ _ h => h)
   have hO2 := (unhide HR).1.fr ((box1 wr _).trans hf2 (fun _ _ h => h)) (fun _ _ h => h)
   obtain ⟨ao, cap, w3, hr3, ho3, hf3, hb3⟩ := app_fld w2 w.heap.size (.slice oo j oc) (l.take j) f hO2 hF2.size (by omega)
   rw [hlen] at hr3 ho3 hb3
   have HR3 := hide hr3
   have H3 := hide (And.intro ho3 (hF2.absorb hf3 (fun k hk => (hO2.lt k hk).1)))
   clear hf2 hF2 hO2 hr3 ho3 hf3 hb3
   go_wp2_with (at_builtin; refine wpList_app rfl _ _ 39 39 rfl _ _ _ rfl rfl (unhide HR3) ?_; clear HR3)
   refine ⟨⟨j + 1, by omega, by go_num, ?_, (unhide H3).2⟩, by simp [intOf]; omega⟩
   rw [(unhide HR).2.2]
   exact (unhide H3).1
  ·have hjl : j = l.length := by omega
   subst hjl
   rw [List.take_length] at hO
   have HR := hide (And.intro hO hf)
   clear hO hf
   go_wp2_with fail
   go_ret
   exact ⟨_, rfl, (unhide HR).1, (unhide HR).2⟩
theorem Fds.frS {w w' : World} {x : Value} {l : List F5} {S : Nat → Prop} (h : Fds w x l) (hf : Fr S w w') (hS : ∀ g o n c, x = .slice (some ⟨g, o, none⟩) n c → 0 < n → ¬ S g) : Fds w' x l := by
 rcases h with h | ⟨g, o, c, h1, h2⟩
 ·exact .inl h
 ·refine .inr ⟨g, o, c, h1, fun j hj => ?_⟩
  obtain ⟨c0, c1, c2, c3, c4⟩ := h2 j hj
  have hg : g < w.heap.size := lt_of_cell c0
  have hn := hS g o _ c h1 (by omega)
  exact ⟨(hf.cell (p := ⟨g, _, none⟩) hg hn).trans c0, (hf.cell (p := ⟨g, _, none⟩) hg hn).trans c1, (hf.cell (p := ⟨g, _, none⟩) hg hn).trans c2, (hf.cell (p := ⟨g, _, none⟩) hg hn).trans c3, (hf.cell (p := ⟨g, _, none⟩) hg hn).trans c4⟩
def keptF (l : List F5) : List F5 := l.filter fun f => decide (f.k ≠ 3)
set_option maxHeartbeats 4000000 in
set_option maxRecDepth 100000 in
theorem appendKept_any (ov x : Value) (a l : List F5) (base : Nat) (w : World) (ho : OwF w base ov a) (hb : base ≤ w.heap.size) (hx : Fds w x l) (hxb : ∀ g o n c, x = .slice (some ⟨g, o, none⟩) n c → 0 < n → g < base) (hl : a.length + l.length ≤ 1000) (hs : ∀ f ∈ l, FOk f) :
  Calls Tryz.prog 94 #[ov, x] w fun e w' => ∃ v, e = .returned v ∧ OwF w' base v (a ++ keptF l) ∧ Fr (fun k => base ≤ k) w w' := by
 obtain ⟨xo, xc, rfl⟩ := hx.form
 obtain ⟨oo0, oc0, rfl⟩ := own_formX ho
 have HX := hide (And.intro hx hxb)
 have HO := hide (And.intro ho hb)
 clear hx hxb ho hb
 go_enter Tryz.func94, Tryz.ntmps94
 go_wp2_with fail
 go_loopw [0, 9] (fun ov iv wr => ∃ j : Nat, j ≤ l.length ∧ iv = .int .i64 (j : Nat) ∧ OwF wr base ov (a ++ keptF (l.take j)) ∧ Fr (fun k => base ≤ k) w wr) (fun _ iv _ => l.length - (intOf iv).toNat)
 case atStart => exact ⟨0, Nat.zero_le _, rfl, by simpa [keptF] using (unhide HO).1, Fr.refl _ _⟩
 case round =>
  obtain ⟨j, hj, rfl, hO, hf⟩ := hrel
  by_cases hlt : j < l.length
  ·obtain ⟨g, o, rfl, c0, c1, c2, c3, c4⟩ := ((unhide HX).1.frS hf (fun g o n c e h0 => by have := (unhide HX).2 g o n c e h0; omega)).at_ j hlt
   have hfo := hs l[j] (List.getElem_mem hlt)
   have htk : l.take (j + 1) = l.take j ++ [l[j]] := List.take_succ_eq_append_getElem hlt
   generalize l[j] = f at c0 c1 c2 c3 c4 hfo htk
   have hlen : (a ++ keptF (l.take j)).length ≤ 1000 := by
    have h1 := List.length_filter_le (fun f : F5 => decide (f.k ≠ 3)) (l.take j)
    rw [List.length_take] at h1
    rw [List.length_append]
    unfold keptF
    omega
   obtain ⟨oo, oc, hov⟩ := own_formX hO
   subst hov
   have hi1 : (j : Int) < (l.length : Int) := by omega
   have hgl : g < wr.heap.size := lt_of_cell c0
   by_cases hk3 : f.k = 3
   ·have hkk : keptF (l.take (j + 1)) = keptF (l.take j) := by rw [htk]; simp [keptF, hk3]
    have b3 : ((f.k : Int) != 3) = false := by rw [hk3]; rfl
    have HR := hide (And.intro hO (And.intro hf hkk))
    clear hO hf htk hkk
    go_wp2_with fail
    refine ⟨⟨j + 1, by omega, by go_num, ?_, (unhide HR).2.1.trans ((box1 wr _).mono (fun _ _ h => h.elim)) (fun _ _ h => h)⟩, by simp [intOf]; omega⟩
    rw [(unhide HR).2.2]
    exact (unhide HR).1.fr (box1 wr _) (fun _ _ h => h)
   ·have hkk : a ++ keptF (l.take (j + 1)) = (a ++ keptF (l.take j)) ++ [f] := by rw [htk]; simp [keptF, hk3]
    have b3 : ((f.k : Int) != 3) = true := by rw [bne_iff_ne]; omega
    have HC := hide (fun W => ownCopy_any f W hfo.1 hfo.2)
    simp only [F5.val, F5.cs] at HC
    have HR := hide (And.intro hO (And.intro hf hkk))
    generalize a ++ keptF (l.take j) = A at hlen HR hO ⊢
    clear hO hf htk hkk
    go_wp2_with fail
    refine ((unhide HC) _).mono ?_
    rintro e w2 ⟨rfl, hf2⟩
    have hF2 := (unhide HR).2.1.trans (((box1 wr _).trans hf2 (fun _ _ h => h)).mono (fun _ _ h => h.elim)) (fun _ _ h => h)
    have hO2 := (unhide HR).1.fr ((box1 wr _).trans hf2 (fun _ _ h => h)) (fun _ _ h => h)
    obtain ⟨ao, cap, w3, hr3, ho3, hf3, hb3⟩ := app_fld w2 base (.slice oo A.length oc) A f hO2 (Nat.le_trans (unhide HO).2 hF2.size) (by omega)
    have HR3 := hide hr3
    have H3 := hide (And.intro ho3 (hF2.trans (hf3.mono (fun k _ hk => (hO2.lt k hk).1)) (fun _ _ h => h)))
    clear hf2 hF2 hO2 hr3 ho3 hf3 hb3
    go_wp2_with (at_builtin; refine wpList_app rfl _ _ 39 39 rfl _ _ _ rfl rfl (unhide HR3) ?_; clear HR3)
    refine ⟨⟨j + 1, by omega, by go_num, ?_, (unhide H3).2⟩, by simp [intOf]; omega⟩
    rw [(unhide HR).2.2]
    exact (unhide H3).1
  ·have hjl : j = l.length := by omega
   subst hjl
   rw [List.take_length] at hO
   have HR := hide (And.intro hO hf)
   clear hO hf
   go_wp2_with fail
   go_ret
   exact ⟨_, rfl, (unhide HR).1, (unhide HR).2⟩
theorem Tryz.neqS (v a : ByteArray) (w : World) : (binOp .neq 9 (.string v) (.string a)).run Tryz.prog w = .ok (.bool (!(v.toList == a.toList))) w := by simp [binOp, Op.stringOp]
theorem Tryz.eqlS (v a : ByteArray) (w : World) : (binOp .eql 9 (.string v) (.string a)).run Tryz.prog w = .ok (.bool (v.toList == a.toList)) w := by simp [binOp, Op.stringOp]
theorem Tryz.minS (v a : ByteArray) (w : World) (x : Array TypeId) (ty : TypeId) : (Builtin.min_ x ty #[.string v, .string a]).run Tryz.prog w = .ok (.string (if sleB v a then v else a)) w := by
 show (Builtin.min2 (.string v) (.string a) >>= pure).run _ w = _
 unfold Builtin.min2
 simp [Op.stringOp, sleB, asBool]
def mrg : Nat → List F5 → List F5 → List F5
 | n + 1, f :: r, c :: s => if sleB f.n c.n then (if f.n.toList == c.n.toList then keptF [c] ++ mrg n r s else f :: mrg n r (c :: s)) else keptF [c] ++ mrg n (f :: r) s
 | _, l, m => l ++ keptF m
theorem mrg_l (n : Nat) (m : List F5) : mrg n [] m = keptF m := by cases n <;> rfl
theorem mrg_r (n : Nat) (l : List F5) : mrg n l [] = l := by
 cases n with
 | zero => simp [mrg, keptF]
 | succ n => cases l <;> simp [mrg, keptF]
structure FdC (w : World) (base : Nat) (x : Value) (l : List F5) : Prop where
 f : Fds w x l
 b : ∀ g o n c, x = .slice (some ⟨g, o, none⟩) n c → 0 < n → g < base
 c : ∀ xo n c, x = .slice xo n c → n ≤ c
 z : ∀ n c, x = .slice none n c → c = 0
theorem FdC.frS {w w' : World} {base : Nat} {x : Value} {l : List F5} (h : FdC w base x l) (hf : Fr (fun k => base ≤ k) w w') : FdC w' base x l :=
 ⟨h.f.frS hf (fun g o n c e h0 => by have := h.b g o n c e h0; omega), h.b, h.c, h.z⟩
theorem FdC.head {w : World} {base : Nat} {x : Value} {f : F5} {r : List F5} (h : FdC w base x (f :: r)) : ∃ g o c, x = .slice (some ⟨g, o, none⟩) (r.length + 1) c ∧ r.length + 1 ≤ c ∧ g < base ∧ w.cell? ⟨g, o, none⟩ = some (.string f.n) ∧ w.cell? ⟨g, o + 1, none⟩ = some (.int .u8 (f.k : Nat)) ∧ w.cell? ⟨g, o + 2, none⟩ = some (.string f.t) ∧ w.cell? ⟨g, o + 3, none⟩ = some (.float .f32 f.v) ∧ w.cell? ⟨g, o + 4, none⟩ = some (.int .u8 (f.u : Nat)) ∧ FdC w base (.slice (some ⟨g, o, none⟩) 1 c) [f] ∧ FdC w base (.slice (some ⟨g, o + 5, none⟩) r.length (c - 1)) r := by
 obtain ⟨xo, xc, e⟩ := h.f.form
 rw [List.length_cons] at e
 subst e
 obtain ⟨g, o, rfl, c0, c1, c2, c3, c4⟩ := h.f.at_ 0 (by simp)
 simp only [Nat.zero_mul, Nat.add_zero, List.getElem_cons_zero] at c0 c1 c2 c3 c4
 have hg := h.b g o _ xc rfl (by omega)
 have hc := h.c _ _ _ rfl
 refine ⟨g, o, xc, rfl, hc, hg, c0, c1, c2, c3, c4, ⟨.inr ⟨g, o, xc, rfl, fun j hj => ?_⟩, fun g' o' n c e _ => by cases e; exact hg, fun xo n c e => by cases e; omega, fun n c e => by cases e⟩, ⟨.inr ⟨g, o + 5, xc - 1, rfl, fun j hj => ?_⟩, fun g' o' n c e _ => by cases e; exact hg, fun xo n c e => by cases e; omega, fun n c e => by cases e⟩⟩
 ·obtain rfl : j = 0 := by simp at hj; omega
  simp only [Nat.zero_mul, Nat.add_zero, List.getElem_cons_zero]
  exact ⟨c0, c1, c2, c3, c4⟩
 ·obtain ⟨g', o', e, d0, d1, d2, d3, d4⟩ := h.f.at_ (j + 1) (by simp; omega)
  simp only [Option.some.injEq, Addr.mk.injEq, and_true] at e
  obtain ⟨rfl, rfl⟩ := e
  simp only [List.getElem_cons_succ] at d0 d1 d2 d3 d4
  rw [show o + 5 + j * 5 = o + (j + 1) * 5 by omega]
  exact ⟨d0, d1, d2, d3, d4⟩
theorem FdC.nilS {w : World} {base : Nat} (a : Addr) (c : Nat) : FdC w base (.slice (some a) 0 c) [] :=
 ⟨.inl ⟨some a, c, rfl, rfl⟩, fun g o n c e h => by cases e; omega, fun xo n c e => by cases e; omega, fun n c e => by cases e⟩
theorem fcells_one (l : List F5) : ∀ u ∈ fcells l, u.oneCell' = true := by
 intro u hu
 simp only [fcells, List.mem_flatMap] at hu
 obtain ⟨f, _, hu⟩ := hu
 simp at hu
 rcases hu with rfl | rfl | rfl | rfl | rfl <;> rfl
theorem fcells_cat (a b : List F5) : fcells (a ++ b) = fcells a ++ fcells b := by simp [fcells]
theorem Fds.cellsX {w : World} {g o n c : Nat} {l : List F5} (h : Fds w (.slice (some ⟨g, o, none⟩) n c) l) : ∀ i u, (fcells l)[i]? = some u → w.cell? ⟨g, o + i, none⟩ = some u := by
 intro i u hu
 have hi : i < (fcells l).length := (List.getElem?_eq_some_iff.1 hu).1
 rw [fcells_len] at hi
 have hj : i / 5 < l.length := by omega
 obtain ⟨g', o', e, d0, d1, d2, d3, d4⟩ := h.at_ (i / 5) hj
 simp only [Option.some.injEq, Addr.mk.injEq, and_true] at e
 obtain ⟨rfl, rfl⟩ := e
 obtain ⟨e0, e1, e2, e3, e4⟩ := fcells_at l (i / 5) hj
 have hm : i % 5 = 0 ∨ i % 5 = 1 ∨ i % 5 = 2 ∨ i % 5 = 3 ∨ i % 5 = 4 := by omega
 rcases hm with hm | hm | hm | hm | hm
 ·have ei : i = i / 5 * 5 := by omega
  rw [ei, e0] at hu; cases hu
  rw [show o + i = o + i / 5 * 5 by omega]; exact d0
 ·have ei : i = i / 5 * 5 + 1 := by omega
  rw [ei, e1] at hu; cases hu
  rw [show o + i = o + i / 5 * 5 + 1 by omega]; exact d1
 ·have ei : i = i / 5 * 5 + 2 := by omega
  rw [ei, e2] at hu; cases hu
  rw [show o + i = o + i / 5 * 5 + 2 by omega]; exact d2
 ·have ei : i = i / 5 * 5 + 3 := by omega
  rw [ei, e3] at hu; cases hu
  rw [show o + i = o + i / 5 * 5 + 3 by omega]; exact d3
 ·have ei : i = i / 5 * 5 + 4 := by omega
  rw [ei, e4] at hu; cases hu
  rw [show o + i = o + i / 5 * 5 + 4 by omega]; exact d4
theorem app_flds (w : World) (base : Nat) (v x : Value) (A l : List F5) (ho : OwF w base v A) (hb : base ≤ w.heap.size) (hx : FdC w base x l) (hl : A.length + l.length ≤ 1000000) :
  ∃ ao cap w', (Builtin.append_ #[39, 39] 39 #[v, x]).run Tryz.prog w = .ok (.slice ao (A.length + l.length) cap) w' ∧ OwF w' base (.slice ao (A.length + l.length) cap) (A ++ l) ∧ Fr (fun g => v.ownBlock = some g) w w' := by
 obtain ⟨i0, hi, hz0, hz1, hz2⟩ := info_parts Tryz.infoFl
 obtain ⟨xo, xc, rfl⟩ := hx.f.form
 cases xo with
 | none =>
  have h0 : l.length = 0 := by
   have h1 := hx.c _ _ _ rfl
   have h2 := hx.z _ _ rfl
   omega
  obtain rfl := List.length_eq_zero_iff.1 h0
  obtain rfl := hx.z _ _ rfl
  have hr := run_append_owned_none (P := Tryz.prog) w base 39 39 55 i0 5 Tryz.underlying39 hi v A.length (fcells A) ho
  obtain ⟨ao, cap, rfl⟩ := own_formX ho
  exact ⟨ao, cap, w, by simpa using hr, by simpa using ho, Fr.refl _ _⟩
 | some a =>
  have hcs : ∀ j u, (fcells l)[j]? = some u → w.cell? (a.add j) = some u := by
   rcases Nat.eq_zero_or_pos l.length with h0 | h0
   ·obtain rfl := List.length_eq_zero_iff.1 h0
    intro j u hu
    simp [fcells] at hu
   ·obtain ⟨g, o, e, _⟩ := hx.f.at_ 0 h0
    cases e
    intro j u hu
    rw [addr_add]
    exact hx.f.cellsX j u hu
  obtain ⟨v', w', hr, h2, h3, _, h5⟩ := run_append_own_at (P := Tryz.prog) w base 39 39 55 i0 (.agg #[.string ⟨#[]⟩, .int .u8 0, .string ⟨#[]⟩, .float .f32 0, .int .u8 0]) 5 48 Tryz.underlying39 hi hz0 hz1 hz2 rfl (by decide) v A.length (fcells A) ho a l.length xc (fcells l) (by rw [fcells_len]) hcs (fcells_one l) (by simp only [maxLen]; omega) (by omega) hb
  obtain ⟨ao, cap, rfl⟩ := own_formX h2
  exact ⟨ao, cap, w', hr, by unfold OwF; rw [fcells_cat, List.length_append]; exact h2, (Fr.refl _ _).grown h3 (fun g hg => .inl hg)⟩
theorem step_app {P : Program} {w w' : World} {ops : Array Oper} {o : Oper} {a : Act} {K : Act → World → Prop} {Q : Exit → Act → World → Prop} {E : Prop} (hgd : o.guard = none) (s x : Operand) (t u : TypeId)
  (ho : o.op = .call { callee := .builtin .append, args := #[s, x], argTypes := #[t, u] }) (vs vx v' : Value) (hs : a.eval s = vs) (hx : a.eval x = vx) (hr : (Builtin.append_ #[t, u] o.type #[vs, vx]).run P w = .ok v' w')
  (h : K (a.put o.dst v') w') : if Region.wanted o (yielded ops a.tmps) = true then Oper.wp P o a w K Q else E := by
 have hw : Region.wanted o (yielded ops a.tmps) = true := by simp [Region.wanted, hgd]
 rw [if_pos hw]
 unfold Oper.wp execOp
 simp only [ho, resolve, invoke, builtin, Sem.run_bind, Sem.run_pure, Result.andThen_ok, List.map_toArray, List.map_cons, List.map_nil, hs, hx, hr]
 exact h
def lenOf : Value → Nat
 | .slice _ n _ => n
 | _ => 0
structure MI (w wr : World) (av bv ov : Value) (fs cs A : List F5) : Prop where
 a : FdC wr w.heap.size av fs
 b : FdC wr w.heap.size bv cs
 o : OwF wr w.heap.size ov A
 f : Fr (fun k => w.heap.size ≤ k) w wr
set_option maxHeartbeats 8000000 in
set_option maxRecDepth 100000 in
theorem merged_any (fv cv : Value) (F C : List F5) (w : World) (hF : FdC w w.heap.size fv F) (hC : FdC w w.heap.size cv C) (hl : F.length + C.length ≤ 400) (hs : ∀ f ∈ C, FOk f) :
  Calls Tryz.prog 75 #[fv, cv] w fun e w' => ∃ v, e = .returned v ∧ OwF w' w.heap.size v (mrg (F.length + C.length) F C) ∧ Fr (fun _ => False) w w' := by
 obtain ⟨fo, fc, rfl⟩ := hF.f.form
 obtain ⟨co, cc, rfl⟩ := hC.f.form
 have hmx : max (F.length : Int) (C.length : Int) = ((max F.length C.length : Nat) : Int) := by omega
 obtain ⟨w1, hr1, ho1, hf1⟩ := make_fld (max F.length C.length) w (by omega)
 rw [← hmx] at hr1
 obtain ⟨M, hM⟩ : ∃ M, M = mrg (F.length + C.length) F C := ⟨_, rfl⟩
 rw [← hM]
 have hf1' : Fr (fun k => w.heap.size ≤ k) w w1 := hf1.mono (fun _ _ h => h.elim)
 have H1 := hide (And.intro (MI.mk (w := w) (hF.frS hf1') (hC.frS hf1') ho1 hf1') (And.intro hM hs))
 have hneq := Tryz.neqS
 have heql := Tryz.eqlS
 have hminS := Tryz.minS
 clear ho1 hf1 hf1' hF hC hmx hM hs
 go_enter Tryz.func75, Tryz.ntmps75
 go_wp2_with fail
 go_loopw [0, 1, 5] (fun av bv ov wr => ∃ (n : Nat) (fs cs A : List F5), fs.length + cs.length ≤ n ∧ n + A.length ≤ 400 ∧ MI w wr av bv ov fs cs A ∧ A ++ mrg n fs cs = M ∧ (∀ f ∈ cs, FOk f)) (fun av bv _ _ => lenOf av + lenOf bv)
 case atStart => exact ⟨F.length + C.length, F, C, [], Nat.le_refl _, by simpa using hl, (unhide H1).1, by rw [(unhide H1).2.1]; rfl, (unhide H1).2.2⟩
 case round =>
  obtain ⟨n, fs, cs, A, hn, hnA, hI, hM, hfo⟩ := hrel
  clear H1 hr1
  cases fs with
  | nil =>
   obtain ⟨xo, xc, hxe⟩ := hI.a.f.form
   obtain ⟨yo, yc, hye⟩ := hI.b.f.form
   obtain ⟨oo, oc, hoe⟩ := own_formX hI.o
   subst hxe hye hoe
   obtain ⟨ao, cap, w3, hr3, ho3, hf3⟩ := app_flds wr w.heap.size _ _ A [] hI.o hI.f.size hI.a (by simp at hn ⊢; omega)
   have hf3B : Fr (fun k => w.heap.size ≤ k) wr w3 := hf3.mono (fun g _ hg => (hI.o.lt g hg).1)
   have HK := hide (appendKept_any _ _ (A ++ []) cs w.heap.size w3 ho3 (Nat.le_trans hI.f.size hf3B.size) (hI.b.frS hf3B).f hI.b.b (by rw [List.length_append]; simp at hn ⊢; omega) hfo)
   have HE := hide (And.intro (show A ++ [] ++ keptF cs = M by rw [← hM, mrg_l]; simp) (hI.f.trans hf3B (fun _ _ h => h)))
   have HR3 := hide hr3
   have hmin0 : ¬ (0 : Int) < min (([] : List F5).length : Int) (cs.length : Int) := by simp; omega
   clear hI hr3 ho3 hf3 hf3B hM
   go_wp2_with (at_builtin; refine wpList_app rfl _ _ 39 39 rfl _ _ _ rfl rfl (unhide HR3) ?_; clear HR3)
   refine (unhide HK).mono ?_
   rintro e w4 ⟨v4, rfl, ho4, hf4⟩
   have H4 := hide (And.intro ho4 ((unhide HE).2.trans hf4 (fun _ _ h => h)))
   clear ho4 hf4 HK
   go_wp2_with fail
   go_ret
   refine ⟨v4, rfl, ?_, (unhide H4).2.mono (fun k hk h => by omega)⟩
   rw [← (unhide HE).1]
   exact (unhide H4).1
  | cons f fr =>
   cases cs with
   | nil =>
    obtain ⟨xo, xc, hxe⟩ := hI.a.f.form
    obtain ⟨yo, yc, hye⟩ := hI.b.f.form
    obtain ⟨oo, oc, hoe⟩ := own_formX hI.o
    subst hxe hye hoe
    obtain ⟨ao, cap, w3, hr3, ho3, hf3⟩ := app_flds wr w.heap.size _ _ A (f :: fr) hI.o hI.f.size hI.a (by simp at hn ⊢; omega)
    have hf3B : Fr (fun k => w.heap.size ≤ k) wr w3 := hf3.mono (fun g _ hg => (hI.o.lt g hg).1)
    have HK := hide (appendKept_any _ _ (A ++ (f :: fr)) [] w.heap.size w3 ho3 (Nat.le_trans hI.f.size hf3B.size) (hI.b.frS hf3B).f hI.b.b (by rw [List.length_append]; simp at hn ⊢; omega) hfo)
    have HE := hide (And.intro (show A ++ (f :: fr) ++ keptF [] = M by rw [← hM, mrg_r]; simp [keptF]) (hI.f.trans hf3B (fun _ _ h => h)))
    have HR3 := hide hr3
    have hmin0 : ¬ (0 : Int) < min ((f :: fr).length : Int) (([] : List F5).length : Int) := by simp; omega
    clear hI hr3 ho3 hf3 hf3B hM
    go_wp2_with (at_builtin; refine wpList_app rfl _ _ 39 39 rfl _ _ _ rfl rfl (unhide HR3) ?_; clear HR3)
    refine (unhide HK).mono ?_
    rintro e w4 ⟨v4, rfl, ho4, hf4⟩
    have H4 := hide (And.intro ho4 ((unhide HE).2.trans hf4 (fun _ _ h => h)))
    clear ho4 hf4 HK
    go_wp2_with fail
    go_ret
    refine ⟨v4, rfl, ?_, (unhide H4).2.mono (fun k hk h => by omega)⟩
    rw [← (unhide HE).1]
    exact (unhide H4).1
   | cons c cr =>
    obtain ⟨m, rfl⟩ : ∃ m, n = m + 1 := ⟨n - 1, by simp at hn; omega⟩
    obtain ⟨fg, fo', fc', rfl, hfc, hfg, f0, f1, f2, f3, f4, hfh, hft⟩ := hI.a.head
    obtain ⟨cg, co', cc', rfl, hcc, hcg, c0, c1, c2, c3, c4, hch, hct⟩ := hI.b.head
    obtain ⟨oo, oc, rfl⟩ := own_formX hI.o
    have hmin : (0 : Int) < min ((fr.length : Int) + 1) ((cr.length : Int) + 1) := by omega
    have hfcI : (1 : Int) ≤ (fc' : Int) := by omega
    have hccI : (1 : Int) ≤ (cc' : Int) := by omega
    cases hle : sleB f.n c.n with
    | false =>
     have hmn : (if sleB f.n c.n = true then f.n else c.n) = c.n := by rw [hle]; rfl
     have hcf : (c.n.toList == f.n.toList) = false := by
      have h1 : (f.n.toList == c.n.toList) = false := by
       unfold sleB at hle
       rw [Bool.or_eq_false_iff] at hle
       exact hle.2
      rw [beq_eq_false_iff_ne] at h1 ⊢
      exact fun e => h1 e.symm
     have HA : Hid (∀ W, Fr (fun _ => False) wr W → Calls Tryz.prog 94 #[.slice oo A.length oc, .slice (some ⟨cg, co', none⟩) 1 cc'] W fun e w' => ∃ v, e = .returned v ∧ OwF w' w.heap.size v (A ++ keptF [c]) ∧ Fr (fun k => w.heap.size ≤ k) wr w') := fun W hf => by
      have hfB : Fr (fun k => w.heap.size ≤ k) wr W := hf.mono (fun _ _ h => h.elim)
      refine (appendKept_any (.slice oo A.length oc) (.slice (some ⟨cg, co', none⟩) 1 cc') A [c] w.heap.size W (hI.o.fr hf (fun _ _ h => h)) (hI.f.trans hfB (fun _ _ h => h)).size (hch.frS hfB).f hch.b (by simp; omega) (fun x hx => hfo x (by simp at hx; subst hx; simp))).mono ?_
      rintro e w' ⟨v, rfl, h1, h2⟩
      exact ⟨v, rfl, h1, hfB.trans h2 (fun _ _ h => h)⟩
     have hM2 : A ++ keptF [c] ++ mrg m (f :: fr) cr = M := by rw [← hM, mrg, hle]; simp
     have HM := hide hM2
     have HI := hide (And.intro hI.a (And.intro hI.f hct))
     have hkl : (keptF [c]).length ≤ 1 := List.length_filter_le (fun f : F5 => decide (f.k ≠ 3)) [c]
     have hccL : (cr.length : Int) + 1 ≤ (cc' : Int) := by omega
     have hfcL : (fr.length : Int) + 1 ≤ (fc' : Int) := by omega
     have hcr1 : (1 : Int) ≤ (cr.length : Int) + 1 := by omega
     have hfr1 : (1 : Int) ≤ (fr.length : Int) + 1 := by omega
     clear hM hM2 hI hfh hch hft hct
     by_cases hc1 : cc' = 1
     ·subst hc1
      obtain rfl : cr = [] := List.length_eq_zero_iff.1 (by omega)
      go_wp2_with fail
      go_quiet (fail)
      go_wp2_with fail
      go_region_held3 (fun _ => True) (trivial)
       (first | (go_at_call 94; refine ((unhide HA) _ ((Fr.refl _ _).drewN _)).mono ?_; rintro e w2 ⟨v2, rfl, ho2, hf2⟩; have H2 := hide (And.intro ho2 hf2); clear ho2 hf2))
      all_goals
       go_wp2_with fail
       exact ⟨⟨m, f :: fr, [], A ++ keptF [c], by first | (simp at hn ⊢; omega) | (simp at hn ⊢), by rw [List.length_append]; omega, ⟨(unhide HI).1.frS (unhide H2).2, FdC.nilS _ _, (unhide H2).1, (unhide HI).2.1.trans (unhide H2).2 (fun _ _ h => h)⟩, unhide HM, fun x hx => by cases hx⟩, by simp [lenOf] <;> omega⟩
     ·have hc1' : ¬ (cc' : Int) = 1 := by omega
      have hc2 : ¬ cc' - 1 = 0 := by omega
      have hc3 : (1 : Int) < (cc' : Int) := by omega
      go_wp2_with fail
      go_quiet (fail)
      go_wp2_with fail
      go_region_held3 (fun _ => True) (trivial)
       (first | (go_at_call 94; refine ((unhide HA) _ ((Fr.refl _ _).drewN _)).mono ?_; rintro e w2 ⟨v2, rfl, ho2, hf2⟩; have H2 := hide (And.intro ho2 hf2); clear ho2 hf2))
      all_goals
       go_wp2_with fail
       exact ⟨⟨m, f :: fr, cr, A ++ keptF [c], by first | (simp at hn ⊢; omega) | (simp at hn ⊢), by rw [List.length_append]; omega, ⟨(unhide HI).1.frS (unhide H2).2, (unhide HI).2.2.frS (unhide H2).2, (unhide H2).1, (unhide HI).2.1.trans (unhide H2).2 (fun _ _ h => h)⟩, unhide HM, fun x hx => hfo x (by simp [hx])⟩, by simp [lenOf] <;> omega⟩
    | true =>
     cases heq : (f.n.toList == c.n.toList) with
     | true =>
      have hmn : (if sleB f.n c.n = true then f.n else c.n) = f.n := by rw [hle]; rfl
      have HA : Hid (∀ W, Fr (fun _ => False) wr W → Calls Tryz.prog 94 #[.slice oo A.length oc, .slice (some ⟨cg, co', none⟩) 1 cc'] W fun e w' => ∃ v, e = .returned v ∧ OwF w' w.heap.size v (A ++ keptF [c]) ∧ Fr (fun k => w.heap.size ≤ k) wr w') := fun W hf => by
       have hfB : Fr (fun k => w.heap.size ≤ k) wr W := hf.mono (fun _ _ h => h.elim)
       refine (appendKept_any (.slice oo A.length oc) (.slice (some ⟨cg, co', none⟩) 1 cc') A [c] w.heap.size W (hI.o.fr hf (fun _ _ h => h)) (hI.f.trans hfB (fun _ _ h => h)).size (hch.frS hfB).f hch.b (by simp; omega) (fun x hx => hfo x (by simp at hx; subst hx; simp))).mono ?_
       rintro e w' ⟨v, rfl, h1, h2⟩
       exact ⟨v, rfl, h1, hfB.trans h2 (fun _ _ h => h)⟩
      have hM2 : A ++ keptF [c] ++ mrg m fr cr = M := by rw [← hM, mrg, hle, heq]; simp
      have HM := hide hM2
      have HI := hide (And.intro hft (And.intro hI.f hct))
      have hkl : (keptF [c]).length ≤ 1 := List.length_filter_le (fun f : F5 => decide (f.k ≠ 3)) [c]
      have hccL : (cr.length : Int) + 1 ≤ (cc' : Int) := by omega
      have hfcL : (fr.length : Int) + 1 ≤ (fc' : Int) := by omega
      have hcr1 : (1 : Int) ≤ (cr.length : Int) + 1 := by omega
      have hfr1 : (1 : Int) ≤ (fr.length : Int) + 1 := by omega
      clear hM hM2 hI hfh hch hft hct
      by_cases hf1 : fc' = 1
      ·subst hf1
       obtain rfl : fr = [] := List.length_eq_zero_iff.1 (by omega)
       by_cases hc1 : cc' = 1
       ·subst hc1
        obtain rfl : cr = [] := List.length_eq_zero_iff.1 (by omega)
        go_wp2_with fail
        go_quiet (fail)
        go_wp2_with fail
        go_region_held3 (fun _ => True) (trivial)
         (first | (go_at_call 94; refine ((unhide HA) _ ((Fr.refl _ _).drewN _)).mono ?_; rintro e w2 ⟨v2, rfl, ho2, hf2⟩; have H2 := hide (And.intro ho2 hf2); clear ho2 hf2))
        all_goals
         go_wp2_with fail
         exact ⟨⟨m, [], [], A ++ keptF [c], by first | (simp at hn ⊢; omega) | (simp at hn ⊢), by rw [List.length_append]; omega, ⟨FdC.nilS _ _, FdC.nilS _ _, (unhide H2).1, (unhide HI).2.1.trans (unhide H2).2 (fun _ _ h => h)⟩, unhide HM, fun x hx => by cases hx⟩, by simp [lenOf] <;> omega⟩
       ·have hc1' : ¬ (cc' : Int) = 1 := by omega
        have hc2 : ¬ cc' - 1 = 0 := by omega
        have hc3 : (1 : Int) < (cc' : Int) := by omega
        go_wp2_with fail
        go_quiet (fail)
        go_wp2_with fail
        go_region_held3 (fun _ => True) (trivial)
         (first | (go_at_call 94; refine ((unhide HA) _ ((Fr.refl _ _).drewN _)).mono ?_; rintro e w2 ⟨v2, rfl, ho2, hf2⟩; have H2 := hide (And.intro ho2 hf2); clear ho2 hf2))
        all_goals
         go_wp2_with fail
         exact ⟨⟨m, [], cr, A ++ keptF [c], by first | (simp at hn ⊢; omega) | (simp at hn ⊢), by rw [List.length_append]; omega, ⟨FdC.nilS _ _, (unhide HI).2.2.frS (unhide H2).2, (unhide H2).1, (unhide HI).2.1.trans (unhide H2).2 (fun _ _ h => h)⟩, unhide HM, fun x hx => hfo x (by simp [hx])⟩, by simp [lenOf] <;> omega⟩
      ·have hf1' : ¬ (fc' : Int) = 1 := by omega
       have hf2 : ¬ fc' - 1 = 0 := by omega
       have hf3 : (1 : Int) < (fc' : Int) := by omega
       by_cases hc1 : cc' = 1
       ·subst hc1
        obtain rfl : cr = [] := List.length_eq_zero_iff.1 (by omega)
        go_wp2_with fail
        go_quiet (fail)
        go_wp2_with fail
        go_region_held3 (fun _ => True) (trivial)
         (first | (go_at_call 94; refine ((unhide HA) _ ((Fr.refl _ _).drewN _)).mono ?_; rintro e w2 ⟨v2, rfl, ho2, hf2⟩; have H2 := hide (And.intro ho2 hf2); clear ho2 hf2))
        all_goals
         go_wp2_with fail
         exact ⟨⟨m, fr, [], A ++ keptF [c], by first | (simp at hn ⊢; omega) | (simp at hn ⊢), by rw [List.length_append]; omega, ⟨(unhide HI).1.frS (unhide H2).2, FdC.nilS _ _, (unhide H2).1, (unhide HI).2.1.trans (unhide H2).2 (fun _ _ h => h)⟩, unhide HM, fun x hx => by cases hx⟩, by simp [lenOf] <;> omega⟩
       ·have hc1' : ¬ (cc' : Int) = 1 := by omega
        have hc2 : ¬ cc' - 1 = 0 := by omega
        have hc3 : (1 : Int) < (cc' : Int) := by omega
        go_wp2_with fail
        go_quiet (fail)
        go_wp2_with fail
        go_region_held3 (fun _ => True) (trivial)
         (first | (go_at_call 94; refine ((unhide HA) _ ((Fr.refl _ _).drewN _)).mono ?_; rintro e w2 ⟨v2, rfl, ho2, hf2⟩; have H2 := hide (And.intro ho2 hf2); clear ho2 hf2))
        all_goals
         go_wp2_with fail
         exact ⟨⟨m, fr, cr, A ++ keptF [c], by first | (simp at hn ⊢; omega) | (simp at hn ⊢), by rw [List.length_append]; omega, ⟨(unhide HI).1.frS (unhide H2).2, (unhide HI).2.2.frS (unhide H2).2, (unhide H2).1, (unhide HI).2.1.trans (unhide H2).2 (fun _ _ h => h)⟩, unhide HM, fun x hx => hfo x (by simp [hx])⟩, by simp [lenOf] <;> omega⟩
     | false =>
      have hmn : (if sleB f.n c.n = true then f.n else c.n) = f.n := by rw [hle]; rfl
      have hM2 : A ++ [f] ++ mrg m fr (c :: cr) = M := by rw [← hM, mrg, hle, heq]; simp
      have HM := hide hM2
      have HI := hide (And.intro hft (And.intro hI.f hI.b))
      have HAP : Hid (∀ k, ∃ ao cap w3, (Builtin.append_ #[39, 39] 39 #[.slice oo A.length oc, .slice (some ⟨(wr.drewN k).heap.size, 0, none⟩) 1 1]).run Tryz.prog ((wr.drewN k).alloc (.cells #[.string f.n, .int .u8 (f.k : Nat), .string f.t, .float .f32 f.v, .int .u8 (f.u : Nat)] 55)) = .ok (.slice ao (A.length + 1) cap) w3 ∧ OwF w3 w.heap.size (.slice ao (A.length + 1) cap) (A ++ [f]) ∧ Fr (fun k => w.heap.size ≤ k) wr w3 ∧ ((wr.drewN k).cell? ⟨fg, fo', none⟩ = some (.string f.n) ∧ (wr.drewN k).cell? ⟨fg, fo' + 1, none⟩ = some (.int .u8 (f.k : Nat)) ∧ (wr.drewN k).cell? ⟨fg, fo' + 2, none⟩ = some (.string f.t) ∧ (wr.drewN k).cell? ⟨fg, fo' + 3, none⟩ = some (.float .f32 f.v) ∧ (wr.drewN k).cell? ⟨fg, fo' + 4, none⟩ = some (.int .u8 (f.u : Nat))) ∧ (((wr.drewN k).alloc (.cells #[.string f.n, .int .u8 (f.k : Nat), .string f.t, .float .f32 f.v, .int .u8 (f.u : Nat)] 55)).cell? ⟨fg, fo', none⟩ = some (.string f.n) ∧ ((wr.drewN k).alloc (.cells #[.string f.n, .int .u8 (f.k : Nat), .string f.t, .float .f32 f.v, .int .u8 (f.u : Nat)] 55)).cell? ⟨fg, fo' + 1, none⟩ = some (.int .u8 (f.k : Nat)) ∧ ((wr.drewN k).alloc (.cells #[.string f.n, .int .u8 (f.k : Nat), .string f.t, .float .f32 f.v, .int .u8 (f.u : Nat)] 55)).cell? ⟨fg, fo' + 2, none⟩ = some (.string f.t) ∧ ((wr.drewN k).alloc (.cells #[.string f.n, .int .u8 (f.k : Nat), .string f.t, .float .f32 f.v, .int .u8 (f.u : Nat)] 55)).cell? ⟨fg, fo' + 3, none⟩ = some (.float .f32 f.v) ∧ ((wr.drewN k).alloc (.cells #[.string f.n, .int .u8 (f.k : Nat), .string f.t, .float .f32 f.v, .int .u8 (f.u : Nat)] 55)).cell? ⟨fg, fo' + 4, none⟩ = some (.int .u8 (f.u : Nat))) ∧ (w3.cell? ⟨fg, fo', none⟩ = some (.string f.n) ∧ w3.cell? ⟨fg, fo' + 1, none⟩ = some (.int .u8 (f.k : Nat)) ∧ w3.cell? ⟨fg, fo' + 2, none⟩ = some (.string f.t) ∧ w3.cell? ⟨fg, fo' + 3, none⟩ = some (.float .f32 f.v) ∧ w3.cell? ⟨fg, fo' + 4, none⟩ = some (.int .u8 (f.u : Nat)))) := fun k => by
       have hd : Fr (fun _ => False) wr (wr.drewN k) := (Fr.refl _ _).drewN k
       have hdB : Fr (fun k => w.heap.size ≤ k) wr (wr.drewN k) := hd.mono (fun _ _ h => h.elim)
       obtain ⟨ao, cap, w3, hr3, ho3, hf3, _⟩ := app_fld (wr.drewN k) w.heap.size (.slice oo A.length oc) A f (hI.o.fr hd (fun _ _ h => h)) (hI.f.trans hdB (fun _ _ h => h)).size (by omega)
       have hf3B : Fr (fun k => w.heap.size ≤ k) wr w3 := hdB.trans (hf3.mono (fun g _ hg => (hI.o.lt g hg).1)) (fun _ _ h => h)
       have hgl : fg < wr.heap.size := lt_of_cell f0
       have hgn : ¬ w.heap.size ≤ fg := by omega
       have hal : Fr (fun _ => False) wr ((wr.drewN k).alloc (.cells #[.string f.n, .int .u8 (f.k : Nat), .string f.t, .float .f32 f.v, .int .u8 (f.u : Nat)] 55)) := hd.trans (box1 _ _) (fun _ _ h => h)
       refine ⟨ao, cap, w3, hr3, ho3, hf3B, ⟨f0, f1, f2, f3, f4⟩, ⟨(hal.cell (p := ⟨fg, _, none⟩) hgl (fun h => h)).trans f0, (hal.cell (p := ⟨fg, _, none⟩) hgl (fun h => h)).trans f1, (hal.cell (p := ⟨fg, _, none⟩) hgl (fun h => h)).trans f2, (hal.cell (p := ⟨fg, _, none⟩) hgl (fun h => h)).trans f3, (hal.cell (p := ⟨fg, _, none⟩) hgl (fun h => h)).trans f4⟩, ⟨(hf3B.cell (p := ⟨fg, _, none⟩) hgl hgn).trans f0, (hf3B.cell (p := ⟨fg, _, none⟩) hgl hgn).trans f1, (hf3B.cell (p := ⟨fg, _, none⟩) hgl hgn).trans f2, (hf3B.cell (p := ⟨fg, _, none⟩) hgl hgn).trans f3, (hf3B.cell (p := ⟨fg, _, none⟩) hgl hgn).trans f4⟩⟩
      have hccL : (cr.length : Int) + 1 ≤ (cc' : Int) := by omega
      have hfcL : (fr.length : Int) + 1 ≤ (fc' : Int) := by omega
      have hcr1 : (1 : Int) ≤ (cr.length : Int) + 1 := by omega
      have hfr1 : (1 : Int) ≤ (fr.length : Int) + 1 := by omega
      clear hM hM2 hI hfh hch hft hct
      by_cases hf1 : fc' = 1
      ·subst hf1
       obtain rfl : fr = [] := List.length_eq_zero_iff.1 (by omega)
       go_wp2_with fail
       go_quiet (fail)
       go_wp2_with fail
       obtain ⟨ao, cap, w3, hr3, ho3, hf3, hS1, hS2, hS3⟩ := (unhide HAP) (nq + 1)
       have HR3 := hide hr3
       have H2 := hide (And.intro ho3 hf3)
       have HS1 := hide hS1
       have HS2 := hide hS2
       have HS3 := hide hS3
       clear hr3 ho3 hf3 hS1 hS2 hS3 HAP
       go_region_held3 (fun w' => w'.cell? ⟨fg, fo', none⟩ = some (.string f.n) ∧ w'.cell? ⟨fg, fo' + 1, none⟩ = some (.int .u8 (f.k : Nat)) ∧ w'.cell? ⟨fg, fo' + 2, none⟩ = some (.string f.t) ∧ w'.cell? ⟨fg, fo' + 3, none⟩ = some (.float .f32 f.v) ∧ w'.cell? ⟨fg, fo' + 4, none⟩ = some (.int .u8 (f.u : Nat)))
        (first | with_reducible exact unhide HS3 | with_reducible exact unhide HS2 | exact unhide HS1)
        (refine step_app rfl (.tmp 34) (.tmp 38) 39 39 rfl _ _ _ (by simp [Act.eval]) (by simp [Act.eval]) (unhide HR3) ?_)
       all_goals
        go_wp2_with fail
        exact ⟨⟨m, [], c :: cr, A ++ [f], by simp at hn ⊢; omega, by rw [List.length_append]; simp; omega, ⟨FdC.nilS _ _, (unhide HI).2.2.frS (unhide H2).2, (unhide H2).1, (unhide HI).2.1.trans (unhide H2).2 (fun _ _ h => h)⟩, unhide HM, hfo⟩, by simp [lenOf] <;> omega⟩
      ·have hf1' : ¬ (fc' : Int) = 1 := by omega
       have hf2 : ¬ fc' - 1 = 0 := by omega
       have hf3 : (1 : Int) < (fc' : Int) := by omega
       go_wp2_with fail
       go_quiet (fail)
       go_wp2_with fail
       obtain ⟨ao, cap, w3, hr3, ho3, hf3, hS1, hS2, hS3⟩ := (unhide HAP) (nq + 1)
       have HR3 := hide hr3
       have H2 := hide (And.intro ho3 hf3)
       have HS1 := hide hS1
       have HS2 := hide hS2
       have HS3 := hide hS3
       clear hr3 ho3 hf3 hS1 hS2 hS3 HAP
       go_region_held3 (fun w' => w'.cell? ⟨fg, fo', none⟩ = some (.string f.n) ∧ w'.cell? ⟨fg, fo' + 1, none⟩ = some (.int .u8 (f.k : Nat)) ∧ w'.cell? ⟨fg, fo' + 2, none⟩ = some (.string f.t) ∧ w'.cell? ⟨fg, fo' + 3, none⟩ = some (.float .f32 f.v) ∧ w'.cell? ⟨fg, fo' + 4, none⟩ = some (.int .u8 (f.u : Nat)))
        (first | with_reducible exact unhide HS3 | with_reducible exact unhide HS2 | exact unhide HS1)
        (refine step_app rfl (.tmp 34) (.tmp 38) 39 39 rfl _ _ _ (by simp [Act.eval]) (by simp [Act.eval]) (unhide HR3) ?_)
       all_goals
        go_wp2_with fail
        exact ⟨⟨m, fr, c :: cr, A ++ [f], by simp at hn ⊢; omega, by rw [List.length_append]; simp; omega, ⟨(unhide HI).1.frS (unhide H2).2, (unhide HI).2.2.frS (unhide H2).2, (unhide H2).1, (unhide HI).2.1.trans (unhide H2).2 (fun _ _ h => h)⟩, unhide HM, hfo⟩, by simp [lenOf] <;> omega⟩
end Go.Proofs.YthpoligdgbmnkaaGreatDoor
