import Derived.Test.YtiknjghcjaaenaaGreatDoorKPoe
namespace Go.Proofs.YtiknjghcjaaenaaGreatDoor
open Go.RowKit
set_option maxHeartbeats 2000000 in
set_option maxRecDepth 100000 in
theorem mayRead_any (q : QM) (S : List P3) (G : List Nat) (F : List F5) (w : World) (HE : Hid (QE w q S G F)) :
  Calls Tryz.prog 115 #[q.v] w fun e w' => e = .returned (.bool (rdF q G)) ∧ Fr (fun _ => False) w w' := by
 have hP := QB.new w q
 simp only [QM.cs] at hP
 obtain ⟨c0, c1, c2, c3, c4, c5, c6, c7, c8, c9⟩ := hP.cells
 simp only [QM.v]
 go_enter Tryz.func115, Tryz.ntmps115
 rcases ho : q.own with _ | _
 ·go_wp2_with fail
  have hC := own_B hP ho
  clear hP c0 c1 c2 c3 c4 c5 c6 c7 c8 c9
  refine hC.mono ?_
  clear hC
  rintro e wq ⟨rfl, hP⟩
  obtain ⟨c0, c1, c2, c3, c4, c5, c6, c7, c8, c9⟩ := hP.cells
  rcases hn : q.near with _ | _
  ·go_wp2_with fail
   have hC := near_B hP hn
   clear hP c0 c1 c2 c3 c4 c5 c6 c7 c8 c9
   refine hC.mono ?_
   clear hC
   rintro e wq ⟨rfl, hP⟩
   obtain ⟨c0, c1, c2, c3, c4, c5, c6, c7, c8, c9⟩ := hP.cells
   go_wp2_with fail
   have hC := near_B hP hn
   clear hP c0 c1 c2 c3 c4 c5 c6 c7 c8 c9
   refine hC.mono ?_
   clear hC
   rintro e wq ⟨rfl, hP⟩
   obtain ⟨c0, c1, c2, c3, c4, c5, c6, c7, c8, c9⟩ := hP.cells
   rcases hg : decide (q.p.a ∈ G) with _ | _
   ·go_wp2_with fail
    have hC := gr_B hP HE hg
    clear hP c0 c1 c2 c3 c4 c5 c6 c7 c8 c9
    refine hC.mono ?_
    clear hC
    rintro e wq ⟨rfl, hP⟩
    obtain ⟨c0, c1, c2, c3, c4, c5, c6, c7, c8, c9⟩ := hP.cells
    go_wp2_with fail
    go_ret
    exact ⟨by simp [rdF, hg, hn, ho], hP.fr⟩
   ·go_wp2_with fail
    have hC := gr_B hP HE hg
    clear hP c0 c1 c2 c3 c4 c5 c6 c7 c8 c9
    refine hC.mono ?_
    clear hC
    rintro e wq ⟨rfl, hP⟩
    obtain ⟨c0, c1, c2, c3, c4, c5, c6, c7, c8, c9⟩ := hP.cells
    rcases hr32 : q.role [3, 2] with _ | _
    ·go_wp2_with fail
     have hC := is2_B hP 3 2 hr32
     clear hP c0 c1 c2 c3 c4 c5 c6 c7 c8 c9
     refine hC.mono ?_
     clear hC
     rintro e wq ⟨rfl, hP⟩
     obtain ⟨c0, c1, c2, c3, c4, c5, c6, c7, c8, c9⟩ := hP.cells
     go_wp2_with fail
     go_ret
     exact ⟨by simp [rdF, hg, hn, ho, hr32], hP.fr⟩
    ·go_wp2_with fail
     have hC := is2_B hP 3 2 hr32
     clear hP c0 c1 c2 c3 c4 c5 c6 c7 c8 c9
     refine hC.mono ?_
     clear hC
     rintro e wq ⟨rfl, hP⟩
     obtain ⟨c0, c1, c2, c3, c4, c5, c6, c7, c8, c9⟩ := hP.cells
     go_wp2_with fail
     go_ret
     exact ⟨by simp [rdF, hg, hn, ho, hr32], hP.fr⟩
  ·go_wp2_with fail
   have hC := near_B hP hn
   clear hP c0 c1 c2 c3 c4 c5 c6 c7 c8 c9
   refine hC.mono ?_
   clear hC
   rintro e wq ⟨rfl, hP⟩
   obtain ⟨c0, c1, c2, c3, c4, c5, c6, c7, c8, c9⟩ := hP.cells
   rcases hr3 : q.role [3] with _ | _
   ·go_wp2_with fail
    have hC := is1_B hP 3 hr3
    clear hP c0 c1 c2 c3 c4 c5 c6 c7 c8 c9
    refine hC.mono ?_
    clear hC
    rintro e wq ⟨rfl, hP⟩
    obtain ⟨c0, c1, c2, c3, c4, c5, c6, c7, c8, c9⟩ := hP.cells
    go_wp2_with fail
    have hC := near_B hP hn
    clear hP c0 c1 c2 c3 c4 c5 c6 c7 c8 c9
    refine hC.mono ?_
    clear hC
    rintro e wq ⟨rfl, hP⟩
    obtain ⟨c0, c1, c2, c3, c4, c5, c6, c7, c8, c9⟩ := hP.cells
    rcases hr21 : q.role [2, 1] with _ | _
    ·go_wp2_with fail
     have hC := is2_B hP 2 1 hr21
     clear hP c0 c1 c2 c3 c4 c5 c6 c7 c8 c9
     refine hC.mono ?_
     clear hC
     rintro e wq ⟨rfl, hP⟩
     obtain ⟨c0, c1, c2, c3, c4, c5, c6, c7, c8, c9⟩ := hP.cells
     rcases hg : decide (q.p.a ∈ G) with _ | _
     ·go_wp2_with fail
      have hC := gr_B hP HE hg
      clear hP c0 c1 c2 c3 c4 c5 c6 c7 c8 c9
      refine hC.mono ?_
      clear hC
      rintro e wq ⟨rfl, hP⟩
      obtain ⟨c0, c1, c2, c3, c4, c5, c6, c7, c8, c9⟩ := hP.cells
      go_wp2_with fail
      go_ret
      exact ⟨by simp [rdF, hg, hn, ho, hr21, hr3], hP.fr⟩
     ·go_wp2_with fail
      have hC := gr_B hP HE hg
      clear hP c0 c1 c2 c3 c4 c5 c6 c7 c8 c9
      refine hC.mono ?_
      clear hC
      rintro e wq ⟨rfl, hP⟩
      obtain ⟨c0, c1, c2, c3, c4, c5, c6, c7, c8, c9⟩ := hP.cells
      rcases hr32 : q.role [3, 2] with _ | _
      ·go_wp2_with fail
       have hC := is2_B hP 3 2 hr32
       clear hP c0 c1 c2 c3 c4 c5 c6 c7 c8 c9
       refine hC.mono ?_
       clear hC
       rintro e wq ⟨rfl, hP⟩
       obtain ⟨c0, c1, c2, c3, c4, c5, c6, c7, c8, c9⟩ := hP.cells
       go_wp2_with fail
       go_ret
       exact ⟨by simp [rdF, hg, hn, ho, hr21, hr3, hr32], hP.fr⟩
      ·go_wp2_with fail
       have hC := is2_B hP 3 2 hr32
       clear hP c0 c1 c2 c3 c4 c5 c6 c7 c8 c9
       refine hC.mono ?_
       clear hC
       rintro e wq ⟨rfl, hP⟩
       obtain ⟨c0, c1, c2, c3, c4, c5, c6, c7, c8, c9⟩ := hP.cells
       go_wp2_with fail
       go_ret
       exact ⟨by simp [rdF, hg, hn, ho, hr21, hr3, hr32], hP.fr⟩
    ·go_wp2_with fail
     have hC := is2_B hP 2 1 hr21
     clear hP c0 c1 c2 c3 c4 c5 c6 c7 c8 c9
     refine hC.mono ?_
     clear hC
     rintro e wq ⟨rfl, hP⟩
     obtain ⟨c0, c1, c2, c3, c4, c5, c6, c7, c8, c9⟩ := hP.cells
     rcases hs : q.sl with _ | _
     ·rw [hs] at c6
      go_wp2_with fail
      go_ret
      exact ⟨by simp [rdF, hn, ho, hr21, hr3, hs], hP.fr⟩
     ·rw [hs] at c6
      rcases hg : decide (q.p.a ∈ G) with _ | _
      ·go_wp2_with fail
       have hC := gr_B hP HE hg
       simp only [QM.v, hs] at hC
       clear hP c0 c1 c2 c3 c4 c5 c6 c7 c8 c9
       refine hC.mono ?_
       clear hC
       rintro e wq ⟨rfl, hP⟩
       obtain ⟨c0, c1, c2, c3, c4, c5, c6, c7, c8, c9⟩ := hP.cells
       go_wp2_with fail
       go_ret
       exact ⟨by simp [rdF, hg, hn, ho, hr21, hr3, hs], hP.fr⟩
      ·go_wp2_with fail
       have hC := gr_B hP HE hg
       simp only [QM.v, hs] at hC
       clear hP c0 c1 c2 c3 c4 c5 c6 c7 c8 c9
       refine hC.mono ?_
       clear hC
       rintro e wq ⟨rfl, hP⟩
       obtain ⟨c0, c1, c2, c3, c4, c5, c6, c7, c8, c9⟩ := hP.cells
       rcases hr32 : q.role [3, 2] with _ | _
       ·go_wp2_with fail
        have hC := is2_B hP 3 2 hr32
        simp only [QM.v, hs] at hC
        clear hP c0 c1 c2 c3 c4 c5 c6 c7 c8 c9
        refine hC.mono ?_
        clear hC
        rintro e wq ⟨rfl, hP⟩
        obtain ⟨c0, c1, c2, c3, c4, c5, c6, c7, c8, c9⟩ := hP.cells
        go_wp2_with fail
        go_ret
        exact ⟨by simp [rdF, hg, hn, ho, hr21, hr3, hr32, hs], hP.fr⟩
       ·go_wp2_with fail
        have hC := is2_B hP 3 2 hr32
        simp only [QM.v, hs] at hC
        clear hP c0 c1 c2 c3 c4 c5 c6 c7 c8 c9
        refine hC.mono ?_
        clear hC
        rintro e wq ⟨rfl, hP⟩
        obtain ⟨c0, c1, c2, c3, c4, c5, c6, c7, c8, c9⟩ := hP.cells
        go_wp2_with fail
        go_ret
        exact ⟨by simp [rdF, hg, hn, ho, hr21, hr3, hr32, hs], hP.fr⟩
   ·go_wp2_with fail
    have hC := is1_B hP 3 hr3
    clear hP c0 c1 c2 c3 c4 c5 c6 c7 c8 c9
    refine hC.mono ?_
    clear hC
    rintro e wq ⟨rfl, hP⟩
    obtain ⟨c0, c1, c2, c3, c4, c5, c6, c7, c8, c9⟩ := hP.cells
    go_wp2_with fail
    go_ret
    exact ⟨by simp [rdF, hn, ho, hr3], hP.fr⟩
 ·go_wp2_with fail
  have hC := own_B hP ho
  clear hP c0 c1 c2 c3 c4 c5 c6 c7 c8 c9
  refine hC.mono ?_
  clear hC
  rintro e wq ⟨rfl, hP⟩
  obtain ⟨c0, c1, c2, c3, c4, c5, c6, c7, c8, c9⟩ := hP.cells
  go_wp2_with fail
  go_ret
  exact ⟨by simp [rdF, ho], hP.fr⟩
theorem rd_B {w W : World} {b : Nat} {q : QM} {S : List P3} {G : List Nat} {F : List F5} (h : QB w W b q) (hE : Hid (QE w q S G F)) {v : Bool} (hv : rdF q G = v) : Calls Tryz.prog 115 #[q.v] W fun e w' => e = .returned (.bool v) ∧ QB w w' b q :=
 (mayRead_any q S G F W (hide ((unhide hE).fr h.fr))).mono fun _ _ h' => ⟨by rw [h'.1, ← hv], h.step h'.2⟩
set_option maxHeartbeats 2000000 in
set_option maxRecDepth 100000 in
theorem whyNotRead_any (q : QM) (S : List P3) (G : List Nat) (F : List F5) (w : World) (_HE : Hid (QE w q S G F)) :
  Calls Tryz.prog 116 #[q.v] w fun e w' => e = .returned (.int .u8 (whyRd q : Nat)) ∧ Fr (fun _ => False) w w' := by
 have hP := QB.new w q
 simp only [QM.cs] at hP
 obtain ⟨c0, c1, c2, c3, c4, c5, c6, c7, c8, c9⟩ := hP.cells
 simp only [QM.v]
 go_enter Tryz.func116, Tryz.ntmps116
 rcases hn : q.near with _ | _
 ·go_wp2_with fail
  have hC := near_B hP hn
  clear hP c0 c1 c2 c3 c4 c5 c6 c7 c8 c9
  refine hC.mono ?_
  clear hC
  rintro e wq ⟨rfl, hP⟩
  obtain ⟨c0, c1, c2, c3, c4, c5, c6, c7, c8, c9⟩ := hP.cells
  go_wp2_with fail
  go_ret
  exact ⟨by simp [whyRd, hn], hP.fr⟩
 ·go_wp2_with fail
  have hC := near_B hP hn
  clear hP c0 c1 c2 c3 c4 c5 c6 c7 c8 c9
  refine hC.mono ?_
  clear hC
  rintro e wq ⟨rfl, hP⟩
  obtain ⟨c0, c1, c2, c3, c4, c5, c6, c7, c8, c9⟩ := hP.cells
  rcases hr21 : q.role [2, 1] with _ | _
  ·go_wp2_with fail
   have hC := is2_B hP 2 1 hr21
   clear hP c0 c1 c2 c3 c4 c5 c6 c7 c8 c9
   refine hC.mono ?_
   clear hC
   rintro e wq ⟨rfl, hP⟩
   obtain ⟨c0, c1, c2, c3, c4, c5, c6, c7, c8, c9⟩ := hP.cells
   go_wp2_with fail
   go_ret
   exact ⟨by simp [whyRd, hn, hr21], hP.fr⟩
  ·go_wp2_with fail
   have hC := is2_B hP 2 1 hr21
   clear hP c0 c1 c2 c3 c4 c5 c6 c7 c8 c9
   refine hC.mono ?_
   clear hC
   rintro e wq ⟨rfl, hP⟩
   obtain ⟨c0, c1, c2, c3, c4, c5, c6, c7, c8, c9⟩ := hP.cells
   go_wp2_with fail
   go_ret
   exact ⟨by simp [whyRd, hn, hr21], hP.fr⟩
theorem whyRd_B {w W : World} {b : Nat} {q : QM} {S : List P3} {G : List Nat} {F : List F5} (h : QB w W b q) (hE : Hid (QE w q S G F)) : Calls Tryz.prog 116 #[q.v] W fun e w' => e = .returned (.int .u8 (whyRd q : Nat)) ∧ QB w w' b q :=
 (whyNotRead_any q S G F W (hide ((unhide hE).fr h.fr))).mono fun _ _ h' => ⟨h'.1, h.step h'.2⟩
end Go.Proofs.YtiknjghcjaaenaaGreatDoor
