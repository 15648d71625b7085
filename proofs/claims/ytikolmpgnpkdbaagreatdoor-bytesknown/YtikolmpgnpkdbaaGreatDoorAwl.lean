import Derived.Test.YtikolmpgnpkdbaaGreatDoorAwk
namespace Go.Proofs.YtikolmpgnpkdbaaGreatDoor
open Go.RowKit

set_option maxRecDepth 100000 in
theorem awake_any (E : Nat → Addr) (w : World) (hg : Gl w E) (hw : 9 ≤ w.heap.size) :
    Calls Tryz.prog 4 #[] w fun e w' => e = .returned (.bool true) ∧ Fr (fun _ => False) w w' := by
  have HG := hide hg
  clear hg
  go_enter Tryz.func4, Tryz.ntmps4
  go_wp2_with fail
  refine (newWriter_any w hw).mono ?_
  rintro e w1 ⟨rfl, hW, hf1⟩
  have HW := hide (And.intro hW hf1)
  clear hW hf1
  go_wp2_with fail
  refine (wU16_any _ 258 _ _ w1 (by decide) (unhide HW).1 (by simp)).mono ?_
  rintro e w2 ⟨rfl, F2, hW2, hc2⟩
  have HW2 := hide (And.intro hW2 hc2)
  clear hW2 hc2
  go_wp2_with fail
  refine (wDone_ok _ _ _ w2 (unhide HW2).1 rfl (by simp [be_length])).mono ?_
  rintro e w3 ⟨v, rfl, hv, hf3⟩
  obtain ⟨ao, cap, rfl⟩ := own_form hv
  have HV := hide (And.intro hv hf3)
  clear hv hf3
  go_wp2_with fail
  have hw3 : 9 ≤ w3.heap.size := Nat.le_trans hw (Nat.le_trans (unhide HW).2.size (Nat.le_trans (unhide HW2).2.fr.size (unhide HV).2.size))
  refine (newReader_any _ [1, 2, 3] _ (by simp; omega) (lit_src w3 [1, 2, 3] _ 3 3 rfl rfl) (by simp)).mono ?_
  rintro e w4 ⟨b4, F4, rfl, hR, hf4, hl4⟩
  have HR := hide (And.intro hR (And.intro hf4 hl4))
  clear hR hf4 hl4
  go_wp2_with fail
  have hfa : Fr (fun _ => False) w3 w4 := (box1 w3 _).trans (unhide HR).2.1 (fun _ _ h => h)
  refine (same_any _ _ (be 2 258) [1, 2] _ (Src.fr (own_src (unhide HV).1) (hfa.trans (box1 w4 _) (fun _ _ h => h)) (fun _ _ _ _ _ h => h)) (lit_src w4 [1, 2] _ 2 2 rfl rfl) (by simp [be_length])).mono ?_
  rintro e w5 ⟨rfl, hw5⟩
  rw [show sameB (be 2 258) [1, 2] = true from by decide]
  have hf5 : Fr (fun _ => False) w4 w5 := (box1 w4 _).trans (Fr.of_drewN hw5) (fun _ _ h => h)
  have hR5 := (unhide HR).1.frame hf5 (fun _ _ h => h)
  have ha2 : Fr (fun _ => False) w w2 := (unhide HW).2.trans (unhide HW2).2.fr (fun i hi h => by have h' : i = w.heap.size := h; omega)
  have hF05 : Fr (fun _ => False) w w5 := ((ha2.trans (unhide HV).2 (fun _ _ h => h)).trans hfa (fun _ _ h => h)).trans hf5 (fun _ _ h => h)
  have hG5 := (unhide HG).fr0 hF05
  have hbw : w.heap.size ≤ b4 := by
    have h1 := (unhide HR).2.2 b4 (unhide HR).1.fb
    have h2 := (ha2.trans (unhide HV).2 (fun _ _ h => h)).size
    simp at h1; omega
  have H5 := hide (And.intro hR5 (And.intro hF05 hG5))
  clear hfa hw5 hf5 hR5 hF05 hG5 HR HW2 HV HW hw3 ha2
  go_wp2_with fail
  refine (rU16_ok b4 F4 _ E w5 (unhide H5).2.2 (unhide H5).1 rfl (by simp)).mono ?_
  rintro e w6 ⟨rfl, hR6, hf6⟩
  have hb4 := (unhide H5).1.lo b4 (unhide H5).1.fb
  have hG6 := (unhide H5).2.2.frb hf6 hb4
  have H6 := hide (And.intro hR6 (And.intro hf6 hG6))
  clear hR6 hf6 hG6
  go_wp2_with fail
  refine (rAt_ok b4 F4 _ w6 (unhide H6).1 rfl).mono ?_
  rintro e w7 ⟨rfl, rfl⟩
  go_wp2_with fail
  refine (rErr_ok b4 F4 _ w7 (unhide H6).1 rfl).mono ?_
  rintro e w8 ⟨rfl, rfl⟩
  go_wp2_with fail
  refine (rDone_trail b4 F4 _ E w8 (unhide H6).2.2 (unhide H6).1 rfl (by simp)).mono ?_
  rintro e w9 ⟨fb, rfl, -, hf9, -⟩
  have H9 := hide hf9
  clear hf9
  go_wp2_with fail
  go_ret
  refine ⟨rfl, ((unhide H5).2.1.trans (unhide H6).2.1 (fun i hi h => by have h' : i = b4 := h; omega)).trans (unhide H9) (fun _ _ h => h)⟩
end Go.Proofs.YtikolmpgnpkdbaaGreatDoor
