import Derived.Test.YtebipmknlgcnaaaCrn
namespace Go.Proofs.Ytebipmknlgcnaaa
open Go.RowKit

theorem sm_nil : Sm 0 [] = 0 := by decide +kernel
theorem sm_0 : Sm 0 [0] = 1383945041 := by decide +kernel
theorem sm_1234 : Sm 0 [49, 50, 51, 52] = 4131058926 := by decide +kernel
theorem sm_56789 : Sm 0 [53, 54, 55, 56, 57] = 2209703384 := by decide +kernel
theorem sm_rest : Sm 4131058926 [53, 54, 55, 56, 57] = 3808858755 := by decide +kernel
theorem xn_5 : Xn (8 * 5) 4131058926 ^^^ 2209703384 = 3808858755 := by decide +kernel
theorem xn_0 : Xn (8 * 0) 7 ^^^ 9 = 14 := by decide +kernel
theorem tb_at : Tb 0 = 0 ∧ Tb 1 = 4067132163 ∧ Tb 128 = 2197175160 ∧ Tb 255 = 2910671697 := by decide +kernel
set_option maxRecDepth 100000 in
theorem cknown_any (w : World) : Calls Try.prog 3 #[] w fun e w' => e = .returned (.bool true) ∧ Fr (fun _ => False) w w' := by
  have hnot : ∀ (x : Bool) (w : World), (Op.unary .not (.bool x)).run Try.prog w = .ok (.bool (!x)) w := fun _ _ => rfl
  have hcv := fun (w : World) (C : Array Value) (n c : Nat) => Lib.run_convert_bytes_const (P := Try.prog) w 27 5 C n c Try.underlying27 Try.underlying5
  go_enter Try.func3, Try.ntmps3
  go_wp2_with fail
  refine (table_any w).mono ?_
  rintro e w1 ⟨rfl, hT, hF, _⟩
  have H1 := hide (And.intro hT hF)
  clear hT hF
  go_wp2_with fail
  refine (awake_any w1).mono ?_
  rintro e w2 ⟨rfl, hF⟩
  have hT2 := (unhide H1).1.fr hF (fun h => h)
  have c0 := (hT2 0 (by decide)).1
  have c1 := (hT2 1 (by decide)).1
  have c128 := (hT2 128 (by decide)).1
  have c255 := (hT2 255 (by decide)).1
  rw [tb_at.1] at c0
  rw [tb_at.2.1] at c1
  rw [tb_at.2.2.1] at c128
  rw [tb_at.2.2.2] at c255
  have H2 := hide ((unhide H1).2.trans hF (fun _ _ h => h))
  clear hF hT2 H1
  go_wp2_with fail
  refine (sum_any _ [] w2 (.inl ⟨rfl, rfl⟩) (by decide)).mono ?_
  rintro e w3 ⟨rfl, hF⟩
  rw [sm_nil]
  have H3 := hide ((unhide H2).trans hF (fun _ _ h => h))
  clear hF H2 c0 c1 c128 c255
  go_wp2_with fail
  refine (sum_any _ [0] _ ?_ (by decide)).mono ?_
  · exact src_new w3 _ _ _ _ _ rfl rfl
  rintro e w4 ⟨rfl, hF⟩
  rw [sm_0]
  have H4 := hide (((unhide H3).alloc _).trans hF (fun _ _ h => h))
  clear hF H3
  go_wp2_with fail
  refine (sum_any _ [49, 50, 51, 52] _ ?_ (by decide)).mono ?_
  · exact src_new w4 _ _ _ _ _ rfl rfl
  rintro e w5 ⟨rfl, hF⟩
  rw [sm_1234]
  have H5 := hide (((unhide H4).alloc _).trans hF (fun _ _ h => h))
  clear hF H4
  go_wp2_with fail
  refine (up_any 4131058926 _ [53, 54, 55, 56, 57] _ (by decide) ?_ (by decide)).mono ?_
  · exact src_new w5 _ _ _ _ _ rfl rfl
  rintro e w6 ⟨rfl, hF⟩
  rw [sm_rest]
  have H6 := hide (((unhide H5).alloc _).trans hF (fun _ _ h => h))
  clear hF H5
  go_wp2_with fail
  refine (sum_any _ [49, 50, 51, 52] _ ?_ (by decide)).mono ?_
  · exact src_new w6 _ _ _ _ _ rfl rfl
  rintro e w7 ⟨rfl, hF⟩
  rw [sm_1234]
  have H7 := hide (((unhide H6).alloc _).trans hF (fun _ _ h => h))
  clear hF H6
  go_wp2_with fail
  refine (sum_any _ [53, 54, 55, 56, 57] _ ?_ (by decide)).mono ?_
  · exact src_new w7 _ _ _ _ _ rfl rfl
  rintro e w8 ⟨rfl, hF⟩
  rw [sm_56789]
  have H8 := hide (((unhide H7).alloc _).trans hF (fun _ _ h => h))
  clear hF H7
  go_wp2_with fail
  refine (combine_any 4131058926 2209703384 5 _ (by decide) (by decide) (by decide)).mono ?_
  rintro e w' ⟨rfl, rfl⟩
  rw [xn_5]
  go_wp2_with fail
  refine (combine_any 7 9 0 _ (by decide) (by decide) (by decide)).mono ?_
  rintro e w' ⟨rfl, rfl⟩
  rw [xn_0]
  go_wp2_with fail
  refine (combine_neg 1 2 (-1) _ (by decide)).mono ?_
  rintro e w' ⟨rfl, rfl⟩
  go_wp2_with fail
  go_ret
  exact ⟨rfl, unhide H8⟩
end Go.Proofs.Ytebipmknlgcnaaa
