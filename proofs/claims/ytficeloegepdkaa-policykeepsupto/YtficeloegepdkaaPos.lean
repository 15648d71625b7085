import Derived.Test.YtficeloegepdkaaPoq
namespace Go.Proofs.Ytficeloegepdkaa
open Go.RowKit

theorem Try.held_st : Try.prog.stoodInHeld 40 = false := by kernel_rfl
theorem Try.fields_st : Try.prog.underlying 40 = some (.struct (Try.prog.fieldsOf 40)) := by kernel_rfl
/-- One is the same as itself. -/
theorem ne_staff (a r w : Int) (W : World) : (binOp .neq 40 (.agg #[.int .u32 a, .int .u32 r, .int .u32 w]) (.agg #[.int .u32 a, .int .u32 r, .int .u32 w])).run Try.prog W = .ok (.bool false) W := by
  rw [run_neq_struct, show (10000 : Nat) = 9999 + 1 from rfl, run_equalIn_agg _ 9999 _ _ _ Try.fields_st Try.held_st]
  simp [Program.fieldsOf, Try.underlying40, Op.eqFields, go_sem]
set_option maxHeartbeats 2000000 in
set_option maxRecDepth 100000 in
/-- PolicyFinds. -/
theorem finds_any (x : Value) (l : List P3) (k : Nat) (w : World) (hx : Stf w x l) (hl : l.length ≤ 1048575) :
    Calls Try.prog 4 #[x, .int .u32 (k : Nat)] w fun e w' => e = .returned (.bool true) ∧ Fr (fun _ => False) w w' := by
  have HX := hide hx
  have HS := hide (staff_any x l w hx hl)
  obtain ⟨xo, xc, rfl⟩ := hx.form
  clear hx
  go_enter Try.func4, Try.ntmps4
  go_wp2_with fail
  refine (unhide HS).mono ?_
  clear HS
  rintro e w1 ⟨v, rfl, hM, hf1⟩
  have hF := find_any v l k w1 hM.stf (by omega)
  have HM := hide hM
  obtain ⟨vo, vc, rfl⟩ := hM.stf.form
  have H1 := hide hf1
  clear hM hf1
  go_wp2_with fail
  refine hF.mono ?_
  clear hF
  rintro e w2 ⟨rfl, hf2⟩
  have HX2 := hide ((unhide HX).fr ((unhide H1).trans hf2 (fun _ _ h => h)))
  have HM2 := hide ((unhide HM).fr hf2)
  have H2 := hide ((unhide H1).trans hf2 (fun _ _ h => h))
  clear hf2 HM H1
  rcases fnd_cases l k with ⟨h1, h2⟩ | ⟨j, hj, h1, h2, h3⟩
  · rw [h2]
    simp only [Option.getD_none, Option.isSome_none, pv, p0]
    have hG := fun W (hf : Fr (fun _ => False) w2 W) => gfind_any (.slice xo l.length xc) l k W ((unhide HX2).fr hf) (by omega)
    simp only [fndI, h1] at hG
    have HG := hide hG
    clear hG h1 h2
    go_wp2_with fail
    refine ((unhide HG) _ ((Fr.refl _ _).alloc _)).mono ?_
    clear HG
    rintro e w3 ⟨rfl, rfl⟩
    have ne := ne_staff
    go_wp2_with fail
    go_quiet (fail)
    have hV := fun W (hf : Fr (fun _ => False) w2 W) => pvalid_any (.slice vo l.length vc) l W ((unhide HM2).fr hf).stf (by omega)
    have hW := fun W (hf : Fr (fun _ => False) w2 W) => gvalid_any (.slice xo l.length xc) l W ((unhide HX2).fr hf) (by omega)
    obtain ⟨B, hB⟩ : ∃ B, (decide (l.length ≤ 64) && okFrom 0 l) = B := ⟨_, rfl⟩
    rw [hB] at hV hW
    have HV := hide hV
    have HW := hide hW
    clear hB hV hW
    go_wp2_with fail
    refine ((unhide HV) _ (((Fr.refl _ _).alloc _).drewN _)).mono ?_
    rintro e w4 ⟨rfl, hf4⟩
    have H4 := hide ((((Fr.refl (fun _ => False) w2).alloc _).drewN _).trans hf4 (fun _ _ h => h))
    clear hf4
    go_wp2_with fail
    refine ((unhide HW) _ (unhide H4)).mono ?_
    rintro e w5 ⟨rfl, hf5⟩
    have H5 := hide ((unhide H4).trans hf5 (fun _ _ h => h))
    clear hf5
    go_wp2_with fail
    refine (awake10 _).mono ?_
    rintro e w6 ⟨rfl, hf6⟩
    go_wp2_with fail
    go_ret
    exact ⟨rfl, (unhide H2).trans ((unhide H5).trans hf6 (fun _ _ h => h)) (fun _ _ h => h)⟩
  · rw [h2]
    obtain ⟨P, hPe⟩ : ∃ P, l[j] = P := ⟨_, rfl⟩
    obtain ⟨g, o, rfl, c0, c1, c2⟩ := (unhide HX2).at_ j hj
    rw [hPe] at c0 c1 c2 ⊢
    obtain ⟨pa, pr, pw⟩ := P
    simp only at c0 c1 c2
    simp only [Option.getD_some, Option.isSome_some, pv]
    have hG := fun W (hf : Fr (fun _ => False) w2 W) => gfind_any (.slice (some ⟨g, o, none⟩) l.length xc) l k W ((unhide HX2).fr hf) (by omega)
    simp only [fndI, h1] at hG
    have HG := hide hG
    have hgl : g < w2.heap.size := lt_of_cell c0
    clear hG h1 h2 h3 hPe
    go_wp2_with fail
    refine ((unhide HG) _ ((Fr.refl _ _).alloc _)).mono ?_
    clear HG
    rintro e w3 ⟨rfl, rfl⟩
    have ne := ne_staff
    go_wp2_with fail
    go_quiet (fail)
    have hV := fun W (hf : Fr (fun _ => False) w2 W) => pvalid_any (.slice vo l.length vc) l W ((unhide HM2).fr hf).stf (by omega)
    have hW := fun W (hf : Fr (fun _ => False) w2 W) => gvalid_any (.slice (some ⟨g, o, none⟩) l.length xc) l W ((unhide HX2).fr hf) (by omega)
    obtain ⟨B, hB⟩ : ∃ B, (decide (l.length ≤ 64) && okFrom 0 l) = B := ⟨_, rfl⟩
    rw [hB] at hV hW
    have HV := hide hV
    have HW := hide hW
    clear hB hV hW
    go_wp2_with fail
    refine ((unhide HV) _ (((Fr.refl _ _).alloc _).drewN _)).mono ?_
    rintro e w4 ⟨rfl, hf4⟩
    have H4 := hide ((((Fr.refl (fun _ => False) w2).alloc _).drewN _).trans hf4 (fun _ _ h => h))
    clear hf4
    go_wp2_with fail
    refine ((unhide HW) _ (unhide H4)).mono ?_
    rintro e w5 ⟨rfl, hf5⟩
    have H5 := hide ((unhide H4).trans hf5 (fun _ _ h => h))
    clear hf5
    go_wp2_with fail
    refine (awake10 _).mono ?_
    rintro e w6 ⟨rfl, hf6⟩
    go_wp2_with fail
    go_ret
    exact ⟨rfl, (unhide H2).trans ((unhide H5).trans hf6 (fun _ _ h => h)) (fun _ _ h => h)⟩
end Go.Proofs.Ytficeloegepdkaa
