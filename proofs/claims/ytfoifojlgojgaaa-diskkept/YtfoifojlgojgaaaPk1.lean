import Derived.Test.YtfoifojlgojgaaaDku
import Derived.Test.YtfoifojlgojgaaaDkr
namespace Go.Proofs.Ytfoifojlgojgaaa
open Go.ChangeShapes Go.WideShapes Go.ChangeAt Go.RowKit
set_option maxRecDepth 100000

theorem dkeptF_lifted (os : Os) (started : os.Started) (H : Type) (enc : TypeId × Value → H) :
    ReturnsInHanded {} Try.checked os 6 .any (Rows.diskKeptSpec.pre6 enc Try.prog Try.f6 Rows.diskKeptRow.domain false) (Rows.diskKeptSpec.post enc Try.prog Try.f6 false true false false) := by
  refine returnsInHanded_of_change_sized (C := Try.checked) Try.ownKnob started (by kernel_rfl) Try.func6
    (ChangeSpec.witness6 (enc := enc) (C := Try.checked) false ⟨#[], #[.slice none 0 0], []⟩ 8 (by kernel_rfl) (by kernel_rfl) (by kernel_rfl) (by kernel_rfl)) ?_
  intro W base args ds gs before hval0 hW _ hsz0 _
  have hval : ∀ (j : Nat) t v, Try.f6.params[j]? = some t → args[j]? = some v → Value.okWide Try.prog W .any base t v := hval0
  have hsz : (DataW.weightsEach Try.prog (Try.f6.params.toList ++ Rows.diskKeptSpec.plain.varTypes Try.prog) (ds ++ gs)).all (· ≤ reachBytes) = true := hsz0
  have hW' := hW
  obtain ⟨p, q, hA0, hV, rfl, hfz, hnd⟩ := hW
  have hA : DataW.TrodAll enc Try.prog W 0 (fun _ => true) true Try.f6.params.toList args.toList ds p := hA0
  rw [Try.params6] at hA hval hsz
  obtain ⟨v0, vs0, d0, ds0, p0, q0, hargs, rfl, rfl, h0, r0⟩ := trodAll_cons hA
  obtain ⟨rfl, rfl, rfl⟩ := trodAll_nil r0
  obtain rfl : args = #[v0] := by cases args; simp_all
  obtain ⟨rfl, rfl⟩ := trodVars_none hV
  obtain ⟨l, hs, hcp, _, hd⟩ := src_of_reading (hval 0 28 v0 rfl rfl) h0
  have hl : l.length ≤ 140737488355328 := by
    rcases hd with rfl | ⟨es, sp, rfl, hle⟩
    · exact Nat.zero_le _
    · have := sized_slice hsz (j := 0) (t := 28) (e := 5) rfl rfl Try.underlying28
      rw [Try.bytesU8] at this
      simp only [reachBytes] at this
      omega
  clear hA0 hval0
  obtain ⟨xo, xc, rfl⟩ := hs.form
  have hcap := hcp _ _ _ rfl
  have hdata : ∃ data : List Nat, Src W (.slice xo data.length xc) data ∧ (l.length = data.length ∧ data.length ≤ 1048576 ∨ 1048576 < l.length ∧ data.length = 1048576) := by
    by_cases hb : l.length ≤ 1048576
    · exact ⟨l, hs, .inl ⟨rfl, hb⟩⟩
    · have hle : (l.take 1048576).length = 1048576 := by rw [List.length_take]; omega
      exact ⟨l.take 1048576, by rw [hle]; exact hs.takeN 1048576 (by omega), .inr ⟨by omega, hle⟩⟩
  obtain ⟨data, hsd, hcase⟩ := hdata
  refine (dkeptF_any l.length data xo xc W hsd hcap (by omega) hcase).mono fun e W' ⟨he, hf⟩ => ?_
  subst he
  have hlt : ∀ x ∈ p0 ++ [], x.block < W.heap.size := fun x hx => hW'.lt x (by simpa using hx)
  have hb := hf.below
  refine ⟨_, rfl, _, _, _, [], p0 ++ [], [], hW', ?_, ?_, ?_, hb.frame _, fun h => by cases h⟩
  · exact trodAll_cons_mk (shut_bool Try.underlying4 true) trodAll_mk0
  · exact trodAll_cons_mk (Below.trod (by kernel_rfl) (by kernel_rfl) (by decide +kernel) h0 hb (fun x hx => hlt x (by simp [hx]))) trodAll_mk0
  · rfl
theorem dkeptF_said : Rows.DiskKeptSaid :=
  OpenClaim.holds_of_wide 6 Try.f6 rfl rfl rfl rfl rfl rfl rfl ⟨rfl, rfl, rfl, rfl, rfl⟩ rfl rfl rfl rfl rfl (by kernel_rfl) Try.func6 (by kernel_rfl)
    (of_decide_eq_true (by kernel_rfl)) (by unfold Func.isWrapper; first | (rw [if_pos (by decide +kernel)]; kernel_rfl) | (rw [if_neg (by decide +kernel)]; exact ⟨rfl, rfl⟩))
    (fun os started H enc _ => dkeptF_lifted os started H enc)
#print axioms dkeptF_said
end Go.Proofs.Ytfoifojlgojgaaa

