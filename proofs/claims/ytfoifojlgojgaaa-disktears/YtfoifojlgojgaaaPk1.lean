import Derived.Test.YtfoifojlgojgaaaDlka
import Derived.Test.YtfoifojlgojgaaaDlkb
import Derived.Test.YtfoifojlgojgaaaDlkc
import Derived.Test.YtfoifojlgojgaaaDlkd
import Derived.Test.YtfoifojlgojgaaaDkr
namespace Go.Proofs.Ytfoifojlgojgaaa
open Go.ChangeShapes Go.WideShapes Go.ChangeAt Go.RowKit
set_option maxRecDepth 100000

/-- DiskTears. -/
theorem tears_any (N : Nat) (pc : List Nat) (synced torn b keep : Int) (xo : Option Addr) (xc : Nat) (w : World) (hx : Src w (.slice xo pc.length xc) pc) (hN : N ≤ xc) (hN2 : N < 9223372036854775808) (hcase : N = pc.length ∧ pc.length ≤ 200 ∨ 200 < N ∧ pc.length = 200) (hkr : keep ≤ 9223372036854775807) (hbr : b ≤ 9223372036854775807) :
    Calls Try.prog 5 #[.slice xo N xc, .int .i64 synced, .int .i64 torn, .int .i64 b, .int .i64 keep] w fun e w' => e = .returned (.bool true) ∧ Fr (fun _ => False) w w' := by
  by_cases h0 : torn ≤ 0
  · exact tears_a N pc synced torn b keep xo xc w hx hN hN2 hcase h0 hkr
  · by_cases h1 : (pc.length : Int) < torn
    · exact tears_b N pc synced torn b keep xo xc w hx hN hN2 hcase (by omega) h1 hkr
    · by_cases h2 : b < 0
      · exact tears_c N pc synced torn b keep xo xc w hx hN hN2 hcase (by omega) (by omega) h2 hkr
      · exact tears_d N pc synced torn b keep xo xc w hx hN hN2 hcase (by omega) (by omega) (by omega) hbr hkr
theorem dtears_lifted (os : Os) (started : os.Started) (H : Type) (enc : TypeId × Value → H) :
    ReturnsInHanded {} Try.checked os 5 .any (Rows.diskTearsSpec.pre6 enc Try.prog Try.f5 Rows.diskTearsRow.domain false) (Rows.diskTearsSpec.post enc Try.prog Try.f5 false true false false) := by
  refine returnsInHanded_of_change_sized (C := Try.checked) Try.ownKnob started (by kernel_rfl) Try.func5
    (ChangeSpec.witness6 (enc := enc) (C := Try.checked) false ⟨#[], #[.slice none 0 0, .int .i64 0, .int .i64 0, .int .i64 0, .int .i64 0], []⟩ 8 (by kernel_rfl) (by kernel_rfl) (by kernel_rfl) (by kernel_rfl)) ?_
  intro W base args ds gs before hval0 hW _ hsz0 _
  have hval : ∀ (j : Nat) t v, Try.f5.params[j]? = some t → args[j]? = some v → Value.okWide Try.prog W .any base t v := hval0
  have hsz : (DataW.weightsEach Try.prog (Try.f5.params.toList ++ Rows.diskTearsSpec.plain.varTypes Try.prog) (ds ++ gs)).all (· ≤ reachBytes) = true := hsz0
  have hW' := hW
  obtain ⟨p, q, hA0, hV, rfl, hfz, hnd⟩ := hW
  have hA : DataW.TrodAll enc Try.prog W 0 (fun _ => true) true Try.f5.params.toList args.toList ds p := hA0
  rw [Try.params5] at hA hval hsz
  obtain ⟨v0, vs0, d0, ds0, p0, q0, hargs, rfl, rfl, h0, r0⟩ := trodAll_cons hA
  obtain ⟨v1, vs1, d1, ds1, p1, q1, rfl, rfl, rfl, h1, r1⟩ := trodAll_cons r0
  obtain ⟨v2, vs2, d2, ds2, p2, q2, rfl, rfl, rfl, h2, r2⟩ := trodAll_cons r1
  obtain ⟨v3, vs3, d3, ds3, p3, q3, rfl, rfl, rfl, h3, r3⟩ := trodAll_cons r2
  obtain ⟨v4, vs4, d4, ds4, p4, q4, rfl, rfl, rfl, h4, r4⟩ := trodAll_cons r3
  obtain ⟨rfl, rfl, rfl⟩ := trodAll_nil r4
  obtain rfl : args = #[v0, v1, v2, v3, v4] := by cases args; simp_all
  obtain ⟨rfl, rfl⟩ := trodVars_none hV
  obtain ⟨l, hs, hcp, _, hd⟩ := src_of_reading (hval 0 28 v0 rfl rfl) h0
  obtain ⟨a1, rfl, rfl, rfl, w1⟩ := open_int Try.underlying3 (hval 1 3 v1 rfl rfl) h1
  obtain ⟨a2, rfl, rfl, rfl, w2⟩ := open_int Try.underlying3 (hval 2 3 v2 rfl rfl) h2
  obtain ⟨a3, rfl, rfl, rfl, w3⟩ := open_int Try.underlying3 (hval 3 3 v3 rfl rfl) h3
  obtain ⟨a4, rfl, rfl, rfl, w4⟩ := open_int Try.underlying3 (hval 4 3 v4 rfl rfl) h4
  have hl : l.length ≤ 140737488355328 := by
    rcases hd with rfl | ⟨es, sp, rfl, hle⟩
    · exact Nat.zero_le _
    · have := sized_slice hsz (j := 0) (t := 28) (e := 5) rfl rfl Try.underlying28
      rw [Try.bytesU8] at this
      simp only [reachBytes] at this
      omega
  clear hA0 hval0
  obtain ⟨xo, xc, rfl⟩ := hs.form
  have hcap := hcp _ _ _ rfl
  have hdata : ∃ data : List Nat, Src W (.slice xo data.length xc) data ∧ (l.length = data.length ∧ data.length ≤ 200 ∨ 200 < l.length ∧ data.length = 200) := by
    by_cases hb : l.length ≤ 200
    · exact ⟨l, hs, .inl ⟨rfl, hb⟩⟩
    · have hle : (l.take 200).length = 200 := by rw [List.length_take]; omega
      exact ⟨l.take 200, by rw [hle]; exact hs.takeN 200 (by omega), .inr ⟨by omega, hle⟩⟩
  obtain ⟨data, hsd, hcase⟩ := hdata
  have hk4 := bounds_i64 w4
  have hk3 := bounds_i64 w3
  refine (tears_any l.length data a1 a2 a3 a4 xo xc W hsd hcap (by omega) hcase (by omega) (by omega)).mono fun e W' ⟨he, hf⟩ => ?_
  subst he
  have hlt : ∀ x ∈ p0 ++ ([] ++ ([] ++ ([] ++ ([] ++ [])))), x.block < W.heap.size := fun x hx => hW'.lt x (by simpa using hx)
  have hb := hf.below
  refine ⟨_, rfl, _, _, _, [], p0 ++ ([] ++ ([] ++ ([] ++ ([] ++ [])))), [], hW', ?_, ?_, ?_, hb.frame _, fun h => by cases h⟩
  · exact trodAll_cons_mk (shut_bool Try.underlying4 true) trodAll_mk0
  · exact trodAll_cons_mk (Below.trod (by kernel_rfl) (by kernel_rfl) (by decide +kernel) h0 hb (fun x hx => hlt x (by simp [hx]))) (trodAll_cons_mk (shut_int Try.underlying3 w1) (trodAll_cons_mk (shut_int Try.underlying3 w2) (trodAll_cons_mk (shut_int Try.underlying3 w3) (trodAll_cons_mk (shut_int Try.underlying3 w4) trodAll_mk0))))
  · rfl
theorem dtears_said : Rows.DiskTearsSaid :=
  OpenClaim.holds_of_wide 5 Try.f5 rfl rfl rfl rfl rfl rfl rfl ⟨rfl, rfl, rfl, rfl, rfl⟩ rfl rfl rfl rfl rfl (by kernel_rfl) Try.func5 (by kernel_rfl)
    (of_decide_eq_true (by kernel_rfl)) (by unfold Func.isWrapper; first | (rw [if_pos (by decide +kernel)]; kernel_rfl) | (rw [if_neg (by decide +kernel)]; exact ⟨rfl, rfl⟩))
    (fun os started H enc _ => dtears_lifted os started H enc)
#print axioms dtears_said
end Go.Proofs.Ytfoifojlgojgaaa

