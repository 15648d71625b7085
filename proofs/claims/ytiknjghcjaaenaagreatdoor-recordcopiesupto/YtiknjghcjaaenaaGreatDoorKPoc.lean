import Derived.Test.YtiknjghcjaaenaaGreatDoorKPob
namespace Go.Proofs.YtiknjghcjaaenaaGreatDoor
open Go.RowKit
structure QM where
 sv : Value
 p : P3
 wd : Nat
 ow : Nat
 sl : Bool
 gv : Value
 fv : Value
 rs : ByteArray
theorem beq_cast (a b : Nat) : ((a : Int) == (b : Int)) = decide (a = b) := by
 rw [Bool.eq_iff_iff]; simp only [beq_iff_eq, decide_eq_true_eq]; omega
def QM.v (q : QM) : Value := .agg #[q.sv, .int .u32 (q.p.a : Nat), .int .u32 (q.p.r : Nat), .int .u32 (q.p.w : Nat), .int .u32 (q.wd : Nat), .int .u32 (q.ow : Nat), .bool q.sl, q.gv, q.fv, .string q.rs]
set_option maxRecDepth 100000 in
theorem isNear_any (q : QM) (w : World) : Calls Tryz.prog 127 #[q.v] w fun e w' => e = .returned (.bool (decide (q.p.w = q.wd))) ∧ Fr (fun _ => False) w w' := by
 obtain ⟨sv, ⟨pa, pr, pw⟩, wd, ow, sl, gv, fv, rs⟩ := q
 simp only [QM.v]
 go_enter Tryz.func127, Tryz.ntmps127
 go_wp2_with fail
 go_ret
 exact ⟨congrArg (fun b => Ending.returned (.bool b)) (beq_cast _ _), (Fr.refl _ _).alloc _⟩
set_option maxRecDepth 100000 in
theorem isOwner_any (q : QM) (w : World) : Calls Tryz.prog 130 #[q.v] w fun e w' => e = .returned (.bool (decide (q.p.a = q.ow))) ∧ Fr (fun _ => False) w w' := by
 obtain ⟨sv, ⟨pa, pr, pw⟩, wd, ow, sl, gv, fv, rs⟩ := q
 simp only [QM.v]
 go_enter Tryz.func130, Tryz.ntmps130
 go_wp2_with fail
 go_ret
 exact ⟨congrArg (fun b => Ending.returned (.bool b)) (beq_cast _ _), (Fr.refl _ _).alloc _⟩
set_option maxRecDepth 100000 in
theorem isGranted_any (q : QM) (G : List Nat) (w : World) (hg : Us w q.gv G) (hl : G.length ≤ 140737488355328) : Calls Tryz.prog 131 #[q.v] w fun e w' => e = .returned (.bool (decide (q.p.a ∈ G))) ∧ Fr (fun _ => False) w w' := by
 have HC := hide (fun o => contains_any q.gv G q.p.a _ (hg.fr (((Fr.refl (fun _ => False) w).alloc o))) hl)
 obtain ⟨xo, xc, hx⟩ := hg.form
 obtain ⟨sv, ⟨pa, pr, pw⟩, wd, ow, sl, gv, fv, rs⟩ := q
 simp only at hx HC
 subst hx
 clear hg
 simp only [QM.v]
 go_enter Tryz.func131, Tryz.ntmps131
 go_wp2_with (go_at_call 133; refine (unhide HC _).mono ?_; clear HC; rintro e w2 ⟨rfl, hf⟩)
 go_ret
 exact ⟨rfl, ((Fr.refl _ _).alloc _).trans hf (fun _ _ h => h)⟩
set_option maxRecDepth 100000 in
theorem is_any (q : QM) (G : List Nat) (x : Value) (w : World) (hg : Us w x G) (hl : G.length ≤ 140737488355328) : Calls Tryz.prog 128 #[q.v, x] w fun e w' => e = .returned (.bool (decide (q.p.r ∈ G))) ∧ Fr (fun _ => False) w w' := by
 have HC := hide (fun o => contains_any x G q.p.r _ (hg.fr (((Fr.refl (fun _ => False) w).alloc o))) hl)
 obtain ⟨xo, xc, rfl⟩ := hg.form
 obtain ⟨sv, ⟨pa, pr, pw⟩, wd, ow, sl, gv, fv, rs⟩ := q
 simp only at HC
 clear hg
 simp only [QM.v]
 go_enter Tryz.func128, Tryz.ntmps128
 go_wp2_with (go_at_call 133; refine (unhide HC _).mono ?_; clear HC; rintro e w2 ⟨rfl, hf⟩)
 go_ret
 exact ⟨rfl, ((Fr.refl _ _).alloc _).trans hf (fun _ _ h => h)⟩
def ownP (S : List P3) (ow : Nat) : Bool := match perso S ow with
 | some p => decide (p.r = 5)
 | none => false
set_option maxRecDepth 100000 in
theorem ownerIsPatient_any (q : QM) (S : List P3) (w : World) (hs : Stf w q.sv S) (hl : S.length ≤ 140737488355328) : Calls Tryz.prog 126 #[q.v] w fun e w' => e = .returned (.bool (ownP S q.ow)) ∧ Fr (fun _ => False) w w' := by
 have HC := hide (fun o => find_any q.sv S q.ow _ (hs.fr (((Fr.refl (fun _ => False) w).alloc o))) hl)
 obtain ⟨xo, xc, hx⟩ := hs.form
 obtain ⟨sv, ⟨pa, pr, pw⟩, wd, ow, sl, gv, fv, rs⟩ := q
 simp only at HC hx
 subst hx
 clear hs
 simp only [QM.v]
 unfold ownP
 rcases hp : perso S ow with _ | ⟨oa, or_, ow2⟩
 ·rw [hp] at HC
  simp only [Option.getD_none, Option.isSome_none, p0, pv] at HC
  clear hp
  go_enter Tryz.func126, Tryz.ntmps126
  go_wp2_with (go_at_call 37; refine (unhide HC _).mono ?_; clear HC; rintro e w2 ⟨rfl, hf⟩)
  go_ret
  exact ⟨rfl, (((Fr.refl _ _).alloc _).trans hf (fun _ _ h => h)).alloc _⟩
 ·rw [hp] at HC
  simp only [Option.getD_some, Option.isSome_some, pv] at HC
  clear hp
  go_enter Tryz.func126, Tryz.ntmps126
  go_wp2_with (go_at_call 37; refine (unhide HC _).mono ?_; clear HC; rintro e w2 ⟨rfl, hf⟩)
  go_ret
  exact ⟨congrArg (fun b => Ending.returned (.bool b)) (beq_cast or_ 5), (((Fr.refl _ _).alloc _).trans hf (fun _ _ h => h)).alloc _⟩
end Go.Proofs.YtiknjghcjaaenaaGreatDoor
