import Derived.Test.YtiknjghcjaaenaaGreatDoorKPoi
namespace Go.Proofs.YtiknjghcjaaenaaGreatDoor
open Go.RowKit
theorem QE.who {w : World} {q : QM} {S : List P3} {G : List Nat} {F : List F5} (h : QE w q S G F) (p : P3) : QE w { q with p := p } S G F := ⟨h.s, h.g, h.f, h.sl, h.gl, h.fl⟩
def ansv (S : List P3) (k : Nat) (f : P3 → Nat) : Nat := match perso S k with
 | none => 1
 | some p => f p
theorem ans_create (q : QM) (k : Nat) (S : List P3) (G : List Nat) (F : List F5) (w : World) (h : QE w q S G F) :
  Calls Tryz.prog 92 #[.int .i64 1, .int .u32 (k : Nat), q.v] w fun e w' => e = .returned (.int .u8 ((ansv S k fun p => if crF { q with p := p } S then 0 else whyCr { q with p := p } S : Nat) : Nat)) ∧ Fr (fun _ => False) w w' := by
 unfold ansv
 rcases hp : perso S k with _ | p
 ·exact answer_none 1 q k S w hp h.s h.sl
 ·exact answer_1 q k S w p hp h.s h.sl _ _ (fun W hf => mayCreate_any _ S G F W (hide ((h.who p).fr hf))) (fun W hf => whyNotCreate_any _ S G F W (hide ((h.who p).fr hf)))
theorem ans_amend (q : QM) (k : Nat) (S : List P3) (G : List Nat) (F : List F5) (w : World) (h : QE w q S G F) :
  Calls Tryz.prog 92 #[.int .i64 2, .int .u32 (k : Nat), q.v] w fun e w' => e = .returned (.int .u8 ((ansv S k fun p => if amF { q with p := p } G F then 0 else whyAm { q with p := p } G : Nat) : Nat)) ∧ Fr (fun _ => False) w w' := by
 unfold ansv
 rcases hp : perso S k with _ | p
 ·exact answer_none 2 q k S w hp h.s h.sl
 ·exact answer_2 q k S w p hp h.s h.sl _ _ (fun W hf => mayAmend_any _ S G F W (hide ((h.who p).fr hf))) (fun W hf => whyNotAmend_any _ S G F W (hide ((h.who p).fr hf)))
theorem ans_read (q : QM) (k : Nat) (S : List P3) (G : List Nat) (F : List F5) (w : World) (h : QE w q S G F) :
  Calls Tryz.prog 92 #[.int .i64 3, .int .u32 (k : Nat), q.v] w fun e w' => e = .returned (.int .u8 ((ansv S k fun p => if rdF { q with p := p } G then 0 else whyRd { q with p := p } : Nat) : Nat)) ∧ Fr (fun _ => False) w w' := by
 unfold ansv
 rcases hp : perso S k with _ | p
 ·exact answer_none 3 q k S w hp h.s h.sl
 ·exact answer_3 q k S w p hp h.s h.sl _ _ (fun W hf => mayRead_any _ S G F W (hide ((h.who p).fr hf))) (fun W hf => whyNotRead_any _ S G F W (hide ((h.who p).fr hf)))
theorem ans_redact (q : QM) (k : Nat) (S : List P3) (G : List Nat) (F : List F5) (w : World) (h : QE w q S G F) :
  Calls Tryz.prog 92 #[.int .i64 4, .int .u32 (k : Nat), q.v] w fun e w' => e = .returned (.int .u8 ((ansv S k fun p => if reF { q with p := p } then 0 else 5 : Nat) : Nat)) ∧ Fr (fun _ => False) w w' := by
 unfold ansv
 rcases hp : perso S k with _ | p
 ·exact answer_none 4 q k S w hp h.s h.sl
 ·exact answer_4 q k S w p hp h.s h.sl _ _ (fun W hf => mayRedact_any _ S G F W (hide ((h.who p).fr hf))) (fun W _ => notAllowed_any _ W)
theorem ans_history (q : QM) (k : Nat) (S : List P3) (G : List Nat) (F : List F5) (w : World) (h : QE w q S G F) :
  Calls Tryz.prog 92 #[.int .i64 5, .int .u32 (k : Nat), q.v] w fun e w' => e = .returned (.int .u8 ((ansv S k fun p => if hiF { q with p := p } G then 0 else whyRd { q with p := p } : Nat) : Nat)) ∧ Fr (fun _ => False) w w' := by
 unfold ansv
 rcases hp : perso S k with _ | p
 ·exact answer_none 5 q k S w hp h.s h.sl
 ·exact answer_5 q k S w p hp h.s h.sl _ _ (fun W hf => mayHistory_any _ S G F W (hide ((h.who p).fr hf))) (fun W hf => whyNotRead_any _ S G F W (hide ((h.who p).fr hf)))
theorem ans_seal (q : QM) (k : Nat) (S : List P3) (G : List Nat) (F : List F5) (w : World) (h : QE w q S G F) :
  Calls Tryz.prog 92 #[.int .i64 6, .int .u32 (k : Nat), q.v] w fun e w' => e = .returned (.int .u8 ((ansv S k fun p => if seF { q with p := p } then 0 else 5 : Nat) : Nat)) ∧ Fr (fun _ => False) w w' := by
 unfold ansv
 rcases hp : perso S k with _ | p
 ·exact answer_none 6 q k S w hp h.s h.sl
 ·exact answer_6 q k S w p hp h.s h.sl _ _ (fun W hf => maySeal_any _ S G F W (hide ((h.who p).fr hf))) (fun W _ => notAllowed_any _ W)
theorem ans_break (q : QM) (k : Nat) (S : List P3) (G : List Nat) (F : List F5) (w : World) (h : QE w q S G F) :
  Calls Tryz.prog 92 #[.int .i64 7, .int .u32 (k : Nat), q.v] w fun e w' => e = .returned (.int .u8 ((ansv S k fun p => if brF { q with p := p } then 0 else 5 : Nat) : Nat)) ∧ Fr (fun _ => False) w w' := by
 unfold ansv
 rcases hp : perso S k with _ | p
 ·exact answer_none 7 q k S w hp h.s h.sl
 ·exact answer_7 q k S w p hp h.s h.sl _ _ (fun W _ => mayBreak_any _ W) (fun W _ => notAllowed_any _ W)
theorem fds_nil (w : World) : Fds w (.slice none 0 0) [] := .inl ⟨_, _, rfl, rfl⟩
theorem us_nil (w : World) : Us w (.slice none 0 0) [] := .inl ⟨_, _, rfl, rfl⟩
set_option maxHeartbeats 2000000 in
set_option maxRecDepth 100000 in
theorem pread_any (sv : Value) (S : List P3) (wd ow : Nat) (sl : Bool) (gv : Value) (G : List Nat) (k : Nat)  (w : World) (hS : Stf w sv S) (hl : S.length ≤ 140737488355328) (hG : Us w gv G) (hgl : G.length ≤ 140737488355328) :
  Calls Tryz.prog 80 #[sv, .agg #[.int .u32 (wd : Nat), .int .u32 (ow : Nat), .bool sl, gv], .int .u32 (k : Nat)] w fun e w' => e = .returned (.int .u8 ((ansv S k fun p => if rdF (⟨sv, p, wd, ow, sl, gv, .slice none 0 0, ByteArray.empty⟩ : QM) G then 0 else whyRd (⟨sv, p, wd, ow, sl, gv, .slice none 0 0, ByteArray.empty⟩ : QM) : Nat) : Nat)) ∧ Fr (fun _ => False) w w' := by
 have HA := hide (fun W (hf : Fr (fun _ => False) w W) => ans_read ⟨sv, p0, wd, ow, sl, gv, .slice none 0 0, ByteArray.empty⟩ k S G [] W (QE.fr ⟨hS, hG, (fds_nil w), hl, hgl, (by simp)⟩ hf))
 simp only [QM.v, p0] at HA
 obtain ⟨xo, xc, rfl⟩ := hS.form
 obtain ⟨go, gc, rfl⟩ := hG.form
 clear hS hG
 go_enter Tryz.func80, Tryz.ntmps80
 go_wp2_with fail
 refine ((unhide HA) _ (by first | exact (Fr.refl _ _).alloc _ | exact Fr.refl _ _)).mono ?_
 clear HA
 rintro e w2 ⟨rfl, hf⟩
 go_wp2_with fail
 go_ret
 exact ⟨rfl, by first | exact ((Fr.refl _ _).alloc _).trans hf (fun _ _ h => h) | exact hf⟩
set_option maxHeartbeats 2000000 in
set_option maxRecDepth 100000 in
theorem phistory_any (sv : Value) (S : List P3) (wd ow : Nat) (sl : Bool) (gv : Value) (G : List Nat) (k : Nat)  (w : World) (hS : Stf w sv S) (hl : S.length ≤ 140737488355328) (hG : Us w gv G) (hgl : G.length ≤ 140737488355328) :
  Calls Tryz.prog 83 #[sv, .agg #[.int .u32 (wd : Nat), .int .u32 (ow : Nat), .bool sl, gv], .int .u32 (k : Nat)] w fun e w' => e = .returned (.int .u8 ((ansv S k fun p => if hiF (⟨sv, p, wd, ow, sl, gv, .slice none 0 0, ByteArray.empty⟩ : QM) G then 0 else whyRd (⟨sv, p, wd, ow, sl, gv, .slice none 0 0, ByteArray.empty⟩ : QM) : Nat) : Nat)) ∧ Fr (fun _ => False) w w' := by
 have HA := hide (fun W (hf : Fr (fun _ => False) w W) => ans_history ⟨sv, p0, wd, ow, sl, gv, .slice none 0 0, ByteArray.empty⟩ k S G [] W (QE.fr ⟨hS, hG, (fds_nil w), hl, hgl, (by simp)⟩ hf))
 simp only [QM.v, p0] at HA
 obtain ⟨xo, xc, rfl⟩ := hS.form
 obtain ⟨go, gc, rfl⟩ := hG.form
 clear hS hG
 go_enter Tryz.func83, Tryz.ntmps83
 go_wp2_with fail
 refine ((unhide HA) _ (by first | exact (Fr.refl _ _).alloc _ | exact Fr.refl _ _)).mono ?_
 clear HA
 rintro e w2 ⟨rfl, hf⟩
 go_wp2_with fail
 go_ret
 exact ⟨rfl, by first | exact ((Fr.refl _ _).alloc _).trans hf (fun _ _ h => h) | exact hf⟩
set_option maxHeartbeats 2000000 in
set_option maxRecDepth 100000 in
theorem predact_any (sv : Value) (S : List P3) (wd ow : Nat) (sl : Bool) (gv : Value) (G : List Nat) (k : Nat)  (w : World) (hS : Stf w sv S) (hl : S.length ≤ 140737488355328) (hG : Us w gv G) (hgl : G.length ≤ 140737488355328) :
  Calls Tryz.prog 81 #[sv, .agg #[.int .u32 (wd : Nat), .int .u32 (ow : Nat), .bool sl, gv], .int .u32 (k : Nat)] w fun e w' => e = .returned (.int .u8 ((ansv S k fun p => if reF (⟨sv, p, wd, ow, sl, gv, .slice none 0 0, ByteArray.empty⟩ : QM) then 0 else 5 : Nat) : Nat)) ∧ Fr (fun _ => False) w w' := by
 have HA := hide (fun W (hf : Fr (fun _ => False) w W) => ans_redact ⟨sv, p0, wd, ow, sl, gv, .slice none 0 0, ByteArray.empty⟩ k S G [] W (QE.fr ⟨hS, hG, (fds_nil w), hl, hgl, (by simp)⟩ hf))
 simp only [QM.v, p0] at HA
 obtain ⟨xo, xc, rfl⟩ := hS.form
 obtain ⟨go, gc, rfl⟩ := hG.form
 clear hS hG
 go_enter Tryz.func81, Tryz.ntmps81
 go_wp2_with fail
 refine ((unhide HA) _ (by first | exact (Fr.refl _ _).alloc _ | exact Fr.refl _ _)).mono ?_
 clear HA
 rintro e w2 ⟨rfl, hf⟩
 go_wp2_with fail
 go_ret
 exact ⟨rfl, by first | exact ((Fr.refl _ _).alloc _).trans hf (fun _ _ h => h) | exact hf⟩
set_option maxHeartbeats 2000000 in
set_option maxRecDepth 100000 in
theorem pseal_any (sv : Value) (S : List P3) (wd ow : Nat) (sl : Bool) (gv : Value) (G : List Nat) (k : Nat)  (w : World) (hS : Stf w sv S) (hl : S.length ≤ 140737488355328) (hG : Us w gv G) (hgl : G.length ≤ 140737488355328) :
  Calls Tryz.prog 85 #[sv, .agg #[.int .u32 (wd : Nat), .int .u32 (ow : Nat), .bool sl, gv], .int .u32 (k : Nat)] w fun e w' => e = .returned (.int .u8 ((ansv S k fun p => if seF (⟨sv, p, wd, ow, sl, gv, .slice none 0 0, ByteArray.empty⟩ : QM) then 0 else 5 : Nat) : Nat)) ∧ Fr (fun _ => False) w w' := by
 have HA := hide (fun W (hf : Fr (fun _ => False) w W) => ans_seal ⟨sv, p0, wd, ow, sl, gv, .slice none 0 0, ByteArray.empty⟩ k S G [] W (QE.fr ⟨hS, hG, (fds_nil w), hl, hgl, (by simp)⟩ hf))
 simp only [QM.v, p0] at HA
 obtain ⟨xo, xc, rfl⟩ := hS.form
 obtain ⟨go, gc, rfl⟩ := hG.form
 clear hS hG
 go_enter Tryz.func85, Tryz.ntmps85
 go_wp2_with fail
 refine ((unhide HA) _ (by first | exact (Fr.refl _ _).alloc _ | exact Fr.refl _ _)).mono ?_
 clear HA
 rintro e w2 ⟨rfl, hf⟩
 go_wp2_with fail
 go_ret
 exact ⟨rfl, by first | exact ((Fr.refl _ _).alloc _).trans hf (fun _ _ h => h) | exact hf⟩
set_option maxHeartbeats 2000000 in
set_option maxRecDepth 100000 in
theorem pamend_any (sv : Value) (S : List P3) (wd ow : Nat) (sl : Bool) (gv : Value) (G : List Nat) (k : Nat) (fv : Value) (F : List F5) (w : World) (hS : Stf w sv S) (hl : S.length ≤ 140737488355328) (hG : Us w gv G) (hgl : G.length ≤ 140737488355328) (hF : Fds w fv F) (hfl : F.length ≤ 140737488355328) :
  Calls Tryz.prog 76 #[sv, .agg #[.int .u32 (wd : Nat), .int .u32 (ow : Nat), .bool sl, gv], .int .u32 (k : Nat), fv] w fun e w' => e = .returned (.int .u8 ((ansv S k fun p => if amF (⟨sv, p, wd, ow, sl, gv, fv, ByteArray.empty⟩ : QM) G F then 0 else whyAm (⟨sv, p, wd, ow, sl, gv, fv, ByteArray.empty⟩ : QM) G : Nat) : Nat)) ∧ Fr (fun _ => False) w w' := by
 have HA := hide (fun W (hf : Fr (fun _ => False) w W) => ans_amend ⟨sv, p0, wd, ow, sl, gv, fv, ByteArray.empty⟩ k S G F W (QE.fr ⟨hS, hG, hF, hl, hgl, hfl⟩ hf))
 simp only [QM.v, p0] at HA
 obtain ⟨xo, xc, rfl⟩ := hS.form
 obtain ⟨go, gc, rfl⟩ := hG.form
 obtain ⟨fo, fc, rfl⟩ := hF.form
 clear hS hG hF
 go_enter Tryz.func76, Tryz.ntmps76
 go_wp2_with fail
 refine ((unhide HA) _ (by first | exact (Fr.refl _ _).alloc _ | exact Fr.refl _ _)).mono ?_
 clear HA
 rintro e w2 ⟨rfl, hf⟩
 go_wp2_with fail
 go_ret
 exact ⟨rfl, by first | exact ((Fr.refl _ _).alloc _).trans hf (fun _ _ h => h) | exact hf⟩
set_option maxHeartbeats 2000000 in
set_option maxRecDepth 100000 in
theorem pbreak_any (sv : Value) (S : List P3) (wd ow : Nat) (sl : Bool) (gv : Value) (G : List Nat) (k : Nat) (rs : ByteArray) (w : World) (hS : Stf w sv S) (hl : S.length ≤ 140737488355328) (hG : Us w gv G) (hgl : G.length ≤ 140737488355328) :
  Calls Tryz.prog 86 #[sv, .agg #[.int .u32 (wd : Nat), .int .u32 (ow : Nat), .bool sl, gv], .int .u32 (k : Nat), .string rs] w fun e w' => e = .returned (.int .u8 ((ansv S k fun p => if brF (⟨sv, p, wd, ow, sl, gv, .slice none 0 0, rs⟩ : QM) then 0 else 5 : Nat) : Nat)) ∧ Fr (fun _ => False) w w' := by
 have HA := hide (fun W (hf : Fr (fun _ => False) w W) => ans_break ⟨sv, p0, wd, ow, sl, gv, .slice none 0 0, rs⟩ k S G [] W (QE.fr ⟨hS, hG, (fds_nil w), hl, hgl, (by simp)⟩ hf))
 simp only [QM.v, p0] at HA
 obtain ⟨xo, xc, rfl⟩ := hS.form
 obtain ⟨go, gc, rfl⟩ := hG.form
 clear hS hG
 go_enter Tryz.func86, Tryz.ntmps86
 go_wp2_with fail
 refine ((unhide HA) _ (by first | exact (Fr.refl _ _).alloc _ | exact Fr.refl _ _)).mono ?_
 clear HA
 rintro e w2 ⟨rfl, hf⟩
 go_wp2_with fail
 go_ret
 exact ⟨rfl, by first | exact ((Fr.refl _ _).alloc _).trans hf (fun _ _ h => h) | exact hf⟩
set_option maxHeartbeats 2000000 in
set_option maxRecDepth 100000 in
theorem pcreate_any (sv : Value) (S : List P3) (k wd ow : Nat) (w : World) (hS : Stf w sv S) (hl : S.length ≤ 140737488355328) :
  Calls Tryz.prog 70 #[sv, .int .u32 (k : Nat), .int .u32 (wd : Nat), .int .u32 (ow : Nat)] w fun e w' => e = .returned (.int .u8 ((ansv S k fun p => if crF (⟨sv, p, wd, ow, false, .slice none 0 0, .slice none 0 0, ByteArray.empty⟩ : QM) S then 0 else whyCr (⟨sv, p, wd, ow, false, .slice none 0 0, .slice none 0 0, ByteArray.empty⟩ : QM) S : Nat) : Nat)) ∧ Fr (fun _ => False) w w' := by
 have HA := hide (fun W (hf : Fr (fun _ => False) w W) => ans_create ⟨sv, p0, wd, ow, false, .slice none 0 0, .slice none 0 0, ByteArray.empty⟩ k S [] [] W (QE.fr ⟨hS, us_nil w, fds_nil w, hl, by simp, by simp⟩ hf))
 simp only [QM.v, p0] at HA
 obtain ⟨xo, xc, rfl⟩ := hS.form
 clear hS
 go_enter Tryz.func70, Tryz.ntmps70
 go_wp2_with fail
 refine ((unhide HA) _ (by first | exact (Fr.refl _ _).alloc _ | exact Fr.refl _ _)).mono ?_
 clear HA
 rintro e w2 ⟨rfl, hf⟩
 go_wp2_with fail
 go_ret
 exact ⟨rfl, by first | exact ((Fr.refl _ _).alloc _).trans hf (fun _ _ h => h) | exact hf⟩
end Go.Proofs.YtiknjghcjaaenaaGreatDoor
