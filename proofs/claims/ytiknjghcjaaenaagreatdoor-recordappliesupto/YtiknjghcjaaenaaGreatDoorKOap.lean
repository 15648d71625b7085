import Derived.Test.YtiknjghcjaaenaaGreatDoorKOao
namespace Go.Proofs.YtiknjghcjaaenaaGreatDoor
open Go.RowKit Go.Shelf
def measL : List Nat := [0, 1, 1, 1, 1, 1, 2, 2, 3, 3, 3, 4, 4, 4, 5, 5, 6, 6, 7, 7, 8, 8]
def isU (a : Nat) : Bool := decide (1 ≤ a) && decide (a ≤ 21)
def sameU (a b : Nat) : Bool := isU a && (isU b && (((measL.getD a 0 : Nat) : Int) == ((measL.getD b 0 : Nat) : Int)))
def GU (w : World) : Prop := ∀ i, i < 22 → w.cell? ⟨1, i * 5 + 1, none⟩ = some (.int .u8 ((measL.getD i 0 : Nat) : Int))
theorem GU.fr {w w' : World} (h : GU w) (hf : Fr (fun _ => False) w w') : GU w' := fun i hi => (hf.cell (p := ⟨_, _, none⟩) (lt_of_cell (h i hi)) (fun h => h)).trans (h i hi)
set_option maxRecDepth 100000 in
theorem isUnit_any (a : Nat) (w : World) (ha : a < 256) : Calls Tryz.prog 105 #[.int .u8 (a : Nat)] w fun e w' => e = .returned (.bool (isU a)) ∧ w' = w := by
 by_cases h1 : 1 ≤ a
 ·have a1 : ¬ (a : Int) < 1 := by omega
  have a4 : IntKind.i64.wrap (a : Int) = (a : Int) := by rw [IntKind.wrap_i64]; omega
  have e : isU a = decide ((a : Int) ≤ 21) := by
   simp only [isU, decide_eq_true h1, Bool.true_and]
   rw [decide_eq_decide]
   omega
  rw [e]
  have HU := hide units_any
  go_enter Tryz.func105, Tryz.ntmps105
  go_wp2_with fail
  refine ((unhide HU) _).mono ?_
  rintro e w' ⟨rfl, rfl⟩
  go_wp2_with fail
  go_ret
  exact ⟨rfl, rfl⟩
 ·obtain rfl : a = 0 := by omega
  go_enter Tryz.func105, Tryz.ntmps105
  go_wp2_with fail
  go_ret
  exact ⟨rfl, rfl⟩
set_option maxHeartbeats 2000000 in
set_option maxRecDepth 100000 in
theorem sameU_any (a b : Nat) (w : World) (ha : a < 256) (hb : b < 256) (hg : GU w) : Calls Tryz.prog 98 #[.int .u8 (a : Nat), .int .u8 (b : Nat)] w fun e w' => e = .returned (.bool (sameU a b)) ∧ ∃ q, w' = w.drewN q := by
 have HA := hide (fun W => isUnit_any a W ha)
 have HB := hide (fun W => isUnit_any b W hb)
 unfold sameU
 cases h1 : isU a with
 | false =>
  rw [h1] at HA
  go_enter Tryz.func98, Tryz.ntmps98
  go_wp2_with fail
  go_quiet (first | (go_at_call 105; with_reducible exact Calls.quiet_of_same ((unhide HA) _)))
  go_wp2_with fail
  go_ret
  exact ⟨rfl, _, rfl⟩
 | true =>
  rw [h1] at HA
  cases h2 : isU b with
  | false =>
   rw [h2] at HB
   go_enter Tryz.func98, Tryz.ntmps98
   go_wp2_with fail
   go_quiet (first | (go_at_call 105; with_reducible exact Calls.quiet_of_same ((unhide HA) _)) | (go_at_call 105; with_reducible exact Calls.quiet_of_same ((unhide HB) _)))
   go_wp2_with fail
   go_ret
   exact ⟨rfl, _, rfl⟩
  | true =>
   rw [h2] at HB
   have ha2 : a ≤ 21 := by simp [isU] at h1; omega
   have hb2 : b ≤ 21 := by simp [isU] at h2; omega
   have ca := hg a (by omega)
   have cb := hg b (by omega)
   have ia : (a : Int) < 22 := by omega
   have ib : (b : Int) < 22 := by omega
   have ia0 : (0 : Int) ≤ (a : Int) := by omega
   have ib0 : (0 : Int) ≤ (b : Int) := by omega
   generalize ((measL.getD a 0 : Nat) : Int) = X at *
   generalize ((measL.getD b 0 : Nat) : Int) = Y at *
   go_enter Tryz.func98, Tryz.ntmps98
   go_wp2_with fail
   go_quiet (first | (go_at_call 105; with_reducible exact Calls.quiet_of_same ((unhide HA) _)) | (go_at_call 105; with_reducible exact Calls.quiet_of_same ((unhide HB) _)))
   go_wp2_with fail
   go_ret
   exact ⟨rfl, _, rfl⟩
set_option maxRecDepth 100000 in
theorem areQ_any (f g : F5) (w : World) : Calls Tryz.prog 97 #[f.val, g.val] w fun e w' => e = .returned (.bool (decide (f.k = 2) && decide (g.k = 2))) ∧ Fr (fun _ => False) w w' := by
 obtain ⟨n, k, t, v, u⟩ := f
 obtain ⟨n', k', t', v', u'⟩ := g
 simp only [F5.val, F5.cs]
 by_cases h1 : k = 2
 ·subst h1
  have e : decide (k' = 2) = ((k' : Int) == 2) := by
   rw [Bool.eq_iff_iff]; simp; omega
  rw [e]
  go_enter Tryz.func97, Tryz.ntmps97
  go_wp2_with fail
  go_ret
  exact ⟨rfl, (box1 w _).trans (box1 _ _) (fun _ _ h => h)⟩
 ·have b1 : ((k : Int) == 2) = false := by rw [beq_eq_false_iff_ne]; omega
  rw [decide_eq_false h1]
  go_enter Tryz.func97, Tryz.ntmps97
  go_wp2_with fail
  go_ret
  exact ⟨rfl, (box1 w _).trans (box1 _ _) (fun _ _ h => h)⟩
end Go.Proofs.YtiknjghcjaaenaaGreatDoor
