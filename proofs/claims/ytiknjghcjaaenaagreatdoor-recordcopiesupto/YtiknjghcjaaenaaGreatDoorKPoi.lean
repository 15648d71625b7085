import Derived.Test.YtiknjghcjaaenaaGreatDoorKPoh
namespace Go.Proofs.YtiknjghcjaaenaaGreatDoor
open Go.RowKit
theorem box10 {W : World} {b : Nat} {x0 x1 x2 x3 x4 x5 x6 x7 x8 x9 : Value} {t : TypeId} (hb : W.heap[b]? = some (.cells #[x0, x1, x2, x3, x4, x5, x6, x7, x8, x9] t)) :
  W.cell? ⟨b, 0, none⟩ = some x0 ∧ W.cell? ⟨b, 1, none⟩ = some x1 ∧ W.cell? ⟨b, 2, none⟩ = some x2 ∧ W.cell? ⟨b, 3, none⟩ = some x3 ∧ W.cell? ⟨b, 4, none⟩ = some x4 ∧ W.cell? ⟨b, 5, none⟩ = some x5 ∧ W.cell? ⟨b, 6, none⟩ = some x6 ∧ W.cell? ⟨b, 7, none⟩ = some x7 ∧ W.cell? ⟨b, 8, none⟩ = some x8 ∧ W.cell? ⟨b, 9, none⟩ = some x9 ∧ ∀ i, W.frozen? ⟨b, i, none⟩ = false := by
 refine ⟨?_, ?_, ?_, ?_, ?_, ?_, ?_, ?_, ?_, ?_, fun i => ?_⟩
 iterate 10 (simp only [World.cell?, hb]; rfl)
 simp [World.frozen?, hb]
theorem box_set {w2 : World} {b : Nat} {x0 x1 x2 x3 x4 x5 x6 x7 x8 x9 : Value} (y1 y2 y3 : Value) (o : Obj) (hsz : b < w2.heap.size) (c0 : w2.cell? ⟨b, 0, none⟩ = some x0) (c1 : w2.cell? ⟨b, 1, none⟩ = some x1) (c2 : w2.cell? ⟨b, 2, none⟩ = some x2) (c3 : w2.cell? ⟨b, 3, none⟩ = some x3) (c4 : w2.cell? ⟨b, 4, none⟩ = some x4) (c5 : w2.cell? ⟨b, 5, none⟩ = some x5) (c6 : w2.cell? ⟨b, 6, none⟩ = some x6) (c7 : w2.cell? ⟨b, 7, none⟩ = some x7) (c8 : w2.cell? ⟨b, 8, none⟩ = some x8) (c9 : w2.cell? ⟨b, 9, none⟩ = some x9) :
  let W := (((w2.setCell ⟨b, 1, none⟩ y1).setCell ⟨b, 2, none⟩ y2).setCell ⟨b, 3, none⟩ y3).alloc o
  W.cell? ⟨b, 0, none⟩ = some x0 ∧ W.cell? ⟨b, 1, none⟩ = some y1 ∧ W.cell? ⟨b, 2, none⟩ = some y2 ∧ W.cell? ⟨b, 3, none⟩ = some y3 ∧ W.cell? ⟨b, 4, none⟩ = some x4 ∧ W.cell? ⟨b, 5, none⟩ = some x5 ∧ W.cell? ⟨b, 6, none⟩ = some x6 ∧ W.cell? ⟨b, 7, none⟩ = some x7 ∧ W.cell? ⟨b, 8, none⟩ = some x8 ∧ W.cell? ⟨b, 9, none⟩ = some x9 := by
 refine ⟨?_, ?_, ?_, ?_, ?_, ?_, ?_, ?_, ?_, ?_⟩
 all_goals go_simp
set_option maxHeartbeats 2000000 in
set_option maxRecDepth 100000 in
theorem answer_1 (q : QM) (k : Nat) (S : List P3) (w : World) (p : P3) (hp : perso S k = some p) (hS : Stf w q.sv S) (hl : S.length ≤ 140737488355328) (m : Bool) (y : Nat)
  (hm : ∀ W, Fr (fun _ => False) w W → Calls Tryz.prog 111 #[({ q with p := p } : QM).v] W fun e w' => e = .returned (.bool m) ∧ Fr (fun _ => False) W w')
  (hy : ∀ W, Fr (fun _ => False) w W → Calls Tryz.prog 112 #[({ q with p := p } : QM).v] W fun e w' => e = .returned (.int .u8 (y : Nat)) ∧ Fr (fun _ => False) W w') :
  Calls Tryz.prog 92 #[.int .i64 1, .int .u32 (k : Nat), q.v] w fun e w' => e = .returned (.int .u8 ((if m then 0 else y : Nat) : Nat)) ∧ Fr (fun _ => False) w w' := by
 have HF := hide (fun o => find_any q.sv S k _ (hS.fr (((Fr.refl (fun _ => False) w).alloc o))) hl)
 have HM := hide hm
 have HY := hide hy
 obtain ⟨xo, xc, hxe⟩ := hS.form
 rw [hp] at HF
 simp only [Option.getD_some, Option.isSome_some, pv, hxe] at HF
 clear hm hy hS hp
 simp only [QM.v, hxe] at HM HY ⊢
 go_enter Tryz.func92, Tryz.ntmps92
 go_wp2_with fail
 refine (unhide HF _).mono ?_
 clear HF
 rintro e w2 ⟨rfl, hf2⟩
 have hsz : w.heap.size < w2.heap.size := Nat.lt_of_lt_of_le (by simp) hf2.size
 have hbx := (hf2.block w.heap.size (by simp) (fun h => h)).trans Array.getElem?_push_size
 have HFr := hide ((((Fr.refl (fun _ => False) w).alloc _).trans hf2 (fun _ _ h => h)))
 obtain ⟨c0, c1, c2, c3, c4, c5, c6, c7, c8, c9, fz⟩ := box10 hbx
 have z1 := fz 1
 have z2 := fz 2
 have z3 := fz 3
 clear fz hf2 hbx
 go_wp2_with fail
 obtain ⟨W3, hW3⟩ : ∃ W3, (((w2.setCell ⟨w.heap.size, 1, none⟩ (.int .u32 (p.a : Nat))).setCell ⟨w.heap.size, 2, none⟩ (.int .u32 (p.r : Nat))).setCell ⟨w.heap.size, 3, none⟩ (.int .u32 (p.w : Nat))).alloc (.cells #[.int .u32 (p.a : Nat), .int .u32 (p.r : Nat), .int .u32 (p.w : Nat)] 33) = W3 := ⟨_, rfl⟩
 have hD := box_set (.int .u32 (p.a : Nat)) (.int .u32 (p.r : Nat)) (.int .u32 (p.w : Nat)) (.cells #[.int .u32 (p.a : Nat), .int .u32 (p.r : Nat), .int .u32 (p.w : Nat)] 33) hsz c0 c1 c2 c3 c4 c5 c6 c7 c8 c9
 simp only [hW3] at hD
 obtain ⟨d0, d1, d2, d3, d4, d5, d6, d7, d8, d9⟩ := hD
 have hF3 : Fr (fun _ => False) w W3 := by
  rw [← hW3]
  exact ((((unhide HFr).setCell (.inr (Nat.le_refl _)) _).setCell (.inr (Nat.le_refl _)) _).setCell (.inr (Nat.le_refl _)) _).alloc _
 rw [hW3]
 clear hW3 c0 c1 c2 c3 c4 c5 c6 c7 c8 c9 z1 z2 z3 HFr hsz
 have hR := rules_any W3
 simp only [rulesV, rulesL] at hR
 refine hR.mono ?_
 clear hR
 rintro e w4 ⟨rfl, hf4⟩
 have hl3 : w.heap.size < W3.heap.size := lt_of_cell d0
 replace d0 := (hf4.cell (p := ⟨w.heap.size, 0, none⟩) hl3 (fun h => h)).trans d0
 replace d1 := (hf4.cell (p := ⟨w.heap.size, 1, none⟩) hl3 (fun h => h)).trans d1
 replace d2 := (hf4.cell (p := ⟨w.heap.size, 2, none⟩) hl3 (fun h => h)).trans d2
 replace d3 := (hf4.cell (p := ⟨w.heap.size, 3, none⟩) hl3 (fun h => h)).trans d3
 replace d4 := (hf4.cell (p := ⟨w.heap.size, 4, none⟩) hl3 (fun h => h)).trans d4
 replace d5 := (hf4.cell (p := ⟨w.heap.size, 5, none⟩) hl3 (fun h => h)).trans d5
 replace d6 := (hf4.cell (p := ⟨w.heap.size, 6, none⟩) hl3 (fun h => h)).trans d6
 replace d7 := (hf4.cell (p := ⟨w.heap.size, 7, none⟩) hl3 (fun h => h)).trans d7
 replace d8 := (hf4.cell (p := ⟨w.heap.size, 8, none⟩) hl3 (fun h => h)).trans d8
 replace d9 := (hf4.cell (p := ⟨w.heap.size, 9, none⟩) hl3 (fun h => h)).trans d9
 have HF4 := hide (hF3.trans hf4 (fun _ _ h => h))
 have hl4 : w.heap.size < w4.heap.size := lt_of_cell d0
 clear hF3 hf4 hl3
 have hix : ∀ W, (Instr.index 152 rulesV (.int .i64 1)).run Tryz.prog W = .ok (.agg #[.func (.func 111) #[] #[], .func (.func 112) #[] #[]]) W := fun W => by kernel_rfl
 simp only [rulesV, rulesL] at hix
 go_wp2_with fail
 refine ((unhide HM) _ ((unhide HF4).alloc _)).mono ?_
 clear HM hix
 rintro e w5 ⟨rfl, hf5⟩
 have HF5 := hide (((unhide HF4).alloc _).trans hf5 (fun _ _ h => h))
 rcases m with _ | _
 ·have hrow := (hf5.block w4.heap.size (by simp) (fun h => h)).trans Array.getElem?_push_size
  have r1 : w5.cell? ⟨w4.heap.size, 1, none⟩ = some (.func (.func 112) #[] #[]) := by simp only [World.cell?, hrow]; rfl
  have f5 : Fr (fun _ => False) w4 w5 := ((Fr.refl _ _).alloc _).trans hf5 (fun _ _ h => h)
  replace d0 := (f5.cell (p := ⟨w.heap.size, 0, none⟩) hl4 (fun h => h)).trans d0
  replace d1 := (f5.cell (p := ⟨w.heap.size, 1, none⟩) hl4 (fun h => h)).trans d1
  replace d2 := (f5.cell (p := ⟨w.heap.size, 2, none⟩) hl4 (fun h => h)).trans d2
  replace d3 := (f5.cell (p := ⟨w.heap.size, 3, none⟩) hl4 (fun h => h)).trans d3
  replace d4 := (f5.cell (p := ⟨w.heap.size, 4, none⟩) hl4 (fun h => h)).trans d4
  replace d5 := (f5.cell (p := ⟨w.heap.size, 5, none⟩) hl4 (fun h => h)).trans d5
  replace d6 := (f5.cell (p := ⟨w.heap.size, 6, none⟩) hl4 (fun h => h)).trans d6
  replace d7 := (f5.cell (p := ⟨w.heap.size, 7, none⟩) hl4 (fun h => h)).trans d7
  replace d8 := (f5.cell (p := ⟨w.heap.size, 8, none⟩) hl4 (fun h => h)).trans d8
  replace d9 := (f5.cell (p := ⟨w.heap.size, 9, none⟩) hl4 (fun h => h)).trans d9
  have hl5 : w.heap.size < w5.heap.size := lt_of_cell d0
  clear hf5 hrow f5
  go_wp2_with fail
  refine ((unhide HY) _ (unhide HF5)).mono ?_
  clear HY
  rintro e w6 ⟨rfl, hf6⟩
  go_wp2_with fail
  go_ret
  exact ⟨rfl, (unhide HF5).trans hf6 (fun _ _ h => h)⟩
 ·go_wp2_with fail
  go_ret
  exact ⟨rfl, unhide HF5⟩
set_option maxHeartbeats 2000000 in
set_option maxRecDepth 100000 in
theorem answer_2 (q : QM) (k : Nat) (S : List P3) (w : World) (p : P3) (hp : perso S k = some p) (hS : Stf w q.sv S) (hl : S.length ≤ 140737488355328) (m : Bool) (y : Nat)
  (hm : ∀ W, Fr (fun _ => False) w W → Calls Tryz.prog 113 #[({ q with p := p } : QM).v] W fun e w' => e = .returned (.bool m) ∧ Fr (fun _ => False) W w')
  (hy : ∀ W, Fr (fun _ => False) w W → Calls Tryz.prog 114 #[({ q with p := p } : QM).v] W fun e w' => e = .returned (.int .u8 (y : Nat)) ∧ Fr (fun _ => False) W w') :
  Calls Tryz.prog 92 #[.int .i64 2, .int .u32 (k : Nat), q.v] w fun e w' => e = .returned (.int .u8 ((if m then 0 else y : Nat) : Nat)) ∧ Fr (fun _ => False) w w' := by
 have HF := hide (fun o => find_any q.sv S k _ (hS.fr (((Fr.refl (fun _ => False) w).alloc o))) hl)
 have HM := hide hm
 have HY := hide hy
 obtain ⟨xo, xc, hxe⟩ := hS.form
 rw [hp] at HF
 simp only [Option.getD_some, Option.isSome_some, pv, hxe] at HF
 clear hm hy hS hp
 simp only [QM.v, hxe] at HM HY ⊢
 go_enter Tryz.func92, Tryz.ntmps92
 go_wp2_with fail
 refine (unhide HF _).mono ?_
 clear HF
 rintro e w2 ⟨rfl, hf2⟩
 have hsz : w.heap.size < w2.heap.size := Nat.lt_of_lt_of_le (by simp) hf2.size
 have hbx := (hf2.block w.heap.size (by simp) (fun h => h)).trans Array.getElem?_push_size
 have HFr := hide ((((Fr.refl (fun _ => False) w).alloc _).trans hf2 (fun _ _ h => h)))
 obtain ⟨c0, c1, c2, c3, c4, c5, c6, c7, c8, c9, fz⟩ := box10 hbx
 have z1 := fz 1
 have z2 := fz 2
 have z3 := fz 3
 clear fz hf2 hbx
 go_wp2_with fail
 obtain ⟨W3, hW3⟩ : ∃ W3, (((w2.setCell ⟨w.heap.size, 1, none⟩ (.int .u32 (p.a : Nat))).setCell ⟨w.heap.size, 2, none⟩ (.int .u32 (p.r : Nat))).setCell ⟨w.heap.size, 3, none⟩ (.int .u32 (p.w : Nat))).alloc (.cells #[.int .u32 (p.a : Nat), .int .u32 (p.r : Nat), .int .u32 (p.w : Nat)] 33) = W3 := ⟨_, rfl⟩
 have hD := box_set (.int .u32 (p.a : Nat)) (.int .u32 (p.r : Nat)) (.int .u32 (p.w : Nat)) (.cells #[.int .u32 (p.a : Nat), .int .u32 (p.r : Nat), .int .u32 (p.w : Nat)] 33) hsz c0 c1 c2 c3 c4 c5 c6 c7 c8 c9
 simp only [hW3] at hD
 obtain ⟨d0, d1, d2, d3, d4, d5, d6, d7, d8, d9⟩ := hD
 have hF3 : Fr (fun _ => False) w W3 := by
  rw [← hW3]
  exact ((((unhide HFr).setCell (.inr (Nat.le_refl _)) _).setCell (.inr (Nat.le_refl _)) _).setCell (.inr (Nat.le_refl _)) _).alloc _
 rw [hW3]
 clear hW3 c0 c1 c2 c3 c4 c5 c6 c7 c8 c9 z1 z2 z3 HFr hsz
 have hR := rules_any W3
 simp only [rulesV, rulesL] at hR
 refine hR.mono ?_
 clear hR
 rintro e w4 ⟨rfl, hf4⟩
 have hl3 : w.heap.size < W3.heap.size := lt_of_cell d0
 replace d0 := (hf4.cell (p := ⟨w.heap.size, 0, none⟩) hl3 (fun h => h)).trans d0
 replace d1 := (hf4.cell (p := ⟨w.heap.size, 1, none⟩) hl3 (fun h => h)).trans d1
 replace d2 := (hf4.cell (p := ⟨w.heap.size, 2, none⟩) hl3 (fun h => h)).trans d2
 replace d3 := (hf4.cell (p := ⟨w.heap.size, 3, none⟩) hl3 (fun h => h)).trans d3
 replace d4 := (hf4.cell (p := ⟨w.heap.size, 4, none⟩) hl3 (fun h => h)).trans d4
 replace d5 := (hf4.cell (p := ⟨w.heap.size, 5, none⟩) hl3 (fun h => h)).trans d5
 replace d6 := (hf4.cell (p := ⟨w.heap.size, 6, none⟩) hl3 (fun h => h)).trans d6
 replace d7 := (hf4.cell (p := ⟨w.heap.size, 7, none⟩) hl3 (fun h => h)).trans d7
 replace d8 := (hf4.cell (p := ⟨w.heap.size, 8, none⟩) hl3 (fun h => h)).trans d8
 replace d9 := (hf4.cell (p := ⟨w.heap.size, 9, none⟩) hl3 (fun h => h)).trans d9
 have HF4 := hide (hF3.trans hf4 (fun _ _ h => h))
 have hl4 : w.heap.size < w4.heap.size := lt_of_cell d0
 clear hF3 hf4 hl3
 have hix : ∀ W, (Instr.index 152 rulesV (.int .i64 2)).run Tryz.prog W = .ok (.agg #[.func (.func 113) #[] #[], .func (.func 114) #[] #[]]) W := fun W => by kernel_rfl
 simp only [rulesV, rulesL] at hix
 go_wp2_with fail
 refine ((unhide HM) _ ((unhide HF4).alloc _)).mono ?_
 clear HM hix
 rintro e w5 ⟨rfl, hf5⟩
 have HF5 := hide (((unhide HF4).alloc _).trans hf5 (fun _ _ h => h))
 rcases m with _ | _
 ·have hrow := (hf5.block w4.heap.size (by simp) (fun h => h)).trans Array.getElem?_push_size
  have r1 : w5.cell? ⟨w4.heap.size, 1, none⟩ = some (.func (.func 114) #[] #[]) := by simp only [World.cell?, hrow]; rfl
  have f5 : Fr (fun _ => False) w4 w5 := ((Fr.refl _ _).alloc _).trans hf5 (fun _ _ h => h)
  replace d0 := (f5.cell (p := ⟨w.heap.size, 0, none⟩) hl4 (fun h => h)).trans d0
  replace d1 := (f5.cell (p := ⟨w.heap.size, 1, none⟩) hl4 (fun h => h)).trans d1
  replace d2 := (f5.cell (p := ⟨w.heap.size, 2, none⟩) hl4 (fun h => h)).trans d2
  replace d3 := (f5.cell (p := ⟨w.heap.size, 3, none⟩) hl4 (fun h => h)).trans d3
  replace d4 := (f5.cell (p := ⟨w.heap.size, 4, none⟩) hl4 (fun h => h)).trans d4
  replace d5 := (f5.cell (p := ⟨w.heap.size, 5, none⟩) hl4 (fun h => h)).trans d5
  replace d6 := (f5.cell (p := ⟨w.heap.size, 6, none⟩) hl4 (fun h => h)).trans d6
  replace d7 := (f5.cell (p := ⟨w.heap.size, 7, none⟩) hl4 (fun h => h)).trans d7
  replace d8 := (f5.cell (p := ⟨w.heap.size, 8, none⟩) hl4 (fun h => h)).trans d8
  replace d9 := (f5.cell (p := ⟨w.heap.size, 9, none⟩) hl4 (fun h => h)).trans d9
  have hl5 : w.heap.size < w5.heap.size := lt_of_cell d0
  clear hf5 hrow f5
  go_wp2_with fail
  refine ((unhide HY) _ (unhide HF5)).mono ?_
  clear HY
  rintro e w6 ⟨rfl, hf6⟩
  go_wp2_with fail
  go_ret
  exact ⟨rfl, (unhide HF5).trans hf6 (fun _ _ h => h)⟩
 ·go_wp2_with fail
  go_ret
  exact ⟨rfl, unhide HF5⟩
set_option maxHeartbeats 2000000 in
set_option maxRecDepth 100000 in
theorem answer_3 (q : QM) (k : Nat) (S : List P3) (w : World) (p : P3) (hp : perso S k = some p) (hS : Stf w q.sv S) (hl : S.length ≤ 140737488355328) (m : Bool) (y : Nat)
  (hm : ∀ W, Fr (fun _ => False) w W → Calls Tryz.prog 115 #[({ q with p := p } : QM).v] W fun e w' => e = .returned (.bool m) ∧ Fr (fun _ => False) W w')
  (hy : ∀ W, Fr (fun _ => False) w W → Calls Tryz.prog 116 #[({ q with p := p } : QM).v] W fun e w' => e = .returned (.int .u8 (y : Nat)) ∧ Fr (fun _ => False) W w') :
  Calls Tryz.prog 92 #[.int .i64 3, .int .u32 (k : Nat), q.v] w fun e w' => e = .returned (.int .u8 ((if m then 0 else y : Nat) : Nat)) ∧ Fr (fun _ => False) w w' := by
 have HF := hide (fun o => find_any q.sv S k _ (hS.fr (((Fr.refl (fun _ => False) w).alloc o))) hl)
 have HM := hide hm
 have HY := hide hy
 obtain ⟨xo, xc, hxe⟩ := hS.form
 rw [hp] at HF
 simp only [Option.getD_some, Option.isSome_some, pv, hxe] at HF
 clear hm hy hS hp
 simp only [QM.v, hxe] at HM HY ⊢
 go_enter Tryz.func92, Tryz.ntmps92
 go_wp2_with fail
 refine (unhide HF _).mono ?_
 clear HF
 rintro e w2 ⟨rfl, hf2⟩
 have hsz : w.heap.size < w2.heap.size := Nat.lt_of_lt_of_le (by simp) hf2.size
 have hbx := (hf2.block w.heap.size (by simp) (fun h => h)).trans Array.getElem?_push_size
 have HFr := hide ((((Fr.refl (fun _ => False) w).alloc _).trans hf2 (fun _ _ h => h)))
 obtain ⟨c0, c1, c2, c3, c4, c5, c6, c7, c8, c9, fz⟩ := box10 hbx
 have z1 := fz 1
 have z2 := fz 2
 have z3 := fz 3
 clear fz hf2 hbx
 go_wp2_with fail
 obtain ⟨W3, hW3⟩ : ∃ W3, (((w2.setCell ⟨w.heap.size, 1, none⟩ (.int .u32 (p.a : Nat))).setCell ⟨w.heap.size, 2, none⟩ (.int .u32 (p.r : Nat))).setCell ⟨w.heap.size, 3, none⟩ (.int .u32 (p.w : Nat))).alloc (.cells #[.int .u32 (p.a : Nat), .int .u32 (p.r : Nat), .int .u32 (p.w : Nat)] 33) = W3 := ⟨_, rfl⟩
 have hD := box_set (.int .u32 (p.a : Nat)) (.int .u32 (p.r : Nat)) (.int .u32 (p.w : Nat)) (.cells #[.int .u32 (p.a : Nat), .int .u32 (p.r : Nat), .int .u32 (p.w : Nat)] 33) hsz c0 c1 c2 c3 c4 c5 c6 c7 c8 c9
 simp only [hW3] at hD
 obtain ⟨d0, d1, d2, d3, d4, d5, d6, d7, d8, d9⟩ := hD
 have hF3 : Fr (fun _ => False) w W3 := by
  rw [← hW3]
  exact ((((unhide HFr).setCell (.inr (Nat.le_refl _)) _).setCell (.inr (Nat.le_refl _)) _).setCell (.inr (Nat.le_refl _)) _).alloc _
 rw [hW3]
 clear hW3 c0 c1 c2 c3 c4 c5 c6 c7 c8 c9 z1 z2 z3 HFr hsz
 have hR := rules_any W3
 simp only [rulesV, rulesL] at hR
 refine hR.mono ?_
 clear hR
 rintro e w4 ⟨rfl, hf4⟩
 have hl3 : w.heap.size < W3.heap.size := lt_of_cell d0
 replace d0 := (hf4.cell (p := ⟨w.heap.size, 0, none⟩) hl3 (fun h => h)).trans d0
 replace d1 := (hf4.cell (p := ⟨w.heap.size, 1, none⟩) hl3 (fun h => h)).trans d1
 replace d2 := (hf4.cell (p := ⟨w.heap.size, 2, none⟩) hl3 (fun h => h)).trans d2
 replace d3 := (hf4.cell (p := ⟨w.heap.size, 3, none⟩) hl3 (fun h => h)).trans d3
 replace d4 := (hf4.cell (p := ⟨w.heap.size, 4, none⟩) hl3 (fun h => h)).trans d4
 replace d5 := (hf4.cell (p := ⟨w.heap.size, 5, none⟩) hl3 (fun h => h)).trans d5
 replace d6 := (hf4.cell (p := ⟨w.heap.size, 6, none⟩) hl3 (fun h => h)).trans d6
 replace d7 := (hf4.cell (p := ⟨w.heap.size, 7, none⟩) hl3 (fun h => h)).trans d7
 replace d8 := (hf4.cell (p := ⟨w.heap.size, 8, none⟩) hl3 (fun h => h)).trans d8
 replace d9 := (hf4.cell (p := ⟨w.heap.size, 9, none⟩) hl3 (fun h => h)).trans d9
 have HF4 := hide (hF3.trans hf4 (fun _ _ h => h))
 have hl4 : w.heap.size < w4.heap.size := lt_of_cell d0
 clear hF3 hf4 hl3
 have hix : ∀ W, (Instr.index 152 rulesV (.int .i64 3)).run Tryz.prog W = .ok (.agg #[.func (.func 115) #[] #[], .func (.func 116) #[] #[]]) W := fun W => by kernel_rfl
 simp only [rulesV, rulesL] at hix
 go_wp2_with fail
 refine ((unhide HM) _ ((unhide HF4).alloc _)).mono ?_
 clear HM hix
 rintro e w5 ⟨rfl, hf5⟩
 have HF5 := hide (((unhide HF4).alloc _).trans hf5 (fun _ _ h => h))
 rcases m with _ | _
 ·have hrow := (hf5.block w4.heap.size (by simp) (fun h => h)).trans Array.getElem?_push_size
  have r1 : w5.cell? ⟨w4.heap.size, 1, none⟩ = some (.func (.func 116) #[] #[]) := by simp only [World.cell?, hrow]; rfl
  have f5 : Fr (fun _ => False) w4 w5 := ((Fr.refl _ _).alloc _).trans hf5 (fun _ _ h => h)
  replace d0 := (f5.cell (p := ⟨w.heap.size, 0, none⟩) hl4 (fun h => h)).trans d0
  replace d1 := (f5.cell (p := ⟨w.heap.size, 1, none⟩) hl4 (fun h => h)).trans d1
  replace d2 := (f5.cell (p := ⟨w.heap.size, 2, none⟩) hl4 (fun h => h)).trans d2
  replace d3 := (f5.cell (p := ⟨w.heap.size, 3, none⟩) hl4 (fun h => h)).trans d3
  replace d4 := (f5.cell (p := ⟨w.heap.size, 4, none⟩) hl4 (fun h => h)).trans d4
  replace d5 := (f5.cell (p := ⟨w.heap.size, 5, none⟩) hl4 (fun h => h)).trans d5
  replace d6 := (f5.cell (p := ⟨w.heap.size, 6, none⟩) hl4 (fun h => h)).trans d6
  replace d7 := (f5.cell (p := ⟨w.heap.size, 7, none⟩) hl4 (fun h => h)).trans d7
  replace d8 := (f5.cell (p := ⟨w.heap.size, 8, none⟩) hl4 (fun h => h)).trans d8
  replace d9 := (f5.cell (p := ⟨w.heap.size, 9, none⟩) hl4 (fun h => h)).trans d9
  have hl5 : w.heap.size < w5.heap.size := lt_of_cell d0
  clear hf5 hrow f5
  go_wp2_with fail
  refine ((unhide HY) _ (unhide HF5)).mono ?_
  clear HY
  rintro e w6 ⟨rfl, hf6⟩
  go_wp2_with fail
  go_ret
  exact ⟨rfl, (unhide HF5).trans hf6 (fun _ _ h => h)⟩
 ·go_wp2_with fail
  go_ret
  exact ⟨rfl, unhide HF5⟩
set_option maxHeartbeats 2000000 in
set_option maxRecDepth 100000 in
theorem answer_4 (q : QM) (k : Nat) (S : List P3) (w : World) (p : P3) (hp : perso S k = some p) (hS : Stf w q.sv S) (hl : S.length ≤ 140737488355328) (m : Bool) (y : Nat)
  (hm : ∀ W, Fr (fun _ => False) w W → Calls Tryz.prog 117 #[({ q with p := p } : QM).v] W fun e w' => e = .returned (.bool m) ∧ Fr (fun _ => False) W w')
  (hy : ∀ W, Fr (fun _ => False) w W → Calls Tryz.prog 118 #[({ q with p := p } : QM).v] W fun e w' => e = .returned (.int .u8 (y : Nat)) ∧ Fr (fun _ => False) W w') :
  Calls Tryz.prog 92 #[.int .i64 4, .int .u32 (k : Nat), q.v] w fun e w' => e = .returned (.int .u8 ((if m then 0 else y : Nat) : Nat)) ∧ Fr (fun _ => False) w w' := by
 have HF := hide (fun o => find_any q.sv S k _ (hS.fr (((Fr.refl (fun _ => False) w).alloc o))) hl)
 have HM := hide hm
 have HY := hide hy
 obtain ⟨xo, xc, hxe⟩ := hS.form
 rw [hp] at HF
 simp only [Option.getD_some, Option.isSome_some, pv, hxe] at HF
 clear hm hy hS hp
 simp only [QM.v, hxe] at HM HY ⊢
 go_enter Tryz.func92, Tryz.ntmps92
 go_wp2_with fail
 refine (unhide HF _).mono ?_
 clear HF
 rintro e w2 ⟨rfl, hf2⟩
 have hsz : w.heap.size < w2.heap.size := Nat.lt_of_lt_of_le (by simp) hf2.size
 have hbx := (hf2.block w.heap.size (by simp) (fun h => h)).trans Array.getElem?_push_size
 have HFr := hide ((((Fr.refl (fun _ => False) w).alloc _).trans hf2 (fun _ _ h => h)))
 obtain ⟨c0, c1, c2, c3, c4, c5, c6, c7, c8, c9, fz⟩ := box10 hbx
 have z1 := fz 1
 have z2 := fz 2
 have z3 := fz 3
 clear fz hf2 hbx
 go_wp2_with fail
 obtain ⟨W3, hW3⟩ : ∃ W3, (((w2.setCell ⟨w.heap.size, 1, none⟩ (.int .u32 (p.a : Nat))).setCell ⟨w.heap.size, 2, none⟩ (.int .u32 (p.r : Nat))).setCell ⟨w.heap.size, 3, none⟩ (.int .u32 (p.w : Nat))).alloc (.cells #[.int .u32 (p.a : Nat), .int .u32 (p.r : Nat), .int .u32 (p.w : Nat)] 33) = W3 := ⟨_, rfl⟩
 have hD := box_set (.int .u32 (p.a : Nat)) (.int .u32 (p.r : Nat)) (.int .u32 (p.w : Nat)) (.cells #[.int .u32 (p.a : Nat), .int .u32 (p.r : Nat), .int .u32 (p.w : Nat)] 33) hsz c0 c1 c2 c3 c4 c5 c6 c7 c8 c9
 simp only [hW3] at hD
 obtain ⟨d0, d1, d2, d3, d4, d5, d6, d7, d8, d9⟩ := hD
 have hF3 : Fr (fun _ => False) w W3 := by
  rw [← hW3]
  exact ((((unhide HFr).setCell (.inr (Nat.le_refl _)) _).setCell (.inr (Nat.le_refl _)) _).setCell (.inr (Nat.le_refl _)) _).alloc _
 rw [hW3]
 clear hW3 c0 c1 c2 c3 c4 c5 c6 c7 c8 c9 z1 z2 z3 HFr hsz
 have hR := rules_any W3
 simp only [rulesV, rulesL] at hR
 refine hR.mono ?_
 clear hR
 rintro e w4 ⟨rfl, hf4⟩
 have hl3 : w.heap.size < W3.heap.size := lt_of_cell d0
 replace d0 := (hf4.cell (p := ⟨w.heap.size, 0, none⟩) hl3 (fun h => h)).trans d0
 replace d1 := (hf4.cell (p := ⟨w.heap.size, 1, none⟩) hl3 (fun h => h)).trans d1
 replace d2 := (hf4.cell (p := ⟨w.heap.size, 2, none⟩) hl3 (fun h => h)).trans d2
 replace d3 := (hf4.cell (p := ⟨w.heap.size, 3, none⟩) hl3 (fun h => h)).trans d3
 replace d4 := (hf4.cell (p := ⟨w.heap.size, 4, none⟩) hl3 (fun h => h)).trans d4
 replace d5 := (hf4.cell (p := ⟨w.heap.size, 5, none⟩) hl3 (fun h => h)).trans d5
 replace d6 := (hf4.cell (p := ⟨w.heap.size, 6, none⟩) hl3 (fun h => h)).trans d6
 replace d7 := (hf4.cell (p := ⟨w.heap.size, 7, none⟩) hl3 (fun h => h)).trans d7
 replace d8 := (hf4.cell (p := ⟨w.heap.size, 8, none⟩) hl3 (fun h => h)).trans d8
 replace d9 := (hf4.cell (p := ⟨w.heap.size, 9, none⟩) hl3 (fun h => h)).trans d9
 have HF4 := hide (hF3.trans hf4 (fun _ _ h => h))
 have hl4 : w.heap.size < w4.heap.size := lt_of_cell d0
 clear hF3 hf4 hl3
 have hix : ∀ W, (Instr.index 152 rulesV (.int .i64 4)).run Tryz.prog W = .ok (.agg #[.func (.func 117) #[] #[], .func (.func 118) #[] #[]]) W := fun W => by kernel_rfl
 simp only [rulesV, rulesL] at hix
 go_wp2_with fail
 refine ((unhide HM) _ ((unhide HF4).alloc _)).mono ?_
 clear HM hix
 rintro e w5 ⟨rfl, hf5⟩
 have HF5 := hide (((unhide HF4).alloc _).trans hf5 (fun _ _ h => h))
 rcases m with _ | _
 ·have hrow := (hf5.block w4.heap.size (by simp) (fun h => h)).trans Array.getElem?_push_size
  have r1 : w5.cell? ⟨w4.heap.size, 1, none⟩ = some (.func (.func 118) #[] #[]) := by simp only [World.cell?, hrow]; rfl
  have f5 : Fr (fun _ => False) w4 w5 := ((Fr.refl _ _).alloc _).trans hf5 (fun _ _ h => h)
  replace d0 := (f5.cell (p := ⟨w.heap.size, 0, none⟩) hl4 (fun h => h)).trans d0
  replace d1 := (f5.cell (p := ⟨w.heap.size, 1, none⟩) hl4 (fun h => h)).trans d1
  replace d2 := (f5.cell (p := ⟨w.heap.size, 2, none⟩) hl4 (fun h => h)).trans d2
  replace d3 := (f5.cell (p := ⟨w.heap.size, 3, none⟩) hl4 (fun h => h)).trans d3
  replace d4 := (f5.cell (p := ⟨w.heap.size, 4, none⟩) hl4 (fun h => h)).trans d4
  replace d5 := (f5.cell (p := ⟨w.heap.size, 5, none⟩) hl4 (fun h => h)).trans d5
  replace d6 := (f5.cell (p := ⟨w.heap.size, 6, none⟩) hl4 (fun h => h)).trans d6
  replace d7 := (f5.cell (p := ⟨w.heap.size, 7, none⟩) hl4 (fun h => h)).trans d7
  replace d8 := (f5.cell (p := ⟨w.heap.size, 8, none⟩) hl4 (fun h => h)).trans d8
  replace d9 := (f5.cell (p := ⟨w.heap.size, 9, none⟩) hl4 (fun h => h)).trans d9
  have hl5 : w.heap.size < w5.heap.size := lt_of_cell d0
  clear hf5 hrow f5
  go_wp2_with fail
  refine ((unhide HY) _ (unhide HF5)).mono ?_
  clear HY
  rintro e w6 ⟨rfl, hf6⟩
  go_wp2_with fail
  go_ret
  exact ⟨rfl, (unhide HF5).trans hf6 (fun _ _ h => h)⟩
 ·go_wp2_with fail
  go_ret
  exact ⟨rfl, unhide HF5⟩
set_option maxHeartbeats 2000000 in
set_option maxRecDepth 100000 in
theorem answer_5 (q : QM) (k : Nat) (S : List P3) (w : World) (p : P3) (hp : perso S k = some p) (hS : Stf w q.sv S) (hl : S.length ≤ 140737488355328) (m : Bool) (y : Nat)
  (hm : ∀ W, Fr (fun _ => False) w W → Calls Tryz.prog 119 #[({ q with p := p } : QM).v] W fun e w' => e = .returned (.bool m) ∧ Fr (fun _ => False) W w')
  (hy : ∀ W, Fr (fun _ => False) w W → Calls Tryz.prog 116 #[({ q with p := p } : QM).v] W fun e w' => e = .returned (.int .u8 (y : Nat)) ∧ Fr (fun _ => False) W w') :
  Calls Tryz.prog 92 #[.int .i64 5, .int .u32 (k : Nat), q.v] w fun e w' => e = .returned (.int .u8 ((if m then 0 else y : Nat) : Nat)) ∧ Fr (fun _ => False) w w' := by
 have HF := hide (fun o => find_any q.sv S k _ (hS.fr (((Fr.refl (fun _ => False) w).alloc o))) hl)
 have HM := hide hm
 have HY := hide hy
 obtain ⟨xo, xc, hxe⟩ := hS.form
 rw [hp] at HF
 simp only [Option.getD_some, Option.isSome_some, pv, hxe] at HF
 clear hm hy hS hp
 simp only [QM.v, hxe] at HM HY ⊢
 go_enter Tryz.func92, Tryz.ntmps92
 go_wp2_with fail
 refine (unhide HF _).mono ?_
 clear HF
 rintro e w2 ⟨rfl, hf2⟩
 have hsz : w.heap.size < w2.heap.size := Nat.lt_of_lt_of_le (by simp) hf2.size
 have hbx := (hf2.block w.heap.size (by simp) (fun h => h)).trans Array.getElem?_push_size
 have HFr := hide ((((Fr.refl (fun _ => False) w).alloc _).trans hf2 (fun _ _ h => h)))
 obtain ⟨c0, c1, c2, c3, c4, c5, c6, c7, c8, c9, fz⟩ := box10 hbx
 have z1 := fz 1
 have z2 := fz 2
 have z3 := fz 3
 clear fz hf2 hbx
 go_wp2_with fail
 obtain ⟨W3, hW3⟩ : ∃ W3, (((w2.setCell ⟨w.heap.size, 1, none⟩ (.int .u32 (p.a : Nat))).setCell ⟨w.heap.size, 2, none⟩ (.int .u32 (p.r : Nat))).setCell ⟨w.heap.size, 3, none⟩ (.int .u32 (p.w : Nat))).alloc (.cells #[.int .u32 (p.a : Nat), .int .u32 (p.r : Nat), .int .u32 (p.w : Nat)] 33) = W3 := ⟨_, rfl⟩
 have hD := box_set (.int .u32 (p.a : Nat)) (.int .u32 (p.r : Nat)) (.int .u32 (p.w : Nat)) (.cells #[.int .u32 (p.a : Nat), .int .u32 (p.r : Nat), .int .u32 (p.w : Nat)] 33) hsz c0 c1 c2 c3 c4 c5 c6 c7 c8 c9
 simp only [hW3] at hD
 obtain ⟨d0, d1, d2, d3, d4, d5, d6, d7, d8, d9⟩ := hD
 have hF3 : Fr (fun _ => False) w W3 := by
  rw [← hW3]
  exact ((((unhide HFr).setCell (.inr (Nat.le_refl _)) _).setCell (.inr (Nat.le_refl _)) _).setCell (.inr (Nat.le_refl _)) _).alloc _
 rw [hW3]
 clear hW3 c0 c1 c2 c3 c4 c5 c6 c7 c8 c9 z1 z2 z3 HFr hsz
 have hR := rules_any W3
 simp only [rulesV, rulesL] at hR
 refine hR.mono ?_
 clear hR
 rintro e w4 ⟨rfl, hf4⟩
 have hl3 : w.heap.size < W3.heap.size := lt_of_cell d0
 replace d0 := (hf4.cell (p := ⟨w.heap.size, 0, none⟩) hl3 (fun h => h)).trans d0
 replace d1 := (hf4.cell (p := ⟨w.heap.size, 1, none⟩) hl3 (fun h => h)).trans d1
 replace d2 := (hf4.cell (p := ⟨w.heap.size, 2, none⟩) hl3 (fun h => h)).trans d2
 replace d3 := (hf4.cell (p := ⟨w.heap.size, 3, none⟩) hl3 (fun h => h)).trans d3
 replace d4 := (hf4.cell (p := ⟨w.heap.size, 4, none⟩) hl3 (fun h => h)).trans d4
 replace d5 := (hf4.cell (p := ⟨w.heap.size, 5, none⟩) hl3 (fun h => h)).trans d5
 replace d6 := (hf4.cell (p := ⟨w.heap.size, 6, none⟩) hl3 (fun h => h)).trans d6
 replace d7 := (hf4.cell (p := ⟨w.heap.size, 7, none⟩) hl3 (fun h => h)).trans d7
 replace d8 := (hf4.cell (p := ⟨w.heap.size, 8, none⟩) hl3 (fun h => h)).trans d8
 replace d9 := (hf4.cell (p := ⟨w.heap.size, 9, none⟩) hl3 (fun h => h)).trans d9
 have HF4 := hide (hF3.trans hf4 (fun _ _ h => h))
 have hl4 : w.heap.size < w4.heap.size := lt_of_cell d0
 clear hF3 hf4 hl3
 have hix : ∀ W, (Instr.index 152 rulesV (.int .i64 5)).run Tryz.prog W = .ok (.agg #[.func (.func 119) #[] #[], .func (.func 116) #[] #[]]) W := fun W => by kernel_rfl
 simp only [rulesV, rulesL] at hix
 go_wp2_with fail
 refine ((unhide HM) _ ((unhide HF4).alloc _)).mono ?_
 clear HM hix
 rintro e w5 ⟨rfl, hf5⟩
 have HF5 := hide (((unhide HF4).alloc _).trans hf5 (fun _ _ h => h))
 rcases m with _ | _
 ·have hrow := (hf5.block w4.heap.size (by simp) (fun h => h)).trans Array.getElem?_push_size
  have r1 : w5.cell? ⟨w4.heap.size, 1, none⟩ = some (.func (.func 116) #[] #[]) := by simp only [World.cell?, hrow]; rfl
  have f5 : Fr (fun _ => False) w4 w5 := ((Fr.refl _ _).alloc _).trans hf5 (fun _ _ h => h)
  replace d0 := (f5.cell (p := ⟨w.heap.size, 0, none⟩) hl4 (fun h => h)).trans d0
  replace d1 := (f5.cell (p := ⟨w.heap.size, 1, none⟩) hl4 (fun h => h)).trans d1
  replace d2 := (f5.cell (p := ⟨w.heap.size, 2, none⟩) hl4 (fun h => h)).trans d2
  replace d3 := (f5.cell (p := ⟨w.heap.size, 3, none⟩) hl4 (fun h => h)).trans d3
  replace d4 := (f5.cell (p := ⟨w.heap.size, 4, none⟩) hl4 (fun h => h)).trans d4
  replace d5 := (f5.cell (p := ⟨w.heap.size, 5, none⟩) hl4 (fun h => h)).trans d5
  replace d6 := (f5.cell (p := ⟨w.heap.size, 6, none⟩) hl4 (fun h => h)).trans d6
  replace d7 := (f5.cell (p := ⟨w.heap.size, 7, none⟩) hl4 (fun h => h)).trans d7
  replace d8 := (f5.cell (p := ⟨w.heap.size, 8, none⟩) hl4 (fun h => h)).trans d8
  replace d9 := (f5.cell (p := ⟨w.heap.size, 9, none⟩) hl4 (fun h => h)).trans d9
  have hl5 : w.heap.size < w5.heap.size := lt_of_cell d0
  clear hf5 hrow f5
  go_wp2_with fail
  refine ((unhide HY) _ (unhide HF5)).mono ?_
  clear HY
  rintro e w6 ⟨rfl, hf6⟩
  go_wp2_with fail
  go_ret
  exact ⟨rfl, (unhide HF5).trans hf6 (fun _ _ h => h)⟩
 ·go_wp2_with fail
  go_ret
  exact ⟨rfl, unhide HF5⟩
set_option maxHeartbeats 2000000 in
set_option maxRecDepth 100000 in
theorem answer_6 (q : QM) (k : Nat) (S : List P3) (w : World) (p : P3) (hp : perso S k = some p) (hS : Stf w q.sv S) (hl : S.length ≤ 140737488355328) (m : Bool) (y : Nat)
  (hm : ∀ W, Fr (fun _ => False) w W → Calls Tryz.prog 120 #[({ q with p := p } : QM).v] W fun e w' => e = .returned (.bool m) ∧ Fr (fun _ => False) W w')
  (hy : ∀ W, Fr (fun _ => False) w W → Calls Tryz.prog 118 #[({ q with p := p } : QM).v] W fun e w' => e = .returned (.int .u8 (y : Nat)) ∧ Fr (fun _ => False) W w') :
  Calls Tryz.prog 92 #[.int .i64 6, .int .u32 (k : Nat), q.v] w fun e w' => e = .returned (.int .u8 ((if m then 0 else y : Nat) : Nat)) ∧ Fr (fun _ => False) w w' := by
 have HF := hide (fun o => find_any q.sv S k _ (hS.fr (((Fr.refl (fun _ => False) w).alloc o))) hl)
 have HM := hide hm
 have HY := hide hy
 obtain ⟨xo, xc, hxe⟩ := hS.form
 rw [hp] at HF
 simp only [Option.getD_some, Option.isSome_some, pv, hxe] at HF
 clear hm hy hS hp
 simp only [QM.v, hxe] at HM HY ⊢
 go_enter Tryz.func92, Tryz.ntmps92
 go_wp2_with fail
 refine (unhide HF _).mono ?_
 clear HF
 rintro e w2 ⟨rfl, hf2⟩
 have hsz : w.heap.size < w2.heap.size := Nat.lt_of_lt_of_le (by simp) hf2.size
 have hbx := (hf2.block w.heap.size (by simp) (fun h => h)).trans Array.getElem?_push_size
 have HFr := hide ((((Fr.refl (fun _ => False) w).alloc _).trans hf2 (fun _ _ h => h)))
 obtain ⟨c0, c1, c2, c3, c4, c5, c6, c7, c8, c9, fz⟩ := box10 hbx
 have z1 := fz 1
 have z2 := fz 2
 have z3 := fz 3
 clear fz hf2 hbx
 go_wp2_with fail
 obtain ⟨W3, hW3⟩ : ∃ W3, (((w2.setCell ⟨w.heap.size, 1, none⟩ (.int .u32 (p.a : Nat))).setCell ⟨w.heap.size, 2, none⟩ (.int .u32 (p.r : Nat))).setCell ⟨w.heap.size, 3, none⟩ (.int .u32 (p.w : Nat))).alloc (.cells #[.int .u32 (p.a : Nat), .int .u32 (p.r : Nat), .int .u32 (p.w : Nat)] 33) = W3 := ⟨_, rfl⟩
 have hD := box_set (.int .u32 (p.a : Nat)) (.int .u32 (p.r : Nat)) (.int .u32 (p.w : Nat)) (.cells #[.int .u32 (p.a : Nat), .int .u32 (p.r : Nat), .int .u32 (p.w : Nat)] 33) hsz c0 c1 c2 c3 c4 c5 c6 c7 c8 c9
 simp only [hW3] at hD
 obtain ⟨d0, d1, d2, d3, d4, d5, d6, d7, d8, d9⟩ := hD
 have hF3 : Fr (fun _ => False) w W3 := by
  rw [← hW3]
  exact ((((unhide HFr).setCell (.inr (Nat.le_refl _)) _).setCell (.inr (Nat.le_refl _)) _).setCell (.inr (Nat.le_refl _)) _).alloc _
 rw [hW3]
 clear hW3 c0 c1 c2 c3 c4 c5 c6 c7 c8 c9 z1 z2 z3 HFr hsz
 have hR := rules_any W3
 simp only [rulesV, rulesL] at hR
 refine hR.mono ?_
 clear hR
 rintro e w4 ⟨rfl, hf4⟩
 have hl3 : w.heap.size < W3.heap.size := lt_of_cell d0
 replace d0 := (hf4.cell (p := ⟨w.heap.size, 0, none⟩) hl3 (fun h => h)).trans d0
 replace d1 := (hf4.cell (p := ⟨w.heap.size, 1, none⟩) hl3 (fun h => h)).trans d1
 replace d2 := (hf4.cell (p := ⟨w.heap.size, 2, none⟩) hl3 (fun h => h)).trans d2
 replace d3 := (hf4.cell (p := ⟨w.heap.size, 3, none⟩) hl3 (fun h => h)).trans d3
 replace d4 := (hf4.cell (p := ⟨w.heap.size, 4, none⟩) hl3 (fun h => h)).trans d4
 replace d5 := (hf4.cell (p := ⟨w.heap.size, 5, none⟩) hl3 (fun h => h)).trans d5
 replace d6 := (hf4.cell (p := ⟨w.heap.size, 6, none⟩) hl3 (fun h => h)).trans d6
 replace d7 := (hf4.cell (p := ⟨w.heap.size, 7, none⟩) hl3 (fun h => h)).trans d7
 replace d8 := (hf4.cell (p := ⟨w.heap.size, 8, none⟩) hl3 (fun h => h)).trans d8
 replace d9 := (hf4.cell (p := ⟨w.heap.size, 9, none⟩) hl3 (fun h => h)).trans d9
 have HF4 := hide (hF3.trans hf4 (fun _ _ h => h))
 have hl4 : w.heap.size < w4.heap.size := lt_of_cell d0
 clear hF3 hf4 hl3
 have hix : ∀ W, (Instr.index 152 rulesV (.int .i64 6)).run Tryz.prog W = .ok (.agg #[.func (.func 120) #[] #[], .func (.func 118) #[] #[]]) W := fun W => by kernel_rfl
 simp only [rulesV, rulesL] at hix
 go_wp2_with fail
 refine ((unhide HM) _ ((unhide HF4).alloc _)).mono ?_
 clear HM hix
 rintro e w5 ⟨rfl, hf5⟩
 have HF5 := hide (((unhide HF4).alloc _).trans hf5 (fun _ _ h => h))
 rcases m with _ | _
 ·have hrow := (hf5.block w4.heap.size (by simp) (fun h => h)).trans Array.getElem?_push_size
  have r1 : w5.cell? ⟨w4.heap.size, 1, none⟩ = some (.func (.func 118) #[] #[]) := by simp only [World.cell?, hrow]; rfl
  have f5 : Fr (fun _ => False) w4 w5 := ((Fr.refl _ _).alloc _).trans hf5 (fun _ _ h => h)
  replace d0 := (f5.cell (p := ⟨w.heap.size, 0, none⟩) hl4 (fun h => h)).trans d0
  replace d1 := (f5.cell (p := ⟨w.heap.size, 1, none⟩) hl4 (fun h => h)).trans d1
  replace d2 := (f5.cell (p := ⟨w.heap.size, 2, none⟩) hl4 (fun h => h)).trans d2
  replace d3 := (f5.cell (p := ⟨w.heap.size, 3, none⟩) hl4 (fun h => h)).trans d3
  replace d4 := (f5.cell (p := ⟨w.heap.size, 4, none⟩) hl4 (fun h => h)).trans d4
  replace d5 := (f5.cell (p := ⟨w.heap.size, 5, none⟩) hl4 (fun h => h)).trans d5
  replace d6 := (f5.cell (p := ⟨w.heap.size, 6, none⟩) hl4 (fun h => h)).trans d6
  replace d7 := (f5.cell (p := ⟨w.heap.size, 7, none⟩) hl4 (fun h => h)).trans d7
  replace d8 := (f5.cell (p := ⟨w.heap.size, 8, none⟩) hl4 (fun h => h)).trans d8
  replace d9 := (f5.cell (p := ⟨w.heap.size, 9, none⟩) hl4 (fun h => h)).trans d9
  have hl5 : w.heap.size < w5.heap.size := lt_of_cell d0
  clear hf5 hrow f5
  go_wp2_with fail
  refine ((unhide HY) _ (unhide HF5)).mono ?_
  clear HY
  rintro e w6 ⟨rfl, hf6⟩
  go_wp2_with fail
  go_ret
  exact ⟨rfl, (unhide HF5).trans hf6 (fun _ _ h => h)⟩
 ·go_wp2_with fail
  go_ret
  exact ⟨rfl, unhide HF5⟩
set_option maxHeartbeats 2000000 in
set_option maxRecDepth 100000 in
theorem answer_7 (q : QM) (k : Nat) (S : List P3) (w : World) (p : P3) (hp : perso S k = some p) (hS : Stf w q.sv S) (hl : S.length ≤ 140737488355328) (m : Bool) (y : Nat)
  (hm : ∀ W, Fr (fun _ => False) w W → Calls Tryz.prog 121 #[({ q with p := p } : QM).v] W fun e w' => e = .returned (.bool m) ∧ Fr (fun _ => False) W w')
  (hy : ∀ W, Fr (fun _ => False) w W → Calls Tryz.prog 118 #[({ q with p := p } : QM).v] W fun e w' => e = .returned (.int .u8 (y : Nat)) ∧ Fr (fun _ => False) W w') :
  Calls Tryz.prog 92 #[.int .i64 7, .int .u32 (k : Nat), q.v] w fun e w' => e = .returned (.int .u8 ((if m then 0 else y : Nat) : Nat)) ∧ Fr (fun _ => False) w w' := by
 have HF := hide (fun o => find_any q.sv S k _ (hS.fr (((Fr.refl (fun _ => False) w).alloc o))) hl)
 have HM := hide hm
 have HY := hide hy
 obtain ⟨xo, xc, hxe⟩ := hS.form
 rw [hp] at HF
 simp only [Option.getD_some, Option.isSome_some, pv, hxe] at HF
 clear hm hy hS hp
 simp only [QM.v, hxe] at HM HY ⊢
 go_enter Tryz.func92, Tryz.ntmps92
 go_wp2_with fail
 refine (unhide HF _).mono ?_
 clear HF
 rintro e w2 ⟨rfl, hf2⟩
 have hsz : w.heap.size < w2.heap.size := Nat.lt_of_lt_of_le (by simp) hf2.size
 have hbx := (hf2.block w.heap.size (by simp) (fun h => h)).trans Array.getElem?_push_size
 have HFr := hide ((((Fr.refl (fun _ => False) w).alloc _).trans hf2 (fun _ _ h => h)))
 obtain ⟨c0, c1, c2, c3, c4, c5, c6, c7, c8, c9, fz⟩ := box10 hbx
 have z1 := fz 1
 have z2 := fz 2
 have z3 := fz 3
 clear fz hf2 hbx
 go_wp2_with fail
 obtain ⟨W3, hW3⟩ : ∃ W3, (((w2.setCell ⟨w.heap.size, 1, none⟩ (.int .u32 (p.a : Nat))).setCell ⟨w.heap.size, 2, none⟩ (.int .u32 (p.r : Nat))).setCell ⟨w.heap.size, 3, none⟩ (.int .u32 (p.w : Nat))).alloc (.cells #[.int .u32 (p.a : Nat), .int .u32 (p.r : Nat), .int .u32 (p.w : Nat)] 33) = W3 := ⟨_, rfl⟩
 have hD := box_set (.int .u32 (p.a : Nat)) (.int .u32 (p.r : Nat)) (.int .u32 (p.w : Nat)) (.cells #[.int .u32 (p.a : Nat), .int .u32 (p.r : Nat), .int .u32 (p.w : Nat)] 33) hsz c0 c1 c2 c3 c4 c5 c6 c7 c8 c9
 simp only [hW3] at hD
 obtain ⟨d0, d1, d2, d3, d4, d5, d6, d7, d8, d9⟩ := hD
 have hF3 : Fr (fun _ => False) w W3 := by
  rw [← hW3]
  exact ((((unhide HFr).setCell (.inr (Nat.le_refl _)) _).setCell (.inr (Nat.le_refl _)) _).setCell (.inr (Nat.le_refl _)) _).alloc _
 rw [hW3]
 clear hW3 c0 c1 c2 c3 c4 c5 c6 c7 c8 c9 z1 z2 z3 HFr hsz
 have hR := rules_any W3
 simp only [rulesV, rulesL] at hR
 refine hR.mono ?_
 clear hR
 rintro e w4 ⟨rfl, hf4⟩
 have hl3 : w.heap.size < W3.heap.size := lt_of_cell d0
 replace d0 := (hf4.cell (p := ⟨w.heap.size, 0, none⟩) hl3 (fun h => h)).trans d0
 replace d1 := (hf4.cell (p := ⟨w.heap.size, 1, none⟩) hl3 (fun h => h)).trans d1
 replace d2 := (hf4.cell (p := ⟨w.heap.size, 2, none⟩) hl3 (fun h => h)).trans d2
 replace d3 := (hf4.cell (p := ⟨w.heap.size, 3, none⟩) hl3 (fun h => h)).trans d3
 replace d4 := (hf4.cell (p := ⟨w.heap.size, 4, none⟩) hl3 (fun h => h)).trans d4
 replace d5 := (hf4.cell (p := ⟨w.heap.size, 5, none⟩) hl3 (fun h => h)).trans d5
 replace d6 := (hf4.cell (p := ⟨w.heap.size, 6, none⟩) hl3 (fun h => h)).trans d6
 replace d7 := (hf4.cell (p := ⟨w.heap.size, 7, none⟩) hl3 (fun h => h)).trans d7
 replace d8 := (hf4.cell (p := ⟨w.heap.size, 8, none⟩) hl3 (fun h => h)).trans d8
 replace d9 := (hf4.cell (p := ⟨w.heap.size, 9, none⟩) hl3 (fun h => h)).trans d9
 have HF4 := hide (hF3.trans hf4 (fun _ _ h => h))
 have hl4 : w.heap.size < w4.heap.size := lt_of_cell d0
 clear hF3 hf4 hl3
 have hix : ∀ W, (Instr.index 152 rulesV (.int .i64 7)).run Tryz.prog W = .ok (.agg #[.func (.func 121) #[] #[], .func (.func 118) #[] #[]]) W := fun W => by kernel_rfl
 simp only [rulesV, rulesL] at hix
 go_wp2_with fail
 refine ((unhide HM) _ ((unhide HF4).alloc _)).mono ?_
 clear HM hix
 rintro e w5 ⟨rfl, hf5⟩
 have HF5 := hide (((unhide HF4).alloc _).trans hf5 (fun _ _ h => h))
 rcases m with _ | _
 ·have hrow := (hf5.block w4.heap.size (by simp) (fun h => h)).trans Array.getElem?_push_size
  have r1 : w5.cell? ⟨w4.heap.size, 1, none⟩ = some (.func (.func 118) #[] #[]) := by simp only [World.cell?, hrow]; rfl
  have f5 : Fr (fun _ => False) w4 w5 := ((Fr.refl _ _).alloc _).trans hf5 (fun _ _ h => h)
  replace d0 := (f5.cell (p := ⟨w.heap.size, 0, none⟩) hl4 (fun h => h)).trans d0
  replace d1 := (f5.cell (p := ⟨w.heap.size, 1, none⟩) hl4 (fun h => h)).trans d1
  replace d2 := (f5.cell (p := ⟨w.heap.size, 2, none⟩) hl4 (fun h => h)).trans d2
  replace d3 := (f5.cell (p := ⟨w.heap.size, 3, none⟩) hl4 (fun h => h)).trans d3
  replace d4 := (f5.cell (p := ⟨w.heap.size, 4, none⟩) hl4 (fun h => h)).trans d4
  replace d5 := (f5.cell (p := ⟨w.heap.size, 5, none⟩) hl4 (fun h => h)).trans d5
  replace d6 := (f5.cell (p := ⟨w.heap.size, 6, none⟩) hl4 (fun h => h)).trans d6
  replace d7 := (f5.cell (p := ⟨w.heap.size, 7, none⟩) hl4 (fun h => h)).trans d7
  replace d8 := (f5.cell (p := ⟨w.heap.size, 8, none⟩) hl4 (fun h => h)).trans d8
  replace d9 := (f5.cell (p := ⟨w.heap.size, 9, none⟩) hl4 (fun h => h)).trans d9
  have hl5 : w.heap.size < w5.heap.size := lt_of_cell d0
  clear hf5 hrow f5
  go_wp2_with fail
  refine ((unhide HY) _ (unhide HF5)).mono ?_
  clear HY
  rintro e w6 ⟨rfl, hf6⟩
  go_wp2_with fail
  go_ret
  exact ⟨rfl, (unhide HF5).trans hf6 (fun _ _ h => h)⟩
 ·go_wp2_with fail
  go_ret
  exact ⟨rfl, unhide HF5⟩
set_option maxHeartbeats 2000000 in
set_option maxRecDepth 100000 in
theorem answer_none (op : Int) (q : QM) (k : Nat) (S : List P3) (w : World) (hp : perso S k = none) (hS : Stf w q.sv S) (hl : S.length ≤ 140737488355328) :
  Calls Tryz.prog 92 #[.int .i64 op, .int .u32 (k : Nat), q.v] w fun e w' => e = .returned (.int .u8 1) ∧ Fr (fun _ => False) w w' := by
 have HF := hide (fun o => find_any q.sv S k _ (hS.fr (((Fr.refl (fun _ => False) w).alloc o))) hl)
 obtain ⟨xo, xc, hxe⟩ := hS.form
 rw [hp] at HF
 simp only [Option.getD_none, Option.isSome_none, pv, p0, hxe] at HF
 clear hS hp
 simp only [QM.v, hxe]
 go_enter Tryz.func92, Tryz.ntmps92
 go_wp2_with fail
 refine (unhide HF _).mono ?_
 clear HF
 rintro e w2 ⟨rfl, hf2⟩
 go_wp2_with fail
 go_ret
 exact ⟨rfl, (((Fr.refl (fun _ => False) w).alloc _).trans hf2 (fun _ _ h => h)).alloc _⟩
end Go.Proofs.YtiknjghcjaaenaaGreatDoor
