import Derived.Test.YtkiepcdncegniaaZbi
namespace Go.Proofs.Ytkiepcdncegniaa
open Go.RowKit Go.Maps

set_option maxRecDepth 100000 in
set_option maxHeartbeats 4000000 in
theorem sta_none (d mw ma cl nu co rc ve : Nat) (fv hv : Value)  (w : World) (c1 : w.cell? ⟨d, 1, none⟩ = some (.map (some mw))) (c2 : w.cell? ⟨d, 2, none⟩ = some (.map (some ma)))
    (hL : ∀ W', Fr (fun _ => False) w W' → (Instr.lookup 83 (.map (some mw)) (.agg #[.int .u32 (cl : Nat), .int .u32 (nu : Nat)]) true).run Try.prog W' = .ok (.tuple #[.agg [.int .u32 0, .int .u32 0, .int .u32 0, .int .u8 0, .int .u32 0, .int .u32 0, .int .u32 0, .int .u32 0, .slice none 0 0, .string ⟨#[]⟩, .int .i64 0, .int .i64 0].toArray, .bool false]) W') (hM : ∀ W', Fr (fun _ => False) w W' → (Instr.lookup 84 (.map (some ma)) (.agg #[.int .u32 (cl : Nat), .int .u32 (nu : Nat)]) true).run Try.prog W' = .ok (.tuple #[.agg [.int .u32 0, .int .u32 0, .int .u8 0, .int .u32 0, .int .u32 0, .slice none 0 0, .slice none 0 0].toArray, .bool false]) W')  :
    Calls Try.prog 27 #[.pointer (some ⟨d, 0, none⟩), .agg #[.int .u32 (cl : Nat), .int .u32 (nu : Nat), .int .u8 (co : Nat), .int .u32 (rc : Nat), .int .u32 (ve : Nat), fv, hv]] w fun e w' => e = .returned (.int .i64 15) ∧ Fr (fun _ => False) w w' := by
  have hd : d < w.heap.size := lt_of_cell c1
  have HS : Hid (∀ W', Fr (fun _ => False) (w.alloc (.cells #[.int .u32 (cl : Nat), .int .u32 (nu : Nat), .int .u8 (co : Nat), .int .u32 (rc : Nat), .int .u32 (ve : Nat), fv, hv] 44)) W' → (W'.cell? ⟨d, 1, none⟩ = some (.map (some mw)) ∧ W'.cell? ⟨d, 2, none⟩ = some (.map (some ma))) ∧ W'.heap[w.heap.size]? = some (.cells #[.int .u32 (cl : Nat), .int .u32 (nu : Nat), .int .u8 (co : Nat), .int .u32 (rc : Nat), .int .u32 (ve : Nat), fv, hv] 44) ∧ Fr (fun _ => False) w W') := hide (fun W' hf =>
    ⟨⟨((box1 w _).trans0 hf).cell (p := ⟨d, 1, none⟩) hd (fun h => h) |>.trans c1, ((box1 w _).trans0 hf).cell (p := ⟨d, 2, none⟩) hd (fun h => h) |>.trans c2⟩, (hf.block _ (by simp) (fun h => h)).trans (heap_alloc_new w _), (box1 w _).trans0 hf⟩)
  have HL := hide hL
  have HM := hide hM
  clear hL hM c1 c2
  go_enter Try.func27, Try.ntmps27
  go_wp2_with fail
  obtain ⟨W1, hW1⟩ : ∃ W1, w.alloc (.cells #[.int .u32 (cl : Nat), .int .u32 (nu : Nat), .int .u8 (co : Nat), .int .u32 (rc : Nat), .int .u32 (ve : Nat), fv, hv] 44) = W1 := ⟨_, rfl⟩
  have hf1 : Fr (fun _ => False) w W1 := by rw [← hW1]; exact box1 w _
  have HZ : Hid (W1.heap.size = w.heap.size + 1) := hide (by rw [← hW1]; simp)
  rw [hW1] at HS
  rw [hW1]
  clear hW1
  have HSW : Hid (∀ W', Fr (fun _ => False) W1 W' → W'.cell? ⟨d, 1, none⟩ = some (.map (some mw)) ∧ W'.cell? ⟨w.heap.size, 0, none⟩ = some (.int .u32 (cl : Nat)) ∧ W'.cell? ⟨w.heap.size, 1, none⟩ = some (.int .u32 (nu : Nat)) ∧ (Instr.lookup 83 (.map (some mw)) (.agg #[.int .u32 (cl : Nat), .int .u32 (nu : Nat)]) true).run Try.prog W' = .ok (.tuple #[.agg [.int .u32 0, .int .u32 0, .int .u32 0, .int .u8 0, .int .u32 0, .int .u32 0, .int .u32 0, .int .u32 0, .slice none 0 0, .string ⟨#[]⟩, .int .i64 0, .int .i64 0].toArray, .bool false]) W') := hide (fun W' hf => by
    have hb := (unhide HS) W' hf
    exact ⟨hb.1.1, cell_of_blk hb.2.1 rfl, cell_of_blk hb.2.1 rfl, (unhide HL) W' hb.2.2⟩)
  have HSA : Hid (∀ W', Fr (fun _ => False) W1 W' → W'.cell? ⟨d, 2, none⟩ = some (.map (some ma)) ∧ W'.cell? ⟨w.heap.size, 0, none⟩ = some (.int .u32 (cl : Nat)) ∧ W'.cell? ⟨w.heap.size, 1, none⟩ = some (.int .u32 (nu : Nat)) ∧ (Instr.lookup 84 (.map (some ma)) (.agg #[.int .u32 (cl : Nat), .int .u32 (nu : Nat)]) true).run Try.prog W' = .ok (.tuple #[.agg [.int .u32 0, .int .u32 0, .int .u8 0, .int .u32 0, .int .u32 0, .slice none 0 0, .slice none 0 0].toArray, .bool false]) W') := hide (fun W' hf => by
    have hb := (unhide HS) W' hf
    exact ⟨hb.1.2, cell_of_blk hb.2.1 rfl, cell_of_blk hb.2.1 rfl, (unhide HM) W' hb.2.2⟩)
  refine wp_region_held_drew (S := (fun W => W.cell? ⟨d, 1, none⟩ = some (.map (some mw)) ∧ W.cell? ⟨w.heap.size, 0, none⟩ = some (.int .u32 (cl : Nat)) ∧ W.cell? ⟨w.heap.size, 1, none⟩ = some (.int .u32 (nu : Nat)) ∧ (Instr.lookup 83 (.map (some mw)) (.agg #[.int .u32 (cl : Nat), .int .u32 (nu : Nat)]) true).run Try.prog W = .ok (.tuple #[.agg [.int .u32 0, .int .u32 0, .int .u32 0, .int .u8 0, .int .u32 0, .int .u32 0, .int .u32 0, .int .u32 0, .slice none 0 0, .string ⟨#[]⟩, .int .i64 0, .int .i64 0].toArray, .bool false]) W)) (by kernel_rfl) ((unhide HSW) _ (Fr.refl _ _).drew) (fun hHeld => ?_)
  refine wtk2 (i := 0) rfl hHeld ?_
  (try simp only [Act.put, nrm])
  refine wtk2 (i := 1) rfl hHeld ?_
  (try simp only [Act.put, nrm])
  refine wtk2 (i := 2) rfl hHeld ?_
  (try simp only [Act.put, nrm])
  refine wtk2 (i := 3) rfl hHeld ?_
  (try simp only [Act.put, nrm])
  refine wtk2 (i := 4) rfl hHeld ?_
  (try simp only [Act.put, nrm])
  refine wtk2 (i := 5) rfl hHeld ?_
  (try simp only [Act.put, nrm])
  refine wtk2 (i := 6) rfl hHeld ?_
  (try simp only [Act.put, nrm])
  refine wtk2 (i := 7) rfl hHeld ?_
  (try simp only [Act.put, nrm])
  refine wtk2 (i := 8) rfl hHeld ?_
  (try simp only [Act.put, nrm])
  refine wtk2 (i := 9) rfl hHeld ?_
  (try simp only [Act.put, nrm])
  refine wpAnyH_ready (rs := [10]) (by kernel_rfl) (by simp) (AllReadyH.cons rfl (fun K hK => ?_) AllReadyH.nil)
  go_simp
  refine hK.out _ _ ((unhide HSW) _ ((Fr.refl _ _).drew.alloc _)) (fun hHeld => ?_)
  clear hK K
  (try simp only [Act.put, nrm])
  have hb0 : (W1.drew.alloc (.cells [.int .u32 0, .int .u32 0, .int .u32 0, .int .u8 0, .int .u32 0, .int .u32 0, .int .u32 0, .int .u32 0, .slice none 0 0, .string ⟨#[]⟩, .int .i64 0, .int .i64 0].toArray 89)).heap[W1.heap.size]? = some (.cells [.int .u32 0, .int .u32 0, .int .u32 0, .int .u8 0, .int .u32 0, .int .u32 0, .int .u32 0, .int .u32 0, .slice none 0 0, .string ⟨#[]⟩, .int .i64 0, .int .i64 0].toArray 89) := heap_alloc_new W1.drew _
  obtain ⟨W8, hst, hb8, hf8⟩ := st_all (P := Try.prog) (ty := 89) [.int .u32 0, .int .u32 0, .int .u32 0, .int .u8 0, .int .u32 0, .int .u32 0, .int .u32 0, .int .u32 0, .slice none 0 0, .string ⟨#[]⟩, .int .i64 0, .int .i64 0] [.int .u32 0, .int .u32 0, .int .u32 0, .int .u8 0, .int .u32 0, .int .u32 0, .int .u32 0, .int .u32 0, .slice none 0 0, .string ⟨#[]⟩, .int .i64 0, .int .i64 0] hb0 rfl Try.sizeCa (List.all_eq_true.1 (show List.all ([.int .u32 0, .int .u32 0, .int .u32 0, .int .u8 0, .int .u32 0, .int .u32 0, .int .u32 0, .int .u32 0, .slice none 0 0, .string ⟨#[]⟩, .int .i64 0, .int .i64 0] : List Value) (fun v => v.oneCell') = true from rfl))
  have hf18 : Fr (fun _ => False) W1 W8 := ((Fr.refl _ _).drew.alloc _).trans hf8 (fun k hk e => by omega)
  have HF8 := hide hf18
  have HST := hide hst
  clear hst hb8 hf8 hf18 hb0
  refine wpAnyH_ready (rs := [11]) (by kernel_rfl) (by simp) (AllReadyH.cons rfl (fun K hK => ?_) AllReadyH.nil)
  refine step_stN rfl 89 (.tmp 5) (.tmp 17) rfl _ _ (by simp [Act.eval]) (by simp [Act.eval]) (unhide HST) ?_
  refine hK.out _ _ ((unhide HSW) _ (unhide HF8)) (fun hHeld => ?_)
  clear hK K
  (try simp only [Act.put, nrm])
  refine wtk2 (i := 12) rfl hHeld ?_
  (try simp only [Act.put, nrm])
  refine wpAnyH_done (by kernel_rfl) ?_ _
  clear hHeld HSW HST
  go_wp2_with fail
  refine wp_region_held_drew (S := (fun W => W.cell? ⟨d, 2, none⟩ = some (.map (some ma)) ∧ W.cell? ⟨w.heap.size, 0, none⟩ = some (.int .u32 (cl : Nat)) ∧ W.cell? ⟨w.heap.size, 1, none⟩ = some (.int .u32 (nu : Nat)) ∧ (Instr.lookup 84 (.map (some ma)) (.agg #[.int .u32 (cl : Nat), .int .u32 (nu : Nat)]) true).run Try.prog W = .ok (.tuple #[.agg [.int .u32 0, .int .u32 0, .int .u8 0, .int .u32 0, .int .u32 0, .slice none 0 0, .slice none 0 0].toArray, .bool false]) W)) (by kernel_rfl) ((unhide HSA) _ ((unhide HF8).drew)) (fun hHeld => ?_)
  refine wtk2 (i := 0) rfl hHeld ?_
  (try simp only [Act.put, nrm])
  refine wtk2 (i := 1) rfl hHeld ?_
  (try simp only [Act.put, nrm])
  refine wtk2 (i := 2) rfl hHeld ?_
  (try simp only [Act.put, nrm])
  refine wtk2 (i := 3) rfl hHeld ?_
  (try simp only [Act.put, nrm])
  refine wtk2 (i := 4) rfl hHeld ?_
  (try simp only [Act.put, nrm])
  refine wtk2 (i := 5) rfl hHeld ?_
  (try simp only [Act.put, nrm])
  refine wtk2 (i := 6) rfl hHeld ?_
  (try simp only [Act.put, nrm])
  refine wtk2 (i := 7) rfl hHeld ?_
  (try simp only [Act.put, nrm])
  refine wtk2 (i := 8) rfl hHeld ?_
  (try simp only [Act.put, nrm])
  refine wtk2 (i := 9) rfl hHeld ?_
  (try simp only [Act.put, nrm])
  refine wpAnyH_ready (rs := [10]) (by kernel_rfl) (by simp) (AllReadyH.cons rfl (fun K hK => ?_) AllReadyH.nil)
  go_simp
  refine hK.out _ _ ((unhide HSA) _ ((unhide HF8).drew.alloc _)) (fun hHeld => ?_)
  clear hK K
  (try simp only [Act.put, nrm])
  have hb0 : (W8.drew.alloc (.cells [.int .u32 0, .int .u32 0, .int .u8 0, .int .u32 0, .int .u32 0, .slice none 0 0, .slice none 0 0].toArray 44)).heap[W8.heap.size]? = some (.cells [.int .u32 0, .int .u32 0, .int .u8 0, .int .u32 0, .int .u32 0, .slice none 0 0, .slice none 0 0].toArray 44) := heap_alloc_new W8.drew _
  obtain ⟨W9, hst, hb9, hf9⟩ := st_all (P := Try.prog) (ty := 44) [.int .u32 0, .int .u32 0, .int .u8 0, .int .u32 0, .int .u32 0, .slice none 0 0, .slice none 0 0] [.int .u32 0, .int .u32 0, .int .u8 0, .int .u32 0, .int .u32 0, .slice none 0 0, .slice none 0 0] hb0 rfl Try.sizeAn (List.all_eq_true.1 (show List.all ([.int .u32 0, .int .u32 0, .int .u8 0, .int .u32 0, .int .u32 0, .slice none 0 0, .slice none 0 0] : List Value) (fun v => v.oneCell') = true from rfl))
  have hs18 := (unhide HF8).size
  have hf19 : Fr (fun _ => False) W1 W9 := ((unhide HF8).drew.alloc _).trans hf9 (fun k hk e => by omega)
  have HF9 := hide (And.intro (hf1.trans0 hf19) (And.intro hf19 hb9))
  have HST := hide hst
  clear hst hb9 hf9 hf19 hb0 hs18
  refine wpAnyH_ready (rs := [11]) (by kernel_rfl) (by simp) (AllReadyH.cons rfl (fun K hK => ?_) AllReadyH.nil)
  refine step_stN rfl 44 (.tmp 7) (.tmp 53) rfl _ _ (by simp [Act.eval]) (by simp [Act.eval]) (unhide HST) ?_
  refine hK.out _ _ ((unhide HSA) _ (unhide HF9).2.1) (fun hHeld => ?_)
  clear hK K
  (try simp only [Act.put, nrm])
  refine wtk2 (i := 12) rfl hHeld ?_
  (try simp only [Act.put, nrm])
  refine wpAnyH_done (by kernel_rfl) ?_ _
  clear hHeld HSA HST
  go_wp2_with fail
  go_ret
  exact ⟨rfl, (unhide HF9).1⟩
set_option maxRecDepth 100000 in
set_option maxHeartbeats 4000000 in
theorem sta_same (d mw ma cl nu co rc ve : Nat) (fv hv : Value) (A : AN) (h7 : ∀ v ∈ A.cs, v.oneCell' = true) (w : World) (c1 : w.cell? ⟨d, 1, none⟩ = some (.map (some mw))) (c2 : w.cell? ⟨d, 2, none⟩ = some (.map (some ma)))
    (hL : ∀ W', Fr (fun _ => False) w W' → (Instr.lookup 83 (.map (some mw)) (.agg #[.int .u32 (cl : Nat), .int .u32 (nu : Nat)]) true).run Try.prog W' = .ok (.tuple #[.agg [.int .u32 0, .int .u32 0, .int .u32 0, .int .u8 0, .int .u32 0, .int .u32 0, .int .u32 0, .int .u32 0, .slice none 0 0, .string ⟨#[]⟩, .int .i64 0, .int .i64 0].toArray, .bool false]) W') (hM : ∀ W', Fr (fun _ => False) w W' → (Instr.lookup 84 (.map (some ma)) (.agg #[.int .u32 (cl : Nat), .int .u32 (nu : Nat)]) true).run Try.prog W' = .ok (.tuple #[.agg A.cs.toArray, .bool true]) W') (hQ : ∀ W', Fr (fun _ => False) w W' → Calls Try.prog 43 #[.agg A.cs.toArray, .agg #[.int .u32 (cl : Nat), .int .u32 (nu : Nat), .int .u8 (co : Nat), .int .u32 (rc : Nat), .int .u32 (ve : Nat), fv, hv]] W' fun e w' => e = .returned (.bool true) ∧ Fr (fun _ => False) W' w') :
    Calls Try.prog 27 #[.pointer (some ⟨d, 0, none⟩), .agg #[.int .u32 (cl : Nat), .int .u32 (nu : Nat), .int .u8 (co : Nat), .int .u32 (rc : Nat), .int .u32 (ve : Nat), fv, hv]] w fun e w' => e = .returned (.int .i64 0) ∧ Fr (fun _ => False) w w' := by
  have hd : d < w.heap.size := lt_of_cell c1
  have HS : Hid (∀ W', Fr (fun _ => False) (w.alloc (.cells #[.int .u32 (cl : Nat), .int .u32 (nu : Nat), .int .u8 (co : Nat), .int .u32 (rc : Nat), .int .u32 (ve : Nat), fv, hv] 44)) W' → (W'.cell? ⟨d, 1, none⟩ = some (.map (some mw)) ∧ W'.cell? ⟨d, 2, none⟩ = some (.map (some ma))) ∧ W'.heap[w.heap.size]? = some (.cells #[.int .u32 (cl : Nat), .int .u32 (nu : Nat), .int .u8 (co : Nat), .int .u32 (rc : Nat), .int .u32 (ve : Nat), fv, hv] 44) ∧ Fr (fun _ => False) w W') := hide (fun W' hf =>
    ⟨⟨((box1 w _).trans0 hf).cell (p := ⟨d, 1, none⟩) hd (fun h => h) |>.trans c1, ((box1 w _).trans0 hf).cell (p := ⟨d, 2, none⟩) hd (fun h => h) |>.trans c2⟩, (hf.block _ (by simp) (fun h => h)).trans (heap_alloc_new w _), (box1 w _).trans0 hf⟩)
  have HL := hide hL
  have HM := hide hM
  clear hL hM c1 c2
  have HQ := hide hQ
  clear hQ
  go_enter Try.func27, Try.ntmps27
  go_wp2_with fail
  obtain ⟨W1, hW1⟩ : ∃ W1, w.alloc (.cells #[.int .u32 (cl : Nat), .int .u32 (nu : Nat), .int .u8 (co : Nat), .int .u32 (rc : Nat), .int .u32 (ve : Nat), fv, hv] 44) = W1 := ⟨_, rfl⟩
  have hf1 : Fr (fun _ => False) w W1 := by rw [← hW1]; exact box1 w _
  have HZ : Hid (W1.heap.size = w.heap.size + 1) := hide (by rw [← hW1]; simp)
  rw [hW1] at HS
  rw [hW1]
  clear hW1
  have HSW : Hid (∀ W', Fr (fun _ => False) W1 W' → W'.cell? ⟨d, 1, none⟩ = some (.map (some mw)) ∧ W'.cell? ⟨w.heap.size, 0, none⟩ = some (.int .u32 (cl : Nat)) ∧ W'.cell? ⟨w.heap.size, 1, none⟩ = some (.int .u32 (nu : Nat)) ∧ (Instr.lookup 83 (.map (some mw)) (.agg #[.int .u32 (cl : Nat), .int .u32 (nu : Nat)]) true).run Try.prog W' = .ok (.tuple #[.agg [.int .u32 0, .int .u32 0, .int .u32 0, .int .u8 0, .int .u32 0, .int .u32 0, .int .u32 0, .int .u32 0, .slice none 0 0, .string ⟨#[]⟩, .int .i64 0, .int .i64 0].toArray, .bool false]) W') := hide (fun W' hf => by
    have hb := (unhide HS) W' hf
    exact ⟨hb.1.1, cell_of_blk hb.2.1 rfl, cell_of_blk hb.2.1 rfl, (unhide HL) W' hb.2.2⟩)
  have HSA : Hid (∀ W', Fr (fun _ => False) W1 W' → W'.cell? ⟨d, 2, none⟩ = some (.map (some ma)) ∧ W'.cell? ⟨w.heap.size, 0, none⟩ = some (.int .u32 (cl : Nat)) ∧ W'.cell? ⟨w.heap.size, 1, none⟩ = some (.int .u32 (nu : Nat)) ∧ (Instr.lookup 84 (.map (some ma)) (.agg #[.int .u32 (cl : Nat), .int .u32 (nu : Nat)]) true).run Try.prog W' = .ok (.tuple #[.agg A.cs.toArray, .bool true]) W') := hide (fun W' hf => by
    have hb := (unhide HS) W' hf
    exact ⟨hb.1.2, cell_of_blk hb.2.1 rfl, cell_of_blk hb.2.1 rfl, (unhide HM) W' hb.2.2⟩)
  refine wp_region_held_drew (S := (fun W => W.cell? ⟨d, 1, none⟩ = some (.map (some mw)) ∧ W.cell? ⟨w.heap.size, 0, none⟩ = some (.int .u32 (cl : Nat)) ∧ W.cell? ⟨w.heap.size, 1, none⟩ = some (.int .u32 (nu : Nat)) ∧ (Instr.lookup 83 (.map (some mw)) (.agg #[.int .u32 (cl : Nat), .int .u32 (nu : Nat)]) true).run Try.prog W = .ok (.tuple #[.agg [.int .u32 0, .int .u32 0, .int .u32 0, .int .u8 0, .int .u32 0, .int .u32 0, .int .u32 0, .int .u32 0, .slice none 0 0, .string ⟨#[]⟩, .int .i64 0, .int .i64 0].toArray, .bool false]) W)) (by kernel_rfl) ((unhide HSW) _ (Fr.refl _ _).drew) (fun hHeld => ?_)
  refine wtk2 (i := 0) rfl hHeld ?_
  (try simp only [Act.put, nrm])
  refine wtk2 (i := 1) rfl hHeld ?_
  (try simp only [Act.put, nrm])
  refine wtk2 (i := 2) rfl hHeld ?_
  (try simp only [Act.put, nrm])
  refine wtk2 (i := 3) rfl hHeld ?_
  (try simp only [Act.put, nrm])
  refine wtk2 (i := 4) rfl hHeld ?_
  (try simp only [Act.put, nrm])
  refine wtk2 (i := 5) rfl hHeld ?_
  (try simp only [Act.put, nrm])
  refine wtk2 (i := 6) rfl hHeld ?_
  (try simp only [Act.put, nrm])
  refine wtk2 (i := 7) rfl hHeld ?_
  (try simp only [Act.put, nrm])
  refine wtk2 (i := 8) rfl hHeld ?_
  (try simp only [Act.put, nrm])
  refine wtk2 (i := 9) rfl hHeld ?_
  (try simp only [Act.put, nrm])
  refine wpAnyH_ready (rs := [10]) (by kernel_rfl) (by simp) (AllReadyH.cons rfl (fun K hK => ?_) AllReadyH.nil)
  go_simp
  refine hK.out _ _ ((unhide HSW) _ ((Fr.refl _ _).drew.alloc _)) (fun hHeld => ?_)
  clear hK K
  (try simp only [Act.put, nrm])
  have hb0 : (W1.drew.alloc (.cells [.int .u32 0, .int .u32 0, .int .u32 0, .int .u8 0, .int .u32 0, .int .u32 0, .int .u32 0, .int .u32 0, .slice none 0 0, .string ⟨#[]⟩, .int .i64 0, .int .i64 0].toArray 89)).heap[W1.heap.size]? = some (.cells [.int .u32 0, .int .u32 0, .int .u32 0, .int .u8 0, .int .u32 0, .int .u32 0, .int .u32 0, .int .u32 0, .slice none 0 0, .string ⟨#[]⟩, .int .i64 0, .int .i64 0].toArray 89) := heap_alloc_new W1.drew _
  obtain ⟨W8, hst, hb8, hf8⟩ := st_all (P := Try.prog) (ty := 89) [.int .u32 0, .int .u32 0, .int .u32 0, .int .u8 0, .int .u32 0, .int .u32 0, .int .u32 0, .int .u32 0, .slice none 0 0, .string ⟨#[]⟩, .int .i64 0, .int .i64 0] [.int .u32 0, .int .u32 0, .int .u32 0, .int .u8 0, .int .u32 0, .int .u32 0, .int .u32 0, .int .u32 0, .slice none 0 0, .string ⟨#[]⟩, .int .i64 0, .int .i64 0] hb0 rfl Try.sizeCa (List.all_eq_true.1 (show List.all ([.int .u32 0, .int .u32 0, .int .u32 0, .int .u8 0, .int .u32 0, .int .u32 0, .int .u32 0, .int .u32 0, .slice none 0 0, .string ⟨#[]⟩, .int .i64 0, .int .i64 0] : List Value) (fun v => v.oneCell') = true from rfl))
  have hf18 : Fr (fun _ => False) W1 W8 := ((Fr.refl _ _).drew.alloc _).trans hf8 (fun k hk e => by omega)
  have HF8 := hide hf18
  have HST := hide hst
  clear hst hb8 hf8 hf18 hb0
  refine wpAnyH_ready (rs := [11]) (by kernel_rfl) (by simp) (AllReadyH.cons rfl (fun K hK => ?_) AllReadyH.nil)
  refine step_stN rfl 89 (.tmp 5) (.tmp 17) rfl _ _ (by simp [Act.eval]) (by simp [Act.eval]) (unhide HST) ?_
  refine hK.out _ _ ((unhide HSW) _ (unhide HF8)) (fun hHeld => ?_)
  clear hK K
  (try simp only [Act.put, nrm])
  refine wtk2 (i := 12) rfl hHeld ?_
  (try simp only [Act.put, nrm])
  refine wpAnyH_done (by kernel_rfl) ?_ _
  clear hHeld HSW HST
  go_wp2_with fail
  refine wp_region_held_drew (S := (fun W => W.cell? ⟨d, 2, none⟩ = some (.map (some ma)) ∧ W.cell? ⟨w.heap.size, 0, none⟩ = some (.int .u32 (cl : Nat)) ∧ W.cell? ⟨w.heap.size, 1, none⟩ = some (.int .u32 (nu : Nat)) ∧ (Instr.lookup 84 (.map (some ma)) (.agg #[.int .u32 (cl : Nat), .int .u32 (nu : Nat)]) true).run Try.prog W = .ok (.tuple #[.agg A.cs.toArray, .bool true]) W)) (by kernel_rfl) ((unhide HSA) _ ((unhide HF8).drew)) (fun hHeld => ?_)
  refine wtk2 (i := 0) rfl hHeld ?_
  (try simp only [Act.put, nrm])
  refine wtk2 (i := 1) rfl hHeld ?_
  (try simp only [Act.put, nrm])
  refine wtk2 (i := 2) rfl hHeld ?_
  (try simp only [Act.put, nrm])
  refine wtk2 (i := 3) rfl hHeld ?_
  (try simp only [Act.put, nrm])
  refine wtk2 (i := 4) rfl hHeld ?_
  (try simp only [Act.put, nrm])
  refine wtk2 (i := 5) rfl hHeld ?_
  (try simp only [Act.put, nrm])
  refine wtk2 (i := 6) rfl hHeld ?_
  (try simp only [Act.put, nrm])
  refine wtk2 (i := 7) rfl hHeld ?_
  (try simp only [Act.put, nrm])
  refine wtk2 (i := 8) rfl hHeld ?_
  (try simp only [Act.put, nrm])
  refine wtk2 (i := 9) rfl hHeld ?_
  (try simp only [Act.put, nrm])
  refine wpAnyH_ready (rs := [10]) (by kernel_rfl) (by simp) (AllReadyH.cons rfl (fun K hK => ?_) AllReadyH.nil)
  go_simp
  refine hK.out _ _ ((unhide HSA) _ ((unhide HF8).drew.alloc _)) (fun hHeld => ?_)
  clear hK K
  (try simp only [Act.put, nrm])
  have hb0 : (W8.drew.alloc (.cells [.int .u32 0, .int .u32 0, .int .u8 0, .int .u32 0, .int .u32 0, .slice none 0 0, .slice none 0 0].toArray 44)).heap[W8.heap.size]? = some (.cells [.int .u32 0, .int .u32 0, .int .u8 0, .int .u32 0, .int .u32 0, .slice none 0 0, .slice none 0 0].toArray 44) := heap_alloc_new W8.drew _
  obtain ⟨W9, hst, hb9, hf9⟩ := st_all (P := Try.prog) (ty := 44) [.int .u32 0, .int .u32 0, .int .u8 0, .int .u32 0, .int .u32 0, .slice none 0 0, .slice none 0 0] A.cs hb0 rfl Try.sizeAn h7
  have hs18 := (unhide HF8).size
  have hf19 : Fr (fun _ => False) W1 W9 := ((unhide HF8).drew.alloc _).trans hf9 (fun k hk e => by omega)
  have HF9 := hide (And.intro (hf1.trans0 hf19) (And.intro hf19 hb9))
  have HST := hide hst
  clear hst hb9 hf9 hf19 hb0 hs18
  refine wpAnyH_ready (rs := [11]) (by kernel_rfl) (by simp) (AllReadyH.cons rfl (fun K hK => ?_) AllReadyH.nil)
  refine step_stN rfl 44 (.tmp 7) (.tmp 53) rfl _ _ (by simp [Act.eval]) (by simp [Act.eval]) (unhide HST) ?_
  refine hK.out _ _ ((unhide HSA) _ (unhide HF9).2.1) (fun hHeld => ?_)
  clear hK K
  (try simp only [Act.put, nrm])
  refine wtk2 (i := 12) rfl hHeld ?_
  (try simp only [Act.put, nrm])
  refine wpAnyH_done (by kernel_rfl) ?_ _
  clear hHeld HSA HST
  have hr1 : W9.rangeAt W8.heap.size 0 A.cs := range_of_block (unhide HF9).2.2
  have hr2 : W9.rangeAt w.heap.size 0 [.int .u32 (cl : Nat), .int .u32 (nu : Nat), .int .u8 (co : Nat), .int .u32 (rc : Nat), .int .u32 (ve : Nat), fv, hv] := range_of_block ((unhide HS) _ (unhide HF9).2.1).2.1
  have HR1 := hide hr1
  have HR2 := hide hr2
  have HC := hide ((unhide HQ) W9 (unhide HF9).1)
  have HFF := hide (unhide HF9).1
  clear hr1 hr2 HQ HF9 HS HL HM HF8 HZ hf1
  go_wp2_with (first | refine wpList_load_mid rfl 44 (.tmp 7) rfl W8.heap.size 0 rfl _ _ (unhide HR1) Try.underlying44 rfl Try.sizeAn ?_ | refine wpList_load_mid rfl 44 (.tmp 3) rfl w.heap.size 0 rfl _ _ (unhide HR2) Try.underlying44 rfl Try.sizeAn ?_)
  refine (unhide HC).mono ?_
  rintro e W10 ⟨rfl, hf10⟩
  go_wp2_with fail
  go_ret
  exact ⟨rfl, (unhide HFF).trans0 hf10⟩
set_option maxRecDepth 100000 in
set_option maxHeartbeats 4000000 in
theorem sta_other (d mw ma cl nu co rc ve : Nat) (fv hv : Value) (A : AN) (h7 : ∀ v ∈ A.cs, v.oneCell' = true) (w : World) (c1 : w.cell? ⟨d, 1, none⟩ = some (.map (some mw))) (c2 : w.cell? ⟨d, 2, none⟩ = some (.map (some ma)))
    (hL : ∀ W', Fr (fun _ => False) w W' → (Instr.lookup 83 (.map (some mw)) (.agg #[.int .u32 (cl : Nat), .int .u32 (nu : Nat)]) true).run Try.prog W' = .ok (.tuple #[.agg [.int .u32 0, .int .u32 0, .int .u32 0, .int .u8 0, .int .u32 0, .int .u32 0, .int .u32 0, .int .u32 0, .slice none 0 0, .string ⟨#[]⟩, .int .i64 0, .int .i64 0].toArray, .bool false]) W') (hM : ∀ W', Fr (fun _ => False) w W' → (Instr.lookup 84 (.map (some ma)) (.agg #[.int .u32 (cl : Nat), .int .u32 (nu : Nat)]) true).run Try.prog W' = .ok (.tuple #[.agg A.cs.toArray, .bool true]) W') (hQ : ∀ W', Fr (fun _ => False) w W' → Calls Try.prog 43 #[.agg A.cs.toArray, .agg #[.int .u32 (cl : Nat), .int .u32 (nu : Nat), .int .u8 (co : Nat), .int .u32 (rc : Nat), .int .u32 (ve : Nat), fv, hv]] W' fun e w' => e = .returned (.bool false) ∧ Fr (fun _ => False) W' w') :
    Calls Try.prog 27 #[.pointer (some ⟨d, 0, none⟩), .agg #[.int .u32 (cl : Nat), .int .u32 (nu : Nat), .int .u8 (co : Nat), .int .u32 (rc : Nat), .int .u32 (ve : Nat), fv, hv]] w fun e w' => e = .returned (.int .i64 4) ∧ Fr (fun _ => False) w w' := by
  have hd : d < w.heap.size := lt_of_cell c1
  have HS : Hid (∀ W', Fr (fun _ => False) (w.alloc (.cells #[.int .u32 (cl : Nat), .int .u32 (nu : Nat), .int .u8 (co : Nat), .int .u32 (rc : Nat), .int .u32 (ve : Nat), fv, hv] 44)) W' → (W'.cell? ⟨d, 1, none⟩ = some (.map (some mw)) ∧ W'.cell? ⟨d, 2, none⟩ = some (.map (some ma))) ∧ W'.heap[w.heap.size]? = some (.cells #[.int .u32 (cl : Nat), .int .u32 (nu : Nat), .int .u8 (co : Nat), .int .u32 (rc : Nat), .int .u32 (ve : Nat), fv, hv] 44) ∧ Fr (fun _ => False) w W') := hide (fun W' hf =>
    ⟨⟨((box1 w _).trans0 hf).cell (p := ⟨d, 1, none⟩) hd (fun h => h) |>.trans c1, ((box1 w _).trans0 hf).cell (p := ⟨d, 2, none⟩) hd (fun h => h) |>.trans c2⟩, (hf.block _ (by simp) (fun h => h)).trans (heap_alloc_new w _), (box1 w _).trans0 hf⟩)
  have HL := hide hL
  have HM := hide hM
  clear hL hM c1 c2
  have HQ := hide hQ
  clear hQ
  go_enter Try.func27, Try.ntmps27
  go_wp2_with fail
  obtain ⟨W1, hW1⟩ : ∃ W1, w.alloc (.cells #[.int .u32 (cl : Nat), .int .u32 (nu : Nat), .int .u8 (co : Nat), .int .u32 (rc : Nat), .int .u32 (ve : Nat), fv, hv] 44) = W1 := ⟨_, rfl⟩
  have hf1 : Fr (fun _ => False) w W1 := by rw [← hW1]; exact box1 w _
  have HZ : Hid (W1.heap.size = w.heap.size + 1) := hide (by rw [← hW1]; simp)
  rw [hW1] at HS
  rw [hW1]
  clear hW1
  have HSW : Hid (∀ W', Fr (fun _ => False) W1 W' → W'.cell? ⟨d, 1, none⟩ = some (.map (some mw)) ∧ W'.cell? ⟨w.heap.size, 0, none⟩ = some (.int .u32 (cl : Nat)) ∧ W'.cell? ⟨w.heap.size, 1, none⟩ = some (.int .u32 (nu : Nat)) ∧ (Instr.lookup 83 (.map (some mw)) (.agg #[.int .u32 (cl : Nat), .int .u32 (nu : Nat)]) true).run Try.prog W' = .ok (.tuple #[.agg [.int .u32 0, .int .u32 0, .int .u32 0, .int .u8 0, .int .u32 0, .int .u32 0, .int .u32 0, .int .u32 0, .slice none 0 0, .string ⟨#[]⟩, .int .i64 0, .int .i64 0].toArray, .bool false]) W') := hide (fun W' hf => by
    have hb := (unhide HS) W' hf
    exact ⟨hb.1.1, cell_of_blk hb.2.1 rfl, cell_of_blk hb.2.1 rfl, (unhide HL) W' hb.2.2⟩)
  have HSA : Hid (∀ W', Fr (fun _ => False) W1 W' → W'.cell? ⟨d, 2, none⟩ = some (.map (some ma)) ∧ W'.cell? ⟨w.heap.size, 0, none⟩ = some (.int .u32 (cl : Nat)) ∧ W'.cell? ⟨w.heap.size, 1, none⟩ = some (.int .u32 (nu : Nat)) ∧ (Instr.lookup 84 (.map (some ma)) (.agg #[.int .u32 (cl : Nat), .int .u32 (nu : Nat)]) true).run Try.prog W' = .ok (.tuple #[.agg A.cs.toArray, .bool true]) W') := hide (fun W' hf => by
    have hb := (unhide HS) W' hf
    exact ⟨hb.1.2, cell_of_blk hb.2.1 rfl, cell_of_blk hb.2.1 rfl, (unhide HM) W' hb.2.2⟩)
  refine wp_region_held_drew (S := (fun W => W.cell? ⟨d, 1, none⟩ = some (.map (some mw)) ∧ W.cell? ⟨w.heap.size, 0, none⟩ = some (.int .u32 (cl : Nat)) ∧ W.cell? ⟨w.heap.size, 1, none⟩ = some (.int .u32 (nu : Nat)) ∧ (Instr.lookup 83 (.map (some mw)) (.agg #[.int .u32 (cl : Nat), .int .u32 (nu : Nat)]) true).run Try.prog W = .ok (.tuple #[.agg [.int .u32 0, .int .u32 0, .int .u32 0, .int .u8 0, .int .u32 0, .int .u32 0, .int .u32 0, .int .u32 0, .slice none 0 0, .string ⟨#[]⟩, .int .i64 0, .int .i64 0].toArray, .bool false]) W)) (by kernel_rfl) ((unhide HSW) _ (Fr.refl _ _).drew) (fun hHeld => ?_)
  refine wtk2 (i := 0) rfl hHeld ?_
  (try simp only [Act.put, nrm])
  refine wtk2 (i := 1) rfl hHeld ?_
  (try simp only [Act.put, nrm])
  refine wtk2 (i := 2) rfl hHeld ?_
  (try simp only [Act.put, nrm])
  refine wtk2 (i := 3) rfl hHeld ?_
  (try simp only [Act.put, nrm])
  refine wtk2 (i := 4) rfl hHeld ?_
  (try simp only [Act.put, nrm])
  refine wtk2 (i := 5) rfl hHeld ?_
  (try simp only [Act.put, nrm])
  refine wtk2 (i := 6) rfl hHeld ?_
  (try simp only [Act.put, nrm])
  refine wtk2 (i := 7) rfl hHeld ?_
  (try simp only [Act.put, nrm])
  refine wtk2 (i := 8) rfl hHeld ?_
  (try simp only [Act.put, nrm])
  refine wtk2 (i := 9) rfl hHeld ?_
  (try simp only [Act.put, nrm])
  refine wpAnyH_ready (rs := [10]) (by kernel_rfl) (by simp) (AllReadyH.cons rfl (fun K hK => ?_) AllReadyH.nil)
  go_simp
  refine hK.out _ _ ((unhide HSW) _ ((Fr.refl _ _).drew.alloc _)) (fun hHeld => ?_)
  clear hK K
  (try simp only [Act.put, nrm])
  have hb0 : (W1.drew.alloc (.cells [.int .u32 0, .int .u32 0, .int .u32 0, .int .u8 0, .int .u32 0, .int .u32 0, .int .u32 0, .int .u32 0, .slice none 0 0, .string ⟨#[]⟩, .int .i64 0, .int .i64 0].toArray 89)).heap[W1.heap.size]? = some (.cells [.int .u32 0, .int .u32 0, .int .u32 0, .int .u8 0, .int .u32 0, .int .u32 0, .int .u32 0, .int .u32 0, .slice none 0 0, .string ⟨#[]⟩, .int .i64 0, .int .i64 0].toArray 89) := heap_alloc_new W1.drew _
  obtain ⟨W8, hst, hb8, hf8⟩ := st_all (P := Try.prog) (ty := 89) [.int .u32 0, .int .u32 0, .int .u32 0, .int .u8 0, .int .u32 0, .int .u32 0, .int .u32 0, .int .u32 0, .slice none 0 0, .string ⟨#[]⟩, .int .i64 0, .int .i64 0] [.int .u32 0, .int .u32 0, .int .u32 0, .int .u8 0, .int .u32 0, .int .u32 0, .int .u32 0, .int .u32 0, .slice none 0 0, .string ⟨#[]⟩, .int .i64 0, .int .i64 0] hb0 rfl Try.sizeCa (List.all_eq_true.1 (show List.all ([.int .u32 0, .int .u32 0, .int .u32 0, .int .u8 0, .int .u32 0, .int .u32 0, .int .u32 0, .int .u32 0, .slice none 0 0, .string ⟨#[]⟩, .int .i64 0, .int .i64 0] : List Value) (fun v => v.oneCell') = true from rfl))
  have hf18 : Fr (fun _ => False) W1 W8 := ((Fr.refl _ _).drew.alloc _).trans hf8 (fun k hk e => by omega)
  have HF8 := hide hf18
  have HST := hide hst
  clear hst hb8 hf8 hf18 hb0
  refine wpAnyH_ready (rs := [11]) (by kernel_rfl) (by simp) (AllReadyH.cons rfl (fun K hK => ?_) AllReadyH.nil)
  refine step_stN rfl 89 (.tmp 5) (.tmp 17) rfl _ _ (by simp [Act.eval]) (by simp [Act.eval]) (unhide HST) ?_
  refine hK.out _ _ ((unhide HSW) _ (unhide HF8)) (fun hHeld => ?_)
  clear hK K
  (try simp only [Act.put, nrm])
  refine wtk2 (i := 12) rfl hHeld ?_
  (try simp only [Act.put, nrm])
  refine wpAnyH_done (by kernel_rfl) ?_ _
  clear hHeld HSW HST
  go_wp2_with fail
  refine wp_region_held_drew (S := (fun W => W.cell? ⟨d, 2, none⟩ = some (.map (some ma)) ∧ W.cell? ⟨w.heap.size, 0, none⟩ = some (.int .u32 (cl : Nat)) ∧ W.cell? ⟨w.heap.size, 1, none⟩ = some (.int .u32 (nu : Nat)) ∧ (Instr.lookup 84 (.map (some ma)) (.agg #[.int .u32 (cl : Nat), .int .u32 (nu : Nat)]) true).run Try.prog W = .ok (.tuple #[.agg A.cs.toArray, .bool true]) W)) (by kernel_rfl) ((unhide HSA) _ ((unhide HF8).drew)) (fun hHeld => ?_)
  refine wtk2 (i := 0) rfl hHeld ?_
  (try simp only [Act.put, nrm])
  refine wtk2 (i := 1) rfl hHeld ?_
  (try simp only [Act.put, nrm])
  refine wtk2 (i := 2) rfl hHeld ?_
  (try simp only [Act.put, nrm])
  refine wtk2 (i := 3) rfl hHeld ?_
  (try simp only [Act.put, nrm])
  refine wtk2 (i := 4) rfl hHeld ?_
  (try simp only [Act.put, nrm])
  refine wtk2 (i := 5) rfl hHeld ?_
  (try simp only [Act.put, nrm])
  refine wtk2 (i := 6) rfl hHeld ?_
  (try simp only [Act.put, nrm])
  refine wtk2 (i := 7) rfl hHeld ?_
  (try simp only [Act.put, nrm])
  refine wtk2 (i := 8) rfl hHeld ?_
  (try simp only [Act.put, nrm])
  refine wtk2 (i := 9) rfl hHeld ?_
  (try simp only [Act.put, nrm])
  refine wpAnyH_ready (rs := [10]) (by kernel_rfl) (by simp) (AllReadyH.cons rfl (fun K hK => ?_) AllReadyH.nil)
  go_simp
  refine hK.out _ _ ((unhide HSA) _ ((unhide HF8).drew.alloc _)) (fun hHeld => ?_)
  clear hK K
  (try simp only [Act.put, nrm])
  have hb0 : (W8.drew.alloc (.cells [.int .u32 0, .int .u32 0, .int .u8 0, .int .u32 0, .int .u32 0, .slice none 0 0, .slice none 0 0].toArray 44)).heap[W8.heap.size]? = some (.cells [.int .u32 0, .int .u32 0, .int .u8 0, .int .u32 0, .int .u32 0, .slice none 0 0, .slice none 0 0].toArray 44) := heap_alloc_new W8.drew _
  obtain ⟨W9, hst, hb9, hf9⟩ := st_all (P := Try.prog) (ty := 44) [.int .u32 0, .int .u32 0, .int .u8 0, .int .u32 0, .int .u32 0, .slice none 0 0, .slice none 0 0] A.cs hb0 rfl Try.sizeAn h7
  have hs18 := (unhide HF8).size
  have hf19 : Fr (fun _ => False) W1 W9 := ((unhide HF8).drew.alloc _).trans hf9 (fun k hk e => by omega)
  have HF9 := hide (And.intro (hf1.trans0 hf19) (And.intro hf19 hb9))
  have HST := hide hst
  clear hst hb9 hf9 hf19 hb0 hs18
  refine wpAnyH_ready (rs := [11]) (by kernel_rfl) (by simp) (AllReadyH.cons rfl (fun K hK => ?_) AllReadyH.nil)
  refine step_stN rfl 44 (.tmp 7) (.tmp 53) rfl _ _ (by simp [Act.eval]) (by simp [Act.eval]) (unhide HST) ?_
  refine hK.out _ _ ((unhide HSA) _ (unhide HF9).2.1) (fun hHeld => ?_)
  clear hK K
  (try simp only [Act.put, nrm])
  refine wtk2 (i := 12) rfl hHeld ?_
  (try simp only [Act.put, nrm])
  refine wpAnyH_done (by kernel_rfl) ?_ _
  clear hHeld HSA HST
  have hr1 : W9.rangeAt W8.heap.size 0 A.cs := range_of_block (unhide HF9).2.2
  have hr2 : W9.rangeAt w.heap.size 0 [.int .u32 (cl : Nat), .int .u32 (nu : Nat), .int .u8 (co : Nat), .int .u32 (rc : Nat), .int .u32 (ve : Nat), fv, hv] := range_of_block ((unhide HS) _ (unhide HF9).2.1).2.1
  have HR1 := hide hr1
  have HR2 := hide hr2
  have HC := hide ((unhide HQ) W9 (unhide HF9).1)
  have HFF := hide (unhide HF9).1
  clear hr1 hr2 HQ HF9 HS HL HM HF8 HZ hf1
  go_wp2_with (first | refine wpList_load_mid rfl 44 (.tmp 7) rfl W8.heap.size 0 rfl _ _ (unhide HR1) Try.underlying44 rfl Try.sizeAn ?_ | refine wpList_load_mid rfl 44 (.tmp 3) rfl w.heap.size 0 rfl _ _ (unhide HR2) Try.underlying44 rfl Try.sizeAn ?_)
  refine (unhide HC).mono ?_
  rintro e W10 ⟨rfl, hf10⟩
  go_wp2_with fail
  go_ret
  exact ⟨rfl, (unhide HFF).trans0 hf10⟩
end Go.Proofs.Ytkiepcdncegniaa
