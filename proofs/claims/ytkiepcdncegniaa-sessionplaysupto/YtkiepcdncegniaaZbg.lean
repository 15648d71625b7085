import Derived.Test.YtkiepcdncegniaaZbf
namespace Go.Proofs.Ytkiepcdncegniaa
open Go.RowKit Go.Maps

theorem set_two (x : List Value) (hx : x.length = 10) (a b c e : Value) : ((x ++ [a, b]).toArray.setIfInBounds 10 c).setIfInBounds 11 e = (x ++ [c, e]).toArray := by
  rw [List.setIfInBounds_toArray, List.setIfInBounds_toArray, List.set_append_right _ _ (by omega), List.set_append_right _ _ (by omega), hx]
  rfl
theorem wrap_succ (n : Nat) (h : n ≤ 1000000000000) : wrap64 ((n : Int) + 1) = ((n : Int) + 1) := by unfold wrap64; omega
set_option maxRecDepth 100000 in
set_option maxHeartbeats 4000000 in
/-- takeBusy of a request that waits. -/
theorem stb_wait (d mw cl nu : Nat) (y la : Int) (n : Nat) (hn : n ≤ 1000000000000) (x : List Value) (hx : x.length = 10) (h1 : ∀ v ∈ x, v.oneCell' = true) (w : World) (c1 : w.cell? ⟨d, 1, none⟩ = some (.map (some mw))) (hdm : d ≠ mw) (hml : mw < w.heap.size) (PM : World → Prop)
    (hL : ∀ W', Fr (fun _ => False) w W' → (Instr.lookup 83 (.map (some mw)) (.agg #[.int .u32 (cl : Nat), .int .u32 (nu : Nat)]) true).run Try.prog W' = .ok (.tuple #[.agg (x ++ [Value.int .i64 la, Value.int .i64 (n : Nat)]).toArray, .bool true]) W')
    (hU : ∀ W', Fr (fun _ => False) w W' → ∃ W2, (Instr.mapUpdate 83 (.map (some mw)) (.agg #[.int .u32 (cl : Nat), .int .u32 (nu : Nat)]) (.agg (x ++ [Value.int .i64 y, Value.int .i64 ((n : Int) + 1)]).toArray)).run Try.prog W' = .ok () W2 ∧ PM W2 ∧ Fr (fun g => g = mw) W' W2) :
    Calls Try.prog 28 #[.pointer (some ⟨d, 0, none⟩), .agg #[.int .u32 (cl : Nat), .int .u32 (nu : Nat)], .int .i64 y] w fun e w' => e = .returned (.int .i64 0) ∧ PM w' ∧ ∃ w1, Fr (fun _ => False) w w1 ∧ Fr (fun g => g = mw) w1 w' := by
  have hd : d < w.heap.size := lt_of_cell c1
  have HS : Hid (∀ W', Fr (fun _ => False) (w.alloc (.cells #[.int .u32 (cl : Nat), .int .u32 (nu : Nat)] 29)) W' → W'.cell? ⟨d, 1, none⟩ = some (.map (some mw)) ∧ W'.cell? ⟨w.heap.size, 0, none⟩ = some (.int .u32 (cl : Nat)) ∧ W'.cell? ⟨w.heap.size, 1, none⟩ = some (.int .u32 (nu : Nat)) ∧ Fr (fun _ => False) w W') := hide (fun W' hf => by
    have hb : W'.heap[w.heap.size]? = some (.cells #[.int .u32 (cl : Nat), .int .u32 (nu : Nat)] 29) := (hf.block _ (by simp) (fun h => h)).trans (heap_alloc_new w _)
    exact ⟨((box1 w _).trans0 hf).cell (p := ⟨d, 1, none⟩) hd (fun h => h) |>.trans c1, cell_of_blk hb rfl, cell_of_blk hb rfl, (box1 w _).trans0 hf⟩)
  have HL := hide hL
  have HU := hide hU
  have HV := hide (And.intro hx h1)
  have HW := hide (wrap_succ n hn)
  have HD := hide (And.intro hdm hml)
  clear hL hU c1 hx h1 hn hdm hml
  go_enter Try.func28, Try.ntmps28
  go_wp2_with fail
  obtain ⟨W1, hW1⟩ : ∃ W1, w.alloc (.cells #[.int .u32 (cl : Nat), .int .u32 (nu : Nat)] 29) = W1 := ⟨_, rfl⟩
  have hf1 : Fr (fun _ => False) w W1 := by rw [← hW1]; exact box1 w _
  have hsz1 : W1.heap.size = w.heap.size + 1 := by rw [← hW1]; simp
  have HZ := hide hsz1
  clear hsz1
  rw [hW1] at HS
  rw [hW1]
  clear hW1
  have HSW : Hid (∀ W', Fr (fun _ => False) W1 W' → W'.cell? ⟨d, 1, none⟩ = some (.map (some mw)) ∧ W'.cell? ⟨w.heap.size, 0, none⟩ = some (.int .u32 (cl : Nat)) ∧ W'.cell? ⟨w.heap.size, 1, none⟩ = some (.int .u32 (nu : Nat)) ∧ (Instr.lookup 83 (.map (some mw)) (.agg #[.int .u32 (cl : Nat), .int .u32 (nu : Nat)]) true).run Try.prog W' = .ok (.tuple #[.agg (x ++ [Value.int .i64 la, Value.int .i64 (n : Nat)]).toArray, .bool true]) W') := hide (fun W' hf => ⟨((unhide HS) W' hf).1, ((unhide HS) W' hf).2.1, ((unhide HS) W' hf).2.2.1, (unhide HL) W' ((unhide HS) W' hf).2.2.2⟩)
  refine wp_region_held_drew (S := (fun W => W.cell? ⟨d, 1, none⟩ = some (.map (some mw)) ∧ W.cell? ⟨w.heap.size, 0, none⟩ = some (.int .u32 (cl : Nat)) ∧ W.cell? ⟨w.heap.size, 1, none⟩ = some (.int .u32 (nu : Nat)) ∧ (Instr.lookup 83 (.map (some mw)) (.agg #[.int .u32 (cl : Nat), .int .u32 (nu : Nat)]) true).run Try.prog W = .ok (.tuple #[.agg (x ++ [Value.int .i64 la, Value.int .i64 (n : Nat)]).toArray, .bool true]) W)) (by kernel_rfl) ((unhide HSW) _ (Fr.refl _ _).drew) (fun hHeld => ?_)
  refine wtk2 (i := 0) rfl hHeld ?_
  (try simp only [Act.put, nrm])
  refine wtk2 (i := 1) rfl hHeld ?_
  (try simp only [Act.put, nrm])
  refine wtk2 (i := 2) rfl hHeld ?_
  (try simp only [Act.put, nrm])
  refine wtk2 (i := 3) rfl hHeld ?_
  (try simp only [Act.put, nrm])
  refine wtk2 (i := 4) rfl hHeld ?_
  (try simp only [Act.put, nrm])
  refine wtk2 (i := 5) rfl hHeld ?_
  (try simp only [Act.put, nrm])
  refine wtk2 (i := 6) rfl hHeld ?_
  (try simp only [Act.put, nrm])
  refine wtk2 (i := 7) rfl hHeld ?_
  (try simp only [Act.put, nrm])
  refine wtk2 (i := 8) rfl hHeld ?_
  (try simp only [Act.put, nrm])
  refine wpAnyH_ready (rs := [9]) (by kernel_rfl) (by simp) (AllReadyH.cons rfl (fun K hK => ?_) AllReadyH.nil)
  go_simp
  refine hK.out _ _ ((unhide HSW) _ ((Fr.refl _ _).drew.alloc _)) (fun hHeld => ?_)
  clear hK K
  (try simp only [Act.put, nrm])
  have hb0 : (W1.drew.alloc (.cells [.int .u32 0, .int .u32 0, .int .u32 0, .int .u8 0, .int .u32 0, .int .u32 0, .int .u32 0, .int .u32 0, .slice none 0 0, .string ⟨#[]⟩, .int .i64 0, .int .i64 0].toArray 89)).heap[W1.heap.size]? = some (.cells [.int .u32 0, .int .u32 0, .int .u32 0, .int .u8 0, .int .u32 0, .int .u32 0, .int .u32 0, .int .u32 0, .slice none 0 0, .string ⟨#[]⟩, .int .i64 0, .int .i64 0].toArray 89) := heap_alloc_new W1.drew _
  obtain ⟨W8, hst, hb8, hf8⟩ := st_all (P := Try.prog) (ty := 89) [.int .u32 0, .int .u32 0, .int .u32 0, .int .u8 0, .int .u32 0, .int .u32 0, .int .u32 0, .int .u32 0, .slice none 0 0, .string ⟨#[]⟩, .int .i64 0, .int .i64 0] (x ++ [Value.int .i64 la, Value.int .i64 (n : Nat)]) hb0 (by simp [(unhide HV).1]) (by rw [Try.sizeCa]; simp [(unhide HV).1]) (fun v hv => by
    rcases List.mem_append.1 hv with h | h
    · exact (unhide HV).2 v h
    · simp at h; rcases h with rfl | rfl <;> rfl)
  have hf18 : Fr (fun _ => False) W1 W8 := ((Fr.refl _ _).drew.alloc _).trans hf8 (fun k hk e => by omega)
  have hc10 : W8.cell? ⟨W1.heap.size, 10, none⟩ = some (.int .i64 la) := cell_of_blk hb8 (by simp [(unhide HV).1])
  have hc11 : W8.cell? ⟨W1.heap.size, 11, none⟩ = some (.int .i64 (n : Nat)) := cell_of_blk hb8 (by simp [(unhide HV).1])
  have hz10 : W8.frozen? ⟨W1.heap.size, 10, none⟩ = false := frz_of_blk hb8
  have hz11 : W8.frozen? ⟨W1.heap.size, 11, none⟩ = false := frz_of_blk hb8
  have hb9 := blkset (blkset hb8 10 (.int .i64 y)) 11 (.int .i64 ((n : Int) + 1))
  rw [set_two x (unhide HV).1] at hb9
  have hf19 : Fr (fun _ => False) W1 ((W8.setCell ⟨W1.heap.size, 10, none⟩ (.int .i64 y)).setCell ⟨W1.heap.size, 11, none⟩ (.int .i64 ((n : Int) + 1))) := (hf18.setCell (p := ⟨W1.heap.size, 10, none⟩) (.inr (Nat.le_refl _)) _).setCell (p := ⟨W1.heap.size, 11, none⟩) (.inr (Nat.le_refl _)) _
  have HF8 := hide hf18
  have HB9 := hide (And.intro hb9 hf19)
  have HST := hide hst
  clear hst hb8 hf8 hf18 hb0 hb9 hf19
  refine wpAnyH_ready (rs := [10]) (by kernel_rfl) (by simp) (AllReadyH.cons rfl (fun K hK => ?_) AllReadyH.nil)
  refine step_stN rfl 89 (.tmp 7) (.tmp 18) rfl _ _ (by simp [Act.eval]) (by simp [Act.eval]) (unhide HST) ?_
  refine hK.out _ _ ((unhide HSW) _ (unhide HF8)) (fun hHeld => ?_)
  clear hK K
  (try simp only [Act.put, nrm])
  refine wtk2 (i := 11) rfl hHeld ?_
  (try simp only [Act.put, nrm])
  refine wpAnyH_done (by kernel_rfl) ?_ _
  clear hHeld HSW HST
  have hw := unhide HW
  go_wp2_with fail
  clear hw
  obtain ⟨W9, hW9⟩ : ∃ W9, (W8.setCell ⟨W1.heap.size, 10, none⟩ (.int .i64 y)).setCell ⟨W1.heap.size, 11, none⟩ (.int .i64 ((n : Int) + 1)) = W9 := ⟨_, rfl⟩
  rw [hW9] at HB9
  rw [hW9]
  clear hW9 hc10 hc11 hz10 hz11
  have HS2 : Hid (∀ W', Fr (fun g => g = mw) W9 W' → W'.cell? ⟨d, 1, none⟩ = some (.map (some mw)) ∧ W'.cell? ⟨w.heap.size, 0, none⟩ = some (.int .u32 (cl : Nat)) ∧ W'.cell? ⟨w.heap.size, 1, none⟩ = some (.int .u32 (nu : Nat)) ∧ W'.rangeAt W1.heap.size 0 (x ++ [Value.int .i64 y, Value.int .i64 ((n : Int) + 1)])) := hide (fun W' hf => by
    have h9 := (unhide HS) W9 (unhide HB9).2
    have hz := unhide HZ
    have hm := (unhide HD).2
    have hb := (hf.block _ (lt_of_block (unhide HB9).1) (by omega)).trans (unhide HB9).1
    exact ⟨(hf.cell (p := ⟨d, 1, none⟩) (lt_of_cell h9.1) (unhide HD).1).trans h9.1, (hf.cell (p := ⟨w.heap.size, 0, none⟩) (lt_of_cell h9.2.1) (by show w.heap.size ≠ mw; omega)).trans h9.2.1, (hf.cell (p := ⟨w.heap.size, 1, none⟩) (lt_of_cell h9.2.2.1) (by show w.heap.size ≠ mw; omega)).trans h9.2.2.1, range_of_block hb⟩)
  obtain ⟨W10, hmu, hpm, hf10⟩ := (unhide HU) W9.drew ((hf1.trans0 (unhide HB9).2).drew)
  have HMU := hide hmu
  have HPM := hide (And.intro hpm hf10)
  have HFW := hide ((hf1.trans0 (unhide HB9).2).drew)
  clear hmu hpm hf10 hf1
  refine wp_region_held_drew (S := (fun W => W.cell? ⟨d, 1, none⟩ = some (.map (some mw)) ∧ W.cell? ⟨w.heap.size, 0, none⟩ = some (.int .u32 (cl : Nat)) ∧ W.cell? ⟨w.heap.size, 1, none⟩ = some (.int .u32 (nu : Nat)) ∧ W.rangeAt W1.heap.size 0 (x ++ [Value.int .i64 y, Value.int .i64 ((n : Int) + 1)]))) (by kernel_rfl) ((unhide HS2) _ (Fr.refl _ _).drew) (fun hHeld => ?_)
  refine wtk2 (i := 0) rfl hHeld ?_
  (try simp only [Act.put, nrm])
  refine wtk2 (i := 1) rfl hHeld ?_
  (try simp only [Act.put, nrm])
  refine wtk2 (i := 2) rfl hHeld ?_
  (try simp only [Act.put, nrm])
  refine wtk2 (i := 3) rfl hHeld ?_
  (try simp only [Act.put, nrm])
  refine wtk2 (i := 4) rfl hHeld ?_
  (try simp only [Act.put, nrm])
  refine wtk (i := 5) rfl (yieldsIf_load_mid rfl 89 (.tmp 7) rfl W1.heap.size 0 rfl _ _ (fun w h => h.2.2.2) Try.underlying89 rfl (by rw [Try.sizeCa]; simp [(unhide HV).1])) hHeld ?_
  (try simp only [Act.put, nrm])
  refine wpAnyH_ready (rs := [6]) (by kernel_rfl) (by simp) (AllReadyH.cons rfl (fun K hK => ?_) AllReadyH.nil)
  refine step_mu rfl 83 (.tmp 30) (.tmp 31) (.tmp 32) rfl _ _ _ (by simp [Act.eval]) (by simp [Act.eval]) (by simp [Act.eval]) (unhide HMU) ?_
  refine hK.out _ _ ((unhide HS2) _ ((Fr.refl _ _).drew.trans (unhide HPM).2 (fun _ _ h => h))) (fun hHeld => ?_)
  clear hK K
  (try simp only [Act.put, nrm])
  refine wpAnyH_done (by kernel_rfl) ?_ _
  clear hHeld HS2 HMU
  go_wp2_with fail
  go_ret
  exact ⟨rfl, (unhide HPM).1, _, unhide HFW, (unhide HPM).2⟩
end Go.Proofs.Ytkiepcdncegniaa
