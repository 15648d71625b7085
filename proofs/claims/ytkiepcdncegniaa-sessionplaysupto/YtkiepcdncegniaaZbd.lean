import Derived.Test.YtkiepcdncegniaaZbc
namespace Go.Proofs.Ytkiepcdncegniaa
open Go.RowKit Go.Maps

theorem cell_of_blk {w : World} {b t o : Nat} {cs : Array Value} {v : Value} (h : w.heap[b]? = some (.cells cs t)) (hv : cs[o]? = some v) : w.cell? ⟨b, o, none⟩ = some v := by
  simp [World.cell?, h, hv]
theorem frz_of_blk {w : World} {b t o : Nat} {cs : Array Value} (h : w.heap[b]? = some (.cells cs t)) : w.frozen? ⟨b, o, none⟩ = false := by
  simp [World.frozen?, h]
set_option maxRecDepth 100000 in
set_option maxHeartbeats 2000000 in
/-- Busy, by what the map tells. -/
theorem sbusy_core (d mw cl nu : Nat) (x : List Value) (la n : Value) (hx : x.length = 10) (h1 : ∀ v ∈ x ++ [la, n], v.oneCell' = true) (w : World) (c1 : w.cell? ⟨d, 1, none⟩ = some (.map (some mw)))
    (hL : ∀ W', Fr (fun _ => False) w W' → (Instr.lookup 83 (.map (some mw)) (.agg #[.int .u32 (cl : Nat), .int .u32 (nu : Nat)]) false).run Try.prog W' = .ok (.agg (x ++ [la, n]).toArray) W') :
    Calls Try.prog 15 #[.pointer (some ⟨d, 0, none⟩), .agg #[.int .u32 (cl : Nat), .int .u32 (nu : Nat)]] w fun e w' => e = .returned (.tuple #[la, n]) ∧ Fr (fun _ => False) w w' := by
  have hd : d < w.heap.size := lt_of_cell c1
  have HS : Hid (∀ W', Fr (fun _ => False) (w.alloc (.cells #[.int .u32 (cl : Nat), .int .u32 (nu : Nat)] 29)) W' → W'.cell? ⟨d, 1, none⟩ = some (.map (some mw)) ∧ W'.cell? ⟨w.heap.size, 0, none⟩ = some (.int .u32 (cl : Nat)) ∧ W'.cell? ⟨w.heap.size, 1, none⟩ = some (.int .u32 (nu : Nat)) ∧ (Instr.lookup 83 (.map (some mw)) (.agg #[.int .u32 (cl : Nat), .int .u32 (nu : Nat)]) false).run Try.prog W' = .ok (.agg (x ++ [la, n]).toArray) W') := hide (fun W' hf => by
    have hb : W'.heap[w.heap.size]? = some (.cells #[.int .u32 (cl : Nat), .int .u32 (nu : Nat)] 29) := (hf.block _ (by simp) (fun h => h)).trans (heap_alloc_new w _)
    exact ⟨((box1 w _).trans0 hf).cell (p := ⟨d, 1, none⟩) hd (fun h => h) |>.trans c1, cell_of_blk hb rfl, cell_of_blk hb rfl, hL W' ((box1 w _).trans0 hf)⟩)
  have HV := hide (And.intro hx h1)
  clear hL c1 hx h1
  go_enter Try.func15, Try.ntmps15
  go_wp2_with fail
  obtain ⟨W1, hW1⟩ : ∃ W1, w.alloc (.cells #[.int .u32 (cl : Nat), .int .u32 (nu : Nat)] 29) = W1 := ⟨_, rfl⟩
  have hf1 : Fr (fun _ => False) w W1 := by rw [← hW1]; exact box1 w _
  rw [hW1] at HS
  rw [hW1]
  clear hW1
  refine wp_region_held_drew (S := (fun W => W.cell? ⟨d, 1, none⟩ = some (.map (some mw)) ∧ W.cell? ⟨w.heap.size, 0, none⟩ = some (.int .u32 (cl : Nat)) ∧ W.cell? ⟨w.heap.size, 1, none⟩ = some (.int .u32 (nu : Nat)) ∧ (Instr.lookup 83 (.map (some mw)) (.agg #[.int .u32 (cl : Nat), .int .u32 (nu : Nat)]) false).run Try.prog W = .ok (.agg (x ++ [la, n]).toArray) W)) (by kernel_rfl) ((unhide HS) _ (Fr.refl _ _).drew) (fun hHeld => ?_)
  refine wtk2 (i := 0) rfl hHeld ?_
  (try simp only [Act.put, nrm])
  refine wtk2 (i := 1) rfl hHeld ?_
  (try simp only [Act.put, nrm])
  refine wtk2 (i := 2) rfl hHeld ?_
  (try simp only [Act.put, nrm])
  refine wtk2 (i := 3) rfl hHeld ?_
  (try simp only [Act.put, nrm])
  refine wtk2 (i := 4) rfl hHeld ?_
  (try simp only [Act.put, nrm])
  refine wtk2 (i := 5) rfl hHeld ?_
  (try simp only [Act.put, nrm])
  refine wpAnyH_ready (rs := [6]) (by kernel_rfl) (by simp) (AllReadyH.cons rfl (fun K hK => ?_) AllReadyH.nil)
  go_simp
  refine hK.out _ _ ((unhide HS) _ ((Fr.refl _ _).drew.alloc _)) (fun hHeld => ?_)
  clear hK K
  (try simp only [Act.put, nrm])
  have hb0 : (W1.drew.alloc (.cells [.int .u32 0, .int .u32 0, .int .u32 0, .int .u8 0, .int .u32 0, .int .u32 0, .int .u32 0, .int .u32 0, .slice none 0 0, .string ⟨#[]⟩, .int .i64 0, .int .i64 0].toArray 89)).heap[W1.heap.size]? = some (.cells [.int .u32 0, .int .u32 0, .int .u32 0, .int .u8 0, .int .u32 0, .int .u32 0, .int .u32 0, .int .u32 0, .slice none 0 0, .string ⟨#[]⟩, .int .i64 0, .int .i64 0].toArray 89) := heap_alloc_new W1.drew _
  obtain ⟨W8, hst, hb8, hf8⟩ := st_all (P := Try.prog) (ty := 89) [.int .u32 0, .int .u32 0, .int .u32 0, .int .u8 0, .int .u32 0, .int .u32 0, .int .u32 0, .int .u32 0, .slice none 0 0, .string ⟨#[]⟩, .int .i64 0, .int .i64 0] (x ++ [la, n]) hb0 (by simp [(unhide HV).1]) (by rw [Try.sizeCa]; simp [(unhide HV).1]) (unhide HV).2
  have hf18 : Fr (fun _ => False) W1 W8 := ((Fr.refl _ _).drew.alloc _).trans hf8 (fun k hk e => by omega)
  have hc1 : W8.cell? ⟨W1.heap.size, 10, none⟩ = some la := cell_of_blk hb8 (by simp [(unhide HV).1])
  have hc2 : W8.cell? ⟨W1.heap.size, 11, none⟩ = some n := cell_of_blk hb8 (by simp [(unhide HV).1])
  have HF := hide (And.intro (hf1.trans0 hf18) hf18)
  have HST := hide hst
  clear hst hb8 hf8 hf18 hb0
  refine wpAnyH_ready (rs := [7]) (by kernel_rfl) (by simp) (AllReadyH.cons rfl (fun K hK => ?_) AllReadyH.nil)
  refine step_stN rfl 89 (.tmp 6) (.tmp 12) rfl _ _ (by simp [Act.eval]) (by simp [Act.eval]) (unhide HST) ?_
  refine hK.out _ _ ((unhide HS) _ (unhide HF).2) (fun hHeld => ?_)
  clear hK K
  (try simp only [Act.put, nrm])
  refine wpAnyH_done (by kernel_rfl) ?_ _
  clear hHeld HS HST hf1
  go_wp2_with fail
  go_quiet (fail)
  go_wp2_with fail
  go_ret2
  exact ⟨rfl, (unhide HF).1.drewN _⟩
end Go.Proofs.Ytkiepcdncegniaa
