import Derived.Test.YtkiepcdncegniaaPk3
import Derived.Test.YtkiepcdncegniaaZdd
namespace Go.Proofs.Ytkiepcdncegniaa
open Go.RowKit Go.Maps

theorem mid_eq {pre olds vs post fs' : List Value} (hl : olds.length = vs.length) (h2 : ∀ i v, vs[i]? = some v → fs'[pre.length + i]? = some v) (h3 : ∀ j, j < pre.length ∨ pre.length + vs.length ≤ j → fs'[j]? = (pre ++ (olds ++ post))[j]?) : fs' = pre ++ (vs ++ post) := by
  apply List.ext_getElem?
  intro j
  by_cases a : j < pre.length
  · rw [h3 j (.inl a), List.getElem?_append_left a, List.getElem?_append_left a]
  · by_cases b : j < pre.length + vs.length
    · rw [List.getElem?_append_right (by omega), List.getElem?_append_left (by omega)]
      have hv : vs[j - pre.length]? = some (vs[j - pre.length]'(by omega)) := List.getElem?_eq_getElem (by omega)
      have := h2 _ _ hv
      rw [show pre.length + (j - pre.length) = j by omega] at this
      rw [this, hv]
    · rw [h3 j (.inr (by omega)), List.getElem?_append_right (by omega), List.getElem?_append_right (by omega), List.getElem?_append_right (by omega), List.getElem?_append_right (by omega), hl]
set_option maxRecDepth 100000 in
set_option maxHeartbeats 4000000 in
/-- requested. -/
theorem requested_true (r : RQ) (fv gv : Value) (F : List F5) (w : World) (hf : Fds w fv F) (hg : Fds w gv F) (hl : F.length ≤ 1048576) :
    Calls Try.prog 39 #[.agg (hmsg (r.re fv)).toArray, .agg (r.re gv).cs.toArray] w fun e w' => e = .returned (.bool true) ∧ Fr (fun _ => False) w w' := by
  obtain ⟨W1, hW1⟩ : ∃ W1, (w.alloc (.cells (hmsg (r.re fv)).toArray 49)).alloc (.cells (r.re gv).cs.toArray 34) = W1 := ⟨_, rfl⟩
  have hf1 : Fr (fun _ => False) w W1 := by rw [← hW1]; exact (box1 w _).alloc _
  have hb0 : W1.heap[w.heap.size]? = some (.cells (hmsg (r.re fv)).toArray 49) := by rw [← hW1]; exact (Below.heap_alloc _ _ _ (by simp)).trans (heap_alloc_new w _)
  have hb1 : W1.heap[w.heap.size + 1]? = some (.cells (r.re gv).cs.toArray 34) := by
    rw [← hW1]
    have := heap_alloc_new (w.alloc (.cells (hmsg (r.re fv)).toArray 49)) (.cells (r.re gv).cs.toArray 34)
    rwa [World.size_alloc] at this
  have k0 : W1.cell? ⟨w.heap.size, 0, none⟩ = some (.int .u8 1) := cell_of_blk hb0 rfl
  have HR1 : Hid (W1.rangeAt w.heap.size 1 (r.re fv).cs) := hide (fun j v hj => by
    have hl : j < 10 := (List.getElem?_eq_some_iff.1 hj).1
    refine cell_of_blk hb0 ?_
    match j, hl with
    | 0, _ => exact hj
    | 1, _ => exact hj
    | 2, _ => exact hj
    | 3, _ => exact hj
    | 4, _ => exact hj
    | 5, _ => exact hj
    | 6, _ => exact hj
    | 7, _ => exact hj
    | 8, _ => exact hj
    | 9, _ => exact hj)
  have HR2 := hide (range_of_block hb1)
  have HG := hide (gsameReq_refl r fv gv F W1 (hf.fr hf1) (hg.fr hf1) hl)
  have HB := hide (And.intro hb0 hf1)
  clear hb0 hb1 hf1 hf hg
  go_enter Try.func39, Try.ntmps39
  go_wp2_with (first | refine wpList_load_midG rfl 34 (.tmp 9) rfl w.heap.size 1 rfl _ _ (unhide HR1) Try.underlying34 rfl Try.sizeRq ?_ | refine wpList_load_midG rfl 34 (.tmp 3) rfl (w.heap.size + 1) 0 rfl _ _ (unhide HR2) Try.underlying34 rfl Try.sizeRq ?_)
  refine (unhide HG).mono ?_
  rintro e w2 ⟨rfl, hf2⟩
  have hb2 := (hf2.block _ (lt_of_block (unhide HB).1) (fun h => h)).trans (unhide HB).1
  obtain ⟨W3, hst, ⟨fs', hb3, _, h3, h4⟩, hf3⟩ := st_mid (P := Try.prog) (ty := 34) (o := 1) (hmsg (r.re fv)) zR hb2 (by simp [hmsg, RQ.cs, zR, zA, zE]) Try.sizeRq (List.all_eq_true.1 (show List.all zR (fun v => v.oneCell') = true from rfl))
  have e3 : fs' = [.int .u8 1] ++ (zR ++ ([.int .u32 0, .int .u32 0] ++ (zA ++ (.int .u8 0 :: (zE ++ [.int .u32 0]))))) := mid_eq (olds := (r.re fv).cs) rfl h3 h4
  rw [e3] at hb3
  have k3 : W3.cell? ⟨w.heap.size, 0, none⟩ = some (.int .u8 1) := cell_of_blk hb3 rfl
  have z3 : W3.frozen? ⟨w.heap.size, 0, none⟩ = false := by simp [World.frozen?, hb3]
  obtain ⟨W4, hW4⟩ : ∃ W4, W3.setCell ⟨w.heap.size, 0, none⟩ (.int .u8 2) = W4 := ⟨_, rfl⟩
  have hb4 : W4.heap[w.heap.size]? = some (.cells (tmsg 0 0).toArray 49) := by
    rw [← hW4, blkset hb3]
    simp [tmsg]
  have HR4 := hide (range_of_block hb4)
  have HST := hide hst
  have HF4 : Hid (Fr (fun _ => False) w W4) := hide (by
    have h34 : Fr (fun k => k = w.heap.size) W3 W4 := by rw [← hW4]; exact (Fr.refl (fun k => k = w.heap.size) _).setCell (p := ⟨w.heap.size, 0, none⟩) (.inl rfl) _
    exact ((((unhide HB).2.trans0 hf2).trans hf3 (fun g hg e => by omega))).trans h34 (fun g hg e => by omega))
  clear hf2 hb2 hst hb3 h3 h4 hf3 e3 hb4 HG k0 HR1 HR2 hW1
  go_wp2_with (first | refine wpList_stN rfl 34 (.tmp 16) (.tmp 15) rfl _ _ rfl rfl (unhide HST) ?_ | refine wpList_load_mid rfl 49 (.tmp 2) rfl w.heap.size 0 rfl _ _ (unhide HR4) Try.underlying49 rfl Try.sizeMs ?_)
  have HA : Hid (Calls Try.prog 40 #[.agg (tmsg 0 0).toArray, .agg #[.int .u32 0, .int .u32 0]] W4 fun e w' => e = .returned (.bool true) ∧ Fr (fun _ => False) W4 w') := hide (asked_true 0 0 W4)
  refine (unhide HA).mono ?_
  rintro e w5 ⟨rfl, hf5⟩
  have HF5 := hide ((unhide HF4).trans0 hf5)
  clear hf5 HA
  go_wp2_with fail
  go_ret
  exact ⟨rfl, unhide HF5⟩
end Go.Proofs.Ytkiepcdncegniaa

