import Derived.Test.YthccbfgjekdiiaaDoorSbm
namespace Go.Proofs.YthccbfgjekdiiaaDoor
open Go.RowKit

/-- The start. -/
def st0 : S8 := ⟨0x6a09e667, 0xbb67ae85, 0x3c6ef372, 0xa54ff53a, 0x510e527f, 0x9b05688c, 0x1f83d9ab, 0x5be0cd19⟩
theorem st0_ok : st0.ok := by unfold S8.ok; decide
def GS (w : World) : Prop := GK w ∧ w.rangeAt 0 0 st0.cells
theorem GS.fr {w w' : World} {S : Nat → Prop} (h : GS w) (hf : Fr S w w') (hS : ∀ k, k < 6 → ¬ S k) : GS w' :=
  ⟨h.1.fr hf hS, fun j v hv => (hf.cell (p := ⟨0, 0 + j, none⟩) (Nat.lt_of_lt_of_le (show 0 < 6 by decide) h.1.2) (hS _ (show 0 < 6 by decide))).trans (h.2 j v hv)⟩
theorem GS.fr0 {w w' : World} (h : GS w) (hf : Fr (fun _ => False) w w') : GS w' := h.fr hf (fun _ _ h => h)
def hz : List Value := hv ⟨0, 0, 0, 0, 0, 0, 0, 0⟩ (fun _ => 0) 0
def h0 : List Value := hv st0 (fun _ => 0) 0
theorem hz_len : hz.length = 73 := hv_len _ _ _
theorem h0_len : h0.length = 73 := hv_len _ _ _
theorem h0_sz : h0.toArray.size = 73 := by rw [List.size_toArray]; exact h0_len
theorem hz_sz : hz.toArray.size = 73 := by rw [List.size_toArray]; exact hz_len
theorem zero_h (w : World) : (zeroValue 93).run Tryd.prog w = .ok (.agg hz.toArray) w := by kernel_rfl
theorem build_h (w : World) : (Instr.build 93 #[(0, .agg st0.cells.toArray)]).run Tryd.prog w = .ok (.agg h0.toArray) w := by kernel_rfl
theorem alloc_there (w : World) (cs : List Value) (t : TypeId) : (w.alloc (.cells cs.toArray t)).there w.heap.size 0 cs.length := fun j hj => by
  rw [Nat.zero_add, World.cell?_alloc_at _ _ _ _ rfl, World.frozen?_alloc_at _ _ _ _ rfl, List.getElem?_toArray, List.getElem?_eq_getElem hj]
  exact ⟨rfl, rfl⟩
theorem HsAt.thereAll {w : World} {b o t : Nat} {s : S8} {f : Nat → Nat} (h : HsAt w b o s f t) : w.there b o 73 := fun j hj => by
  refine ⟨?_, h.fz j hj⟩
  have hj' : j < (hv s f t).length := by rw [hv_len]; exact hj
  rw [h.all j _ (List.getElem?_eq_getElem hj')]; rfl
theorem HsAt.stored {w : World} {b o : Nat} (ht : w.there b o 73) (s : S8) (f : Nat → Nat) (t : Nat) : HsAt (w.setCells b o (hv s f t)) b o s f t :=
  HsAt.of (World.rangeAt_setCells_same w b o _ (by rw [hv_len]; exact ht)) (fun j hj => by rw [World.frozen?_setCells]; exact (ht j hj).2)
theorem fold_h : List.foldl (fun (cs : Array Value) x => cs.setIfInBounds x.snd x.fst) hz.toArray st0.cells.zipIdx = h0.toArray := by kernel_rfl
set_option maxRecDepth 100000 in
theorem nothing_any (w : World) (hg : GS w) : Calls Tryd.prog 54 #[] w fun e w' => e = .returned (.agg h0.toArray) ∧ Fr (fun _ => False) w w' := by
  have hz1 := zero_h
  have hz2 := fold_h
  have hz3 : st0.cells.length = 8 := rfl
  have hz4 := hz_len
  have hF0 : Fr (fun _ => False) w (w.alloc (.cells hz.toArray 93)) := (Fr.refl _ _).alloc _
  have hg1 := (hg.fr0 hF0).2
  have hth : (w.alloc (.cells hz.toArray 93)).there w.heap.size 0 h0.toArray.size := by
    rw [h0_sz, ← hz_len]; exact alloc_there w hz _
  have hi : (Tryd.prog.info? 93).map (·.size) = some h0.toArray.size := by rw [h0_sz]; exact info_h
  have hi2 : (Tryd.prog.info? 93).map (·.size) = some h0.length := by rw [h0_len]; exact info_h
  have hone : h0.toArray.all (·.oneCell') = true := all_oneCell_toArray (hv_one _ _ _)
  have hrs := World.rangeAt_setCells_same (w.alloc (.cells hz.toArray 93)) w.heap.size 0 h0 (by rw [h0_len, ← hz_len]; exact alloc_there w hz _)
  have hi3 : (Tryd.prog.info? 88).map (·.size) = some st0.cells.length := info_st
  generalize h0 = H at *
  generalize hz = Z at *
  generalize st0.cells = SC at *
  obtain ⟨W1, hW1⟩ : ∃ W1, (w.alloc (.cells Z.toArray 93)).setCells w.heap.size 0 H.toArray.toList = W1 := ⟨_, rfl⟩
  have hrs1 : W1.rangeAt w.heap.size 0 H := by rw [← hW1]; exact hrs
  have hF1 : Fr (fun _ => False) w W1 := by rw [← hW1]; exact Fr.setCells hF0 (.inr (Nat.le_refl _)) _
  have HB := hide (And.intro hg1 (And.intro hth (And.intro hi (And.intro hi2 (And.intro hone (And.intro hW1 (And.intro hrs1 (And.intro hF1 hi3))))))))
  clear hF0 hg1 hth hi hi2 hone hrs hW1 hrs1 hF1 hg hi3
  go_enter Tryd.func54, Tryd.ntmps54
  go_wp2_with (first
    | (refine wpList_load_mid rfl 88 (.global 0) rfl 0 0 rfl SC _ (unhide HB).1 Tryd.underlying88 rfl (unhide HB).2.2.2.2.2.2.2.2 ?_)
    | (refine wpList_store_to rfl 93 (.tmp 0) (.tmp 2) rfl w.heap.size 0 H.toArray rfl rfl (unhide HB).2.1 (unhide HB).2.2.1 (unhide HB).2.2.2.2.1 W1 (unhide HB).2.2.2.2.2.1 ?_))
  refine bodyPost_ret (results_cell_mid rfl _ _ w.heap.size 0 H _ rfl (unhide HB).2.2.2.2.2.2.1 Tryd.underlying93 rfl (unhide HB).2.2.2.1) rfl ?_
  exact ⟨rfl, (unhide HB).2.2.2.2.2.2.2.1⟩
end Go.Proofs.YthccbfgjekdiiaaDoor
