import Derived.Test.YtkiepcdncegniaaZak
namespace Go.Proofs.Ytkiepcdncegniaa
open Go.RowKit

def RQ.cs (r : RQ) : List Value := [.int .u32 (r.cl : Nat), .int .u32 (r.nu : Nat), .int .u32 (r.ac : Nat), .int .u8 (r.op : Nat), .int .u32 (r.rc : Nat), .int .u32 (r.ve : Nat), .int .u32 (r.wa : Nat), .int .u32 (r.ow : Nat), r.fv, .string r.rs]
theorem RQ.v_cs (r : RQ) : r.v = .agg r.cs.toArray := rfl
theorem Rd.oneX {w : World} {x : Value} {n z : Nat} {cs : List Value} (h : Rd w x n z cs) : x.oneCell' = true := by
  obtain ⟨xo, c, rfl, _⟩ := h.f
  rfl
theorem own_one {w : World} {base e z n : Nat} {v : Value} {cs : List Value} (h : w.ownsRow base e z v n cs) : v.oneCell' = true := by
  obtain ⟨ao, cap, rfl⟩ := own_formX h
  rfl
theorem RQ.one (r : RQ) (h : r.fv.oneCell' = true) : ∀ v ∈ r.cs, v.oneCell' = true := by
  intro v hv
  simp [RQ.cs] at hv
  rcases hv with rfl | rfl | rfl | rfl | rfl | rfl | rfl | rfl | rfl | rfl <;> first | rfl | exact h
theorem Try.sizeRq : (Try.prog.info? 34).map (·.size) = some 10 := by kernel_rfl
theorem Try.sizeAn : (Try.prog.info? 44).map (·.size) = some 7 := by kernel_rfl
theorem Try.sizeMs : (Try.prog.info? 49).map (·.size) = some 35 := by kernel_rfl
theorem Try.sizeCa : (Try.prog.info? 89).map (·.size) = some 12 := by kernel_rfl
theorem Try.sizeId2 : (Try.prog.info? 29).map (·.size) = some 2 := by kernel_rfl
theorem Fr.trans0 {a b c : World} (h : Fr (fun _ => False) a b) (k : Fr (fun _ => False) b c) : Fr (fun _ => False) a c := h.trans k (fun _ _ h => h)
set_option maxRecDepth 100000 in
/-- ownRequest. -/
theorem ownReq_any (r : RQ) (n : Nat) (cs : List Value) (w : World) (hx : Rd w r.fv n 5 cs) (hl : n ≤ 1048576) :
    Calls Try.prog 26 #[r.v] w fun e w' => ∃ v, e = .returned (RQ.v { r with fv := v }) ∧ w'.ownsRow w.heap.size 79 5 v n cs ∧ Fr (fun _ => False) w w' := by
  obtain ⟨cl, nu, ac, op, rc, ve, wa, ow, fv, rs⟩ := r
  simp only at hx
  have ho := hx.oneX
  have HX := hide hx
  clear hx
  simp only [RQ.v]
  go_enter Try.func26, Try.ntmps26
  go_wp2_with fail
  obtain ⟨W2, hW2⟩ : ∃ W2, (w.alloc (.cells #[.int .u32 (cl : Nat), .int .u32 (nu : Nat), .int .u32 (ac : Nat), .int .u8 (op : Nat), .int .u32 (rc : Nat), .int .u32 (ve : Nat), .int .u32 (wa : Nat), .int .u32 (ow : Nat), fv, .string rs] 34)).alloc (.cells #[.int .u32 0, .int .u32 0, .int .u32 0, .int .u8 0, .int .u32 0, .int .u32 0, .int .u32 0, .int .u32 0, .slice none 0 0, .string ⟨#[]⟩] 34) = W2 := ⟨_, rfl⟩
  have hf2 : Fr (fun _ => False) w W2 := by rw [← hW2]; exact (box1 w _).alloc _
  have hb1 : W2.heap[w.heap.size]? = some (.cells #[.int .u32 (cl : Nat), .int .u32 (nu : Nat), .int .u32 (ac : Nat), .int .u8 (op : Nat), .int .u32 (rc : Nat), .int .u32 (ve : Nat), .int .u32 (wa : Nat), .int .u32 (ow : Nat), fv, .string rs] 34) := by rw [← hW2]; exact (Below.heap_alloc _ _ _ (by simp)).trans (heap_alloc_new w _)
  have hb2 : W2.heap[w.heap.size + 1]? = some (.cells #[.int .u32 0, .int .u32 0, .int .u32 0, .int .u8 0, .int .u32 0, .int .u32 0, .int .u32 0, .int .u32 0, .slice none 0 0, .string ⟨#[]⟩] 34) := by
    rw [← hW2]
    have := heap_alloc_new (w.alloc (.cells #[.int .u32 (cl : Nat), .int .u32 (nu : Nat), .int .u32 (ac : Nat), .int .u8 (op : Nat), .int .u32 (rc : Nat), .int .u32 (ve : Nat), .int .u32 (wa : Nat), .int .u32 (ow : Nat), fv, .string rs] 34)) (.cells #[.int .u32 0, .int .u32 0, .int .u32 0, .int .u8 0, .int .u32 0, .int .u32 0, .int .u32 0, .int .u32 0, .slice none 0 0, .string ⟨#[]⟩] 34)
    rwa [World.size_alloc] at this
  rw [hW2]
  clear hW2
  refine (cloneField fv n cs W2 ((unhide HX).fr0 hf2) hl).mono ?_
  rintro e w3 ⟨v, rfl, hown, hf3⟩
  have hvo := own_one hown
  have hc1 := (hf3.block _ (lt_of_block hb1) (fun h => h)).trans hb1
  have hc2 := (hf3.block _ (lt_of_block hb2) (fun h => h)).trans hb2
  obtain ⟨ao, cap, rfl⟩ := own_formX hown
  have e8 : w3.cell? ⟨w.heap.size, 8, none⟩ = some fv := by simp [World.cell?, hc1]
  have z8 : w3.frozen? ⟨w.heap.size, 8, none⟩ = false := by simp [World.frozen?, hc1]
  have hc1' := blkset hc1 8 (.slice ao n cap)
  have hc2' : (w3.setCell ⟨w.heap.size, 8, none⟩ (.slice ao n cap)).heap[w.heap.size + 1]? = _ := (Below.heap_setCell w3 ⟨w.heap.size, 8, none⟩ _ (w.heap.size + 1) (by show w.heap.size + 1 ≠ w.heap.size; omega)).trans hc2
  have hr4 : (w3.setCell ⟨w.heap.size, 8, none⟩ (.slice ao n cap)).rangeAt w.heap.size 0 (RQ.cs ⟨cl, nu, ac, op, rc, ve, wa, ow, .slice ao n cap, rs⟩) := range_of_block (t := 34) (by simpa [RQ.cs] using hc1')
  obtain ⟨W8, hst, hb8, hf8⟩ := st_all (P := Try.prog) (ty := 34) [.int .u32 0, .int .u32 0, .int .u32 0, .int .u8 0, .int .u32 0, .int .u32 0, .int .u32 0, .int .u32 0, .slice none 0 0, .string ⟨#[]⟩] (RQ.cs ⟨cl, nu, ac, op, rc, ve, wa, ow, .slice ao n cap, rs⟩) hc2' rfl Try.sizeRq (RQ.one _ rfl)
  have hfin : Fr (fun _ => False) w W8 := by
    refine (Fr.trans (S := fun _ => False) ((hf2.trans0 hf3).setCell (p := ⟨w.heap.size, 8, none⟩) (.inr (Nat.le_refl _)) _) hf8 (fun k hk e => by omega))
  have hownf : W8.ownsRow w.heap.size 79 5 (.slice ao n cap) n cs := by
    refine ownsRow_base (ownsRow_of_block hown (fun g hg => ?_)) hf2.size
    have hgl := hown.lt g hg
    have hs2 := lt_of_block hb2
    have g1 : g ≠ w.heap.size := by omega
    have g2 : g ≠ w.heap.size + 1 := by omega
    exact (hf8.block g (by simpa [World.setCell] using hgl.2) g2).trans (Below.heap_setCell w3 ⟨w.heap.size, 8, none⟩ _ g g1)
  have HR := hide hr4
  have HS := hide hst
  have HF := hide (And.intro hb8 (And.intro hfin hownf))
  clear hr4 hst hb8 hf8 hfin hownf hc1' hc2' hc1 hc2 hb1 hb2 hf2 hf3 hown HX
  go_wp2_with (first | refine wpList_load_mid rfl 34 (.tmp 1) rfl w.heap.size 0 rfl _ _ (unhide HR) Try.underlying34 rfl Try.sizeRq ?_ | refine wpList_stN rfl 34 (.tmp 2) (.tmp 7) rfl _ _ rfl rfl (unhide HS) ?_)
  refine bodyPost_ret (results_cell_mid rfl _ _ (w.heap.size + 1) 0 _ _ rfl (range_of_block (t := 34) (unhide HF).1) Try.underlying34 rfl Try.sizeRq) rfl ?_
  exact ⟨_, rfl, (unhide HF).2.2, (unhide HF).2.1⟩
end Go.Proofs.Ytkiepcdncegniaa
