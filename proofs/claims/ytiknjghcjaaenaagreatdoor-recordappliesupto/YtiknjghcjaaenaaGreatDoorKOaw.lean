import Derived.Test.YtiknjghcjaaenaaGreatDoorKOav
namespace Go.Proofs.YtiknjghcjaaenaaGreatDoor
open Go.RowKit Go.Shelf
def RQ.cs (r : RQ) : Array Value := #[.int .u32 (r.cl : Nat), .int .u32 (r.nu : Nat), .int .u32 (r.ac : Nat), .int .u8 (r.op : Nat), .int .u32 (r.rc : Nat), .int .u32 (r.ve : Nat), .int .u32 (r.wa : Nat), .int .u32 (r.ow : Nat), r.fv, .string r.rs]
structure CB (w W : World) (B : Nat) (r : RQ) : Prop where
 r : W.heap[B]? = some (.cells r.cs 41)
 a : W.heap[B + 1]? = some (.cells (AN.no 0).cs.toArray 45)
 f : Fr (fun _ => False) w W
 n : w.heap.size ≤ B
theorem CB.step {w W W' : World} {B : Nat} {r : RQ} (h : CB w W B r) (hf : Fr (fun _ => False) W W') : CB w W' B r :=
 ⟨(hf.block B (lt_of_block h.r) (fun h => h)).trans h.r, (hf.block (B + 1) (lt_of_block h.a) (fun h => h)).trans h.a, h.f.trans hf (fun _ _ h => h), h.n⟩
theorem CB.new (w : World) (r : RQ) : CB w ((w.alloc (.cells r.cs 41)).alloc (.cells (AN.no 0).cs.toArray 45)) w.heap.size r := by
 have e : (w.alloc (.cells r.cs 41)).heap.size = w.heap.size + 1 := by simp
 refine ⟨?_, ?_, (box1 w _).trans (box1 _ _) (fun _ _ h => h), Nat.le_refl _⟩
 ·have h0 : (w.alloc (.cells r.cs 41)).heap[w.heap.size]? = some (.cells r.cs 41) := Array.getElem?_push_size
  rw [(box1 (w.alloc (.cells r.cs 41)) _).block _ (lt_of_block h0) (fun h => h)]
  exact h0
 ·rw [← e]
  exact Array.getElem?_push_size
theorem CB.cells {w W : World} {B : Nat} {r : RQ} (h : CB w W B r) : W.cell? ⟨B, 0, none⟩ = some (.int .u32 (r.cl : Nat)) ∧ W.cell? ⟨B, 1, none⟩ = some (.int .u32 (r.nu : Nat)) ∧ W.cell? ⟨B, 2, none⟩ = some (.int .u32 (r.ac : Nat)) ∧ W.cell? ⟨B, 3, none⟩ = some (.int .u8 (r.op : Nat)) ∧ W.cell? ⟨B, 4, none⟩ = some (.int .u32 (r.rc : Nat)) ∧ W.cell? ⟨B, 5, none⟩ = some (.int .u32 (r.ve : Nat)) ∧ W.cell? ⟨B, 6, none⟩ = some (.int .u32 (r.wa : Nat)) ∧ W.cell? ⟨B, 7, none⟩ = some (.int .u32 (r.ow : Nat)) ∧ W.cell? ⟨B, 8, none⟩ = some r.fv ∧ W.cell? ⟨B, 9, none⟩ = some (.string r.rs) := by
 have hb := h.r
 refine ⟨?_, ?_, ?_, ?_, ?_, ?_, ?_, ?_, ?_, ?_⟩ <;> (simp only [World.cell?, hb]; rfl)
theorem CB.ans {w W : World} {B : Nat} {r : RQ} (h : CB w W B r) : W.cell? ⟨B + 1, 0, none⟩ = some (.int .u32 0) ∧ W.cell? ⟨B + 1, 1, none⟩ = some (.int .u32 0) ∧ W.cell? ⟨B + 1, 2, none⟩ = some (.int .u8 0) ∧ W.cell? ⟨B + 1, 3, none⟩ = some (.int .u32 0) ∧ W.cell? ⟨B + 1, 4, none⟩ = some (.int .u32 0) ∧ W.cell? ⟨B + 1, 5, none⟩ = some (.slice none 0 0) ∧ W.cell? ⟨B + 1, 6, none⟩ = some (.slice none 0 0) ∧ (W.frozen? ⟨B + 1, 0, none⟩ = false ∧ W.frozen? ⟨B + 1, 1, none⟩ = false ∧ W.frozen? ⟨B + 1, 2, none⟩ = false ∧ W.frozen? ⟨B + 1, 3, none⟩ = false ∧ W.frozen? ⟨B + 1, 4, none⟩ = false ∧ W.frozen? ⟨B + 1, 5, none⟩ = false ∧ W.frozen? ⟨B + 1, 6, none⟩ = false) := by
 have hb := h.a
 refine ⟨?_, ?_, ?_, ?_, ?_, ?_, ?_, ?_, ?_, ?_, ?_, ?_, ?_, ?_⟩ <;> first | (simp only [World.cell?, hb]; rfl) | (simp [World.frozen?, hb])
def crCode (S : List P3) (ac wa ow : Nat) : Nat := ansv S ac fun p => if crF (⟨.slice none 0 0, p, wa, ow, false, .slice none 0 0, .slice none 0 0, ByteArray.empty⟩ : QM) S then 0 else whyCr (⟨.slice none 0 0, p, wa, ow, false, .slice none 0 0, .slice none 0 0, ByteArray.empty⟩ : QM) S
set_option maxHeartbeats 2000000 in
set_option maxRecDepth 100000 in
theorem create_no (b : Nat) (s : RM) (q : RW) (M : Nat → Prop) (r : RQ) (xo : Option Addr) (xn xc : Nat) (place : Nat) (w : World) (h : RsAt w b s q M) (hfv : r.fv = .slice xo xn xc) (hS : s.S.length ≤ 140737488355328) (hc : ¬ crCode s.S r.ac r.wa r.ow = 0) :
  Calls Tryz.prog 57 #[.pointer (some ⟨b, 0, none⟩), r.v, .int .u32 (place : Nat)] w fun e w' => e = .returned (AN.no (crCode s.S r.ac r.wa r.ow)).v ∧ Fr (fun _ => False) w w' := by
 obtain ⟨W1, hW1⟩ : ∃ W1, W1 = (w.alloc (.cells r.cs 41)).alloc (.cells #[.int .u32 0, .int .u32 0, .int .u8 0, .int .u32 0, .int .u32 0, .slice none 0 0, .slice none 0 0] 45) := ⟨_, rfl⟩
 have hCB : CB w W1 w.heap.size r := by rw [hW1]; exact CB.new w r
 have HP : Hid (∀ W, Fr (fun _ => False) w W → Calls Tryz.prog 70 #[q.sv, .int .u32 (r.ac : Nat), .int .u32 (r.wa : Nat), .int .u32 (r.ow : Nat)] W fun e w' => e = .returned (.int .u8 ((crCode s.S r.ac r.wa r.ow : Nat) : Int)) ∧ Fr (fun _ => False) W w') := fun W hW => pcreate_any q.sv s.S r.ac r.wa r.ow W ((h.fr hW).st) hS
 obtain ⟨so, sc, hse⟩ := h.st.form
 have HSt : Hid (∀ W, Fr (fun _ => False) w W → W.cell? ⟨b, 0, none⟩ = some (.slice so s.S.length sc)) := fun W hW => by rw [← hse]; exact (h.fr hW).cells.1
 rw [hse] at HP
 have HC := hide hCB
 generalize crCode s.S r.ac r.wa r.ow = code at *
 have hc' : ((code : Int) != 0) = true := by rw [bne_iff_ne]; omega
 have HS : Hid (∀ W, CB w W w.heap.size r → W.cell? ⟨b, 0, none⟩ = some (.slice so s.S.length sc) ∧ W.cell? ⟨w.heap.size, 2, none⟩ = some (.int .u32 (r.ac : Nat)) ∧ W.cell? ⟨w.heap.size, 6, none⟩ = some (.int .u32 (r.wa : Nat)) ∧ W.cell? ⟨w.heap.size, 7, none⟩ = some (.int .u32 (r.ow : Nat))) := fun W hW => ⟨(unhide HSt) W hW.f, hW.cells.2.2.1, hW.cells.2.2.2.2.2.2.1, hW.cells.2.2.2.2.2.2.2.1⟩
 have HRf : Hid (∀ W, Calls Tryz.prog 36 #[.int .u8 (code : Nat)] W fun e w' => e = .returned (.agg #[.int .u32 0, .int .u32 0, .int .u8 (code : Nat), .int .u32 0, .int .u32 0, .slice none 0 0, .slice none 0 0]) ∧ Fr (fun _ => False) W w') := fun W => refusal_any code W
 simp only [RQ.v, RQ.cs] at *
 rw [hfv] at *
 clear hCB h hse
 go_enter Tryz.func57, Tryz.ntmps57
 go_wp2_with fail
 rw [← hW1]
 clear hW1
 go_region_held3 (fun W => W.cell? ⟨b, 0, none⟩ = some (.slice so s.S.length sc) ∧ W.cell? ⟨w.heap.size, 2, none⟩ = some (.int .u32 (r.ac : Nat)) ∧ W.cell? ⟨w.heap.size, 6, none⟩ = some (.int .u32 (r.wa : Nat)) ∧ W.cell? ⟨w.heap.size, 7, none⟩ = some (.int .u32 (r.ow : Nat)))
  (first | exact (unhide HS) _ ((unhide HC).step (Fr.refl _ _).drew) | exact (unhide HS) _ (unhide H2))
  (first | (go_at_call 70; refine ((unhide HP) _ ((unhide HC).step (Fr.refl _ _).drew).f).mono ?_; rintro e w2 ⟨rfl, hf2⟩; have H2 := hide (((unhide HC).step (Fr.refl _ _).drew).step hf2); clear hf2))
 all_goals
  go_wp2_with fail
  refine ((unhide HRf) _).mono ?_
  rintro e w3 ⟨rfl, hf3⟩
  have h3 := (unhide H2).step hf3
  obtain ⟨e0, e1, e2, e3, e4, e5, e6, z0, z1, z2, z3, z4, z5, z6⟩ := h3.ans
  have H3 := hide h3.f
  clear h3 hf3 H2 HRf HP HS HSt HC
  go_wp2_with fail
  (try simp only [Exit.inBlock, Exit.then])
  refine bodyPost_ret (results_cell_mid rfl _ _ (w.heap.size + 1) 0 [.int .u32 0, .int .u32 0, .int .u8 (code : Nat), .int .u32 0, .int .u32 0, .slice none 0 0, .slice none 0 0] _ rfl ?_ Tryz.underlying45 rfl (by kernel_rfl)) rfl ?_
  ·intro j v hv
   rcases j with _ | _ | _ | _ | _ | _ | _ | j
   ·simp at hv; subst hv; go_simp
   ·simp at hv; subst hv; go_simp
   ·simp at hv; subst hv; go_simp
   ·simp at hv; subst hv; go_simp
   ·simp at hv; subst hv; go_simp
   ·simp at hv; subst hv; go_simp
   ·simp at hv; subst hv; go_simp
   ·simp at hv
  ·refine ⟨rfl, ?_⟩
   repeat refine Fr.setCell ?_ (.inr (by simp)) _
   exact unhide H3
end Go.Proofs.YtiknjghcjaaenaaGreatDoor
