import Derived.Test.YtiknjghcjaaenaaGreatDoorKOax
namespace Go.Proofs.YtiknjghcjaaenaaGreatDoor
open Go.RowKit Go.Shelf
theorem Tryz.infoCh : (Tryz.prog.info? 87).map (fun i => (i.zero, i.size, i.bytes)) = some (some (.agg #[.int .u32 0, .int .u32 0, .bool false, .slice none 0 0, .slice none 0 0]), 5, 64) := by kernel_rfl
theorem app_chart (w : World) (x : Nat) (v : Value) (n : Nat) (xs : List Value) (a b c d e : Value) (h : w.ownsRow 0 87 5 v n xs) (hn : n ≤ 1000000) (hx : w.heap[x]? = some (.cells #[a, b, c, d, e] 87)) (h1 : ∀ u ∈ [a, b, c, d, e], u.oneCell' = true) :
  ∃ ao cap w', (Builtin.append_ #[64, 64] 64 #[v, .slice (some ⟨x, 0, none⟩) 1 1]).run Tryz.prog w = .ok (.slice ao (n + 1) cap) w' ∧ w'.ownsRow 0 87 5 (.slice ao (n + 1) cap) (n + 1) (xs ++ [a, b, c, d, e]) ∧ Fr (fun g => v.ownBlock = some g) w w' ∧
   ∀ g, (Value.slice ao (n + 1) cap).ownBlock = some g → v.ownBlock = some g ∨ w.heap.size ≤ g := by
 obtain ⟨i0, hi, hz0, hz1, hz2⟩ := info_parts Tryz.infoCh
 obtain ⟨v', w', hr, h2, h3, _, h5⟩ := run_append_own_at (P := Tryz.prog) (w := w) 0 64 64 87 i0 (.agg #[.int .u32 0, .int .u32 0, .bool false, .slice none 0 0, .slice none 0 0]) 5 64 Tryz.underlying64 hi hz0 hz1 hz2 rfl (by decide) v n xs h ⟨x, 0, none⟩ 1 1 [a, b, c, d, e] rfl (fun j u hu => by
  rw [addr_add, Nat.zero_add]
  simp only [World.cell?, hx]
  simpa using hu) h1 (by simp only [maxLen]; omega) (by omega) (Nat.zero_le _)
 obtain ⟨ao, cap, rfl⟩ := own_formX h2
 refine ⟨ao, cap, w', hr, h2, (Fr.refl _ _).grown h3 (fun g hg => .inl hg), fun g hg => ?_⟩
 rcases h5 with e | e
 ·rw [e] at hg; exact .inl hg
 ·rw [e] at hg; cases hg; exact .inr (Nat.le_refl _)
set_option maxHeartbeats 2000000 in
set_option maxRecDepth 100000 in
theorem create_full (b : Nat) (s : RM) (q : RW) (M : Nat → Prop) (r : RQ) (xo : Option Addr) (xn xc : Nat) (place : Nat) (w : World) (h : RsAt w b s q M) (hfv : r.fv = .slice xo xn xc) (hS : s.S.length ≤ 140737488355328) (hc : crCode s.S r.ac r.wa r.ow = 0) (hn : s.C.length = 256) :
  Calls Tryz.prog 57 #[.pointer (some ⟨b, 0, none⟩), r.v, .int .u32 (place : Nat)] w fun e w' => e = .returned (AN.no 9).v ∧ Fr (fun _ => False) w w' := by
 obtain ⟨W1, hW1⟩ : ∃ W1, W1 = (w.alloc (.cells r.cs 41)).alloc (.cells #[.int .u32 0, .int .u32 0, .int .u8 0, .int .u32 0, .int .u32 0, .slice none 0 0, .slice none 0 0] 45) := ⟨_, rfl⟩
 have hCB : CB w W1 w.heap.size r := by rw [hW1]; exact CB.new w r
 have HP : Hid (∀ W, Fr (fun _ => False) w W → Calls Tryz.prog 70 #[q.sv, .int .u32 (r.ac : Nat), .int .u32 (r.wa : Nat), .int .u32 (r.ow : Nat)] W fun e w' => e = .returned (.int .u8 ((crCode s.S r.ac r.wa r.ow : Nat) : Int)) ∧ Fr (fun _ => False) W w') := fun W hW => pcreate_any q.sv s.S r.ac r.wa r.ow W ((h.fr hW).st) hS
 rw [hc] at HP
 obtain ⟨so, sc, hse⟩ := h.st.form
 have HSt : Hid (∀ W, Fr (fun _ => False) w W → W.cell? ⟨b, 0, none⟩ = some (.slice so s.S.length sc)) := fun W hW => by rw [← hse]; exact (h.fr hW).cells.1
 obtain ⟨co, cc, hce⟩ := own_formX h.ch
 rw [hn] at hce
 have HCh : Hid (∀ W, Fr (fun _ => False) w W → W.cell? ⟨b, 1, none⟩ = some (.slice co 256 cc)) := fun W hW => by rw [← hce]; exact (h.fr hW).cells.2.1
 rw [hse] at HP
 have HC := hide hCB
 have HS : Hid (∀ W, CB w W w.heap.size r → W.cell? ⟨b, 0, none⟩ = some (.slice so s.S.length sc) ∧ W.cell? ⟨w.heap.size, 2, none⟩ = some (.int .u32 (r.ac : Nat)) ∧ W.cell? ⟨w.heap.size, 6, none⟩ = some (.int .u32 (r.wa : Nat)) ∧ W.cell? ⟨w.heap.size, 7, none⟩ = some (.int .u32 (r.ow : Nat))) := fun W hW => ⟨(unhide HSt) W hW.f, hW.cells.2.2.1, hW.cells.2.2.2.2.2.2.1, hW.cells.2.2.2.2.2.2.2.1⟩
 have HRf : Hid (∀ W, Calls Tryz.prog 36 #[.int .u8 9] W fun e w' => e = .returned (.agg #[.int .u32 0, .int .u32 0, .int .u8 9, .int .u32 0, .int .u32 0, .slice none 0 0, .slice none 0 0]) ∧ Fr (fun _ => False) W w') := fun W => refusal_any 9 W
 simp only [RQ.v, RQ.cs] at *
 rw [hfv] at *
 clear hCB h hse
 go_enter Tryz.func57, Tryz.ntmps57
 go_wp2_with fail
 rw [← hW1]
 clear hW1
 go_region_held3 (fun W => W.cell? ⟨b, 0, none⟩ = some (.slice so s.S.length sc) ∧ W.cell? ⟨w.heap.size, 2, none⟩ = some (.int .u32 (r.ac : Nat)) ∧ W.cell? ⟨w.heap.size, 6, none⟩ = some (.int .u32 (r.wa : Nat)) ∧ W.cell? ⟨w.heap.size, 7, none⟩ = some (.int .u32 (r.ow : Nat)))
  (first | exact (unhide HS) _ ((unhide HC).step (Fr.refl _ _).drew) | exact (unhide HS) _ (unhide H2))
  (first | (go_at_call 70; refine ((unhide HP) _ ((unhide HC).step (Fr.refl _ _).drew).f).mono ?_; rintro e w2 ⟨rfl, hf2⟩; have H2 := hide (((unhide HC).step (Fr.refl _ _).drew).step hf2); clear hf2))
 all_goals
  have c1 := (unhide HCh) _ (unhide H2).f
  go_wp2_with fail
  refine ((unhide HRf) _).mono ?_
  rintro e w3 ⟨rfl, hf3⟩
  have h3 := (unhide H2).step hf3
  obtain ⟨e0, e1, e2, e3, e4, e5, e6, z0, z1, z2, z3, z4, z5, z6⟩ := h3.ans
  have H3 := hide h3.f
  clear h3 hf3 H2 HRf HP HS HSt HC
  go_wp2_with fail
  (try simp only [Exit.inBlock, Exit.then])
  refine bodyPost_ret (results_cell_mid rfl _ _ (w.heap.size + 1) 0 [.int .u32 0, .int .u32 0, .int .u8 9, .int .u32 0, .int .u32 0, .slice none 0 0, .slice none 0 0] _ rfl ?_ Tryz.underlying45 rfl (by kernel_rfl)) rfl ?_
  ·intro j v hv
   rcases j with _ | _ | _ | _ | _ | _ | _ | j
   ·simp at hv; subst hv; go_simp
   ·simp at hv; subst hv; go_simp
   ·simp at hv; subst hv; go_simp
   ·simp at hv; subst hv; go_simp
   ·simp at hv; subst hv; go_simp
   ·simp at hv; subst hv; go_simp
   ·simp at hv; subst hv; go_simp
   ·simp at hv
  ·refine ⟨rfl, ?_⟩
   repeat refine Fr.setCell ?_ (.inr (by simp)) _
   exact unhide H3
end Go.Proofs.YtiknjghcjaaenaaGreatDoor
