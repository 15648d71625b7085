import Derived.Test.YtkiepcdncegniaaZbm
namespace Go.Proofs.Ytkiepcdncegniaa
open Go.RowKit Go.Maps

theorem wrap_sum0 (a b n : Nat) (h : a + b = n) (hn : n ≤ 4096) : wrap64 ((a : Int) + (b : Int)) = (n : Int) := by unfold wrap64; omega
theorem wrap_sum (a b n : Nat) (h : a + b = n) (hn : n ≤ 4096) : IntKind.i64.wrap ((a : Int) + (b : Int)) = (n : Int) := (IntWalk.i64_left _).trans (wrap_sum0 a b n h hn)
set_option maxRecDepth 100000 in
set_option maxHeartbeats 4000000 in
theorem scall_bad (d mw ma c : Nat) (cs : List SC) (dn : List Nat) (dv : Value) (T : Nat → Prop) (w : World) (h : SsAt w d mw ma c cs dn dv T) (r : RQ) (F : List F5) (hx : Rd w r.fv F.length 5 (fcells F)) (hl : F.length ≤ 1048576) (hv : ∀ f ∈ F, f.v < 4294967296 ∧ f.u < 256) (hfm : r.frm F = false) :
    Calls Try.prog 10 #[.pointer (some ⟨d, 0, none⟩), r.v] w fun e w' => e = .returned (.tuple #[.agg #[.int .u32 0, .int .u32 0], .int .i64 1]) ∧ Fr (fun _ => False) w w' := by
  have HFM : Hid (∀ W', Fr (fun _ => False) w W' → Calls Try.prog 20 #[r.v] W' fun e w' => e = .returned (.bool false) ∧ Fr (fun _ => False) W' w') := hide (fun W' hf => by
    have := formed_any r F W' (rd_fds (hx.fr0 hf)) (by omega) hv
    rw [hfm] at this
    exact this)
  have HX := hide (And.intro h hx)
  have hld := h.lt d h.own.1
  obtain ⟨cl, nu, ac, op, rc, ve, wa, ow, fv, rs⟩ := r
  have HFV : Hid (fv.oneCell' = true) := hide hx.oneX
  simp only [RQ.v] at HFM ⊢
  clear h hx hfm hv
  go_enter Try.func10, Try.ntmps10
  go_wp2_with fail
  obtain ⟨W1, hW1⟩ : ∃ W1, (w.alloc (.cells #[.int .u32 (cl : Nat), .int .u32 (nu : Nat), .int .u32 (ac : Nat), .int .u8 (op : Nat), .int .u32 (rc : Nat), .int .u32 (ve : Nat), .int .u32 (wa : Nat), .int .u32 (ow : Nat), fv, .string rs] 34)).alloc (.cells #[.int .u32 0, .int .u32 0] 29) = W1 := ⟨_, rfl⟩
  have hf1 : Fr (fun _ => False) w W1 := by rw [← hW1]; exact (box1 w _).alloc _
  have hb1 : W1.heap[w.heap.size]? = some (.cells #[.int .u32 (cl : Nat), .int .u32 (nu : Nat), .int .u32 (ac : Nat), .int .u8 (op : Nat), .int .u32 (rc : Nat), .int .u32 (ve : Nat), .int .u32 (wa : Nat), .int .u32 (ow : Nat), fv, .string rs] 34) := by rw [← hW1]; exact (Below.heap_alloc _ _ _ (by simp)).trans (heap_alloc_new w _)
  have hb2 : W1.heap[w.heap.size + 1]? = some (.cells #[.int .u32 0, .int .u32 0] 29) := by
    rw [← hW1]
    have := heap_alloc_new (w.alloc (.cells #[.int .u32 (cl : Nat), .int .u32 (nu : Nat), .int .u32 (ac : Nat), .int .u8 (op : Nat), .int .u32 (rc : Nat), .int .u32 (ve : Nat), .int .u32 (wa : Nat), .int .u32 (ow : Nat), fv, .string rs] 34)) (.cells #[.int .u32 0, .int .u32 0] 29)
    rwa [World.size_alloc] at this
  rw [hW1]
  clear hW1
  refine ((unhide HFM) W1 hf1).mono ?_
  rintro e W2 ⟨rfl, hf2⟩
  have hc1 := (hf2.block _ (lt_of_block hb1) (fun h => h)).trans hb1
  have hc2 := (hf2.block _ (lt_of_block hb2) (fun h => h)).trans hb2
  have hf02 := hf1.trans0 hf2
  have s0 : W2.cell? ⟨w.heap.size + 1, 0, none⟩ = some (.int .u32 0) := cell_of_blk hc2 rfl
  have s1 : W2.cell? ⟨w.heap.size + 1, 1, none⟩ = some (.int .u32 0) := cell_of_blk hc2 rfl
  have y0 : W2.frozen? ⟨w.heap.size + 1, 0, none⟩ = false := frz_of_blk hc2
  have y1 : W2.frozen? ⟨w.heap.size + 1, 1, none⟩ = false := frz_of_blk hc2
  have HB := hide (And.intro hc1 (And.intro hc2 hf02))
  clear hf1 hb1 hb2 hf2 hc1 hc2 hf02 HFM
  go_wp2_with fail
  refine bodyPost_ret (results_cellt rfl _ _ (w.heap.size + 1) 0 [.int .u32 0, .int .u32 0] _ _ rfl rfl (range_of_block (t := 29) ?_) Try.underlying29 rfl Try.sizeId2) rfl ?_
  · have hb := blkset (blkset (unhide HB).2.1 0 (.int .u32 0)) 1 (.int .u32 0)
    simpa using hb
  · exact ⟨rfl, ((unhide HB).2.2.setCell (p := ⟨w.heap.size + 1, 0, none⟩) (.inr (by show w.heap.size ≤ w.heap.size + 1; omega)) _).setCell (p := ⟨w.heap.size + 1, 1, none⟩) (.inr (by show w.heap.size ≤ w.heap.size + 1; omega)) _⟩
set_option maxRecDepth 100000 in
set_option maxHeartbeats 4000000 in
theorem scall_full (d mw ma c : Nat) (cs : List SC) (dn : List Nat) (dv : Value) (T : Nat → Prop) (w : World) (h : SsAt w d mw ma c cs dn dv T) (r : RQ) (F : List F5) (hx : Rd w r.fv F.length 5 (fcells F)) (hl : F.length ≤ 1048576) (hv : ∀ f ∈ F, f.v < 4294967296 ∧ f.u < 256) (hfm : r.frm F = true) (hkl : cs.length = 4096) :
    Calls Try.prog 10 #[.pointer (some ⟨d, 0, none⟩), r.v] w fun e w' => e = .returned (.tuple #[.agg #[.int .u32 0, .int .u32 0], .int .i64 2]) ∧ Fr (fun _ => False) w w' := by
  have HFM : Hid (∀ W', Fr (fun _ => False) w W' → Calls Try.prog 20 #[r.v] W' fun e w' => e = .returned (.bool true) ∧ Fr (fun _ => False) W' w') := hide (fun W' hf => by
    have := formed_any r F W' (rd_fds (hx.fr0 hf)) (by omega) hv
    rw [hfm] at this
    exact this)
  have HX := hide (And.intro h hx)
  have hld := h.lt d h.own.1
  obtain ⟨cl, nu, ac, op, rc, ve, wa, ow, fv, rs⟩ := r
  have HFV : Hid (fv.oneCell' = true) := hide hx.oneX
  simp only [RQ.v] at HFM ⊢
  clear h hx hfm hv
  go_enter Try.func10, Try.ntmps10
  go_wp2_with fail
  obtain ⟨W1, hW1⟩ : ∃ W1, (w.alloc (.cells #[.int .u32 (cl : Nat), .int .u32 (nu : Nat), .int .u32 (ac : Nat), .int .u8 (op : Nat), .int .u32 (rc : Nat), .int .u32 (ve : Nat), .int .u32 (wa : Nat), .int .u32 (ow : Nat), fv, .string rs] 34)).alloc (.cells #[.int .u32 0, .int .u32 0] 29) = W1 := ⟨_, rfl⟩
  have hf1 : Fr (fun _ => False) w W1 := by rw [← hW1]; exact (box1 w _).alloc _
  have hb1 : W1.heap[w.heap.size]? = some (.cells #[.int .u32 (cl : Nat), .int .u32 (nu : Nat), .int .u32 (ac : Nat), .int .u8 (op : Nat), .int .u32 (rc : Nat), .int .u32 (ve : Nat), .int .u32 (wa : Nat), .int .u32 (ow : Nat), fv, .string rs] 34) := by rw [← hW1]; exact (Below.heap_alloc _ _ _ (by simp)).trans (heap_alloc_new w _)
  have hb2 : W1.heap[w.heap.size + 1]? = some (.cells #[.int .u32 0, .int .u32 0] 29) := by
    rw [← hW1]
    have := heap_alloc_new (w.alloc (.cells #[.int .u32 (cl : Nat), .int .u32 (nu : Nat), .int .u32 (ac : Nat), .int .u8 (op : Nat), .int .u32 (rc : Nat), .int .u32 (ve : Nat), .int .u32 (wa : Nat), .int .u32 (ow : Nat), fv, .string rs] 34)) (.cells #[.int .u32 0, .int .u32 0] 29)
    rwa [World.size_alloc] at this
  rw [hW1]
  clear hW1
  refine ((unhide HFM) W1 hf1).mono ?_
  rintro e W2 ⟨rfl, hf2⟩
  have hc1 := (hf2.block _ (lt_of_block hb1) (fun h => h)).trans hb1
  have hc2 := (hf2.block _ (lt_of_block hb2) (fun h => h)).trans hb2
  have hf02 := hf1.trans0 hf2
  have s0 : W2.cell? ⟨w.heap.size + 1, 0, none⟩ = some (.int .u32 0) := cell_of_blk hc2 rfl
  have s1 : W2.cell? ⟨w.heap.size + 1, 1, none⟩ = some (.int .u32 0) := cell_of_blk hc2 rfl
  have y0 : W2.frozen? ⟨w.heap.size + 1, 0, none⟩ = false := frz_of_blk hc2
  have y1 : W2.frozen? ⟨w.heap.size + 1, 1, none⟩ = false := frz_of_blk hc2
  have HB := hide (And.intro hc1 (And.intro hc2 hf02))
  clear hf1 hb1 hb2 hf2 hc1 hc2 hf02 HFM
  obtain ⟨a, ha⟩ : ∃ a, nW cs = a := ⟨_, rfl⟩
  obtain ⟨b, hb⟩ : ∃ b, nA cs = b := ⟨_, rfl⟩
  obtain ⟨k, hk⟩ : ∃ k, cs.length = k := ⟨_, rfl⟩
  have hab : a + b = k := by rw [← ha, ← hb, ← hk]; exact nWA cs
  have hk4 : k ≤ 4096 := by rw [← hk]; exact (unhide HX).1.len
  have HN := hide (And.intro ha (And.intro hb hk))
  rw [hk] at hkl
  have HW := hide (wrap_sum a b k hab hk4)
  clear hab ha hb hk
  have HS3 : Hid (∀ W', Fr (fun _ => False) w W' → W'.cell? ⟨d, 1, none⟩ = some (.map (some mw)) ∧ W'.cell? ⟨d, 2, none⟩ = some (.map (some ma)) ∧ (Builtin.len_ #[83] 3 #[.map (some mw)]).run Try.prog W' = .ok (.int .i64 (a : Nat)) W' ∧ (Builtin.len_ #[84] 3 #[.map (some ma)]).run Try.prog W' = .ok (.int .i64 (b : Nat)) W') := hide (fun W' hf => by
    have hh := (unhide HX).1.fr0 hf
    have h1 := hh.wm.len Try.underlying83 3
    have h2 := hh.am.len Try.underlying84 3
    rw [(unhide HN).1] at h1
    rw [(unhide HN).2.1] at h2
    exact ⟨hh.cells.2.1, hh.cells.2.2.1, h1, h2⟩)
  go_wp2_with fail
  refine wp_region_held_drew (S := (fun W => W.cell? ⟨d, 1, none⟩ = some (.map (some mw)) ∧ W.cell? ⟨d, 2, none⟩ = some (.map (some ma)) ∧ (Builtin.len_ #[83] 3 #[.map (some mw)]).run Try.prog W = .ok (.int .i64 (a : Nat)) W ∧ (Builtin.len_ #[84] 3 #[.map (some ma)]).run Try.prog W = .ok (.int .i64 (b : Nat)) W)) (by kernel_rfl) ((unhide HS3) _ (unhide HB).2.2.drew) (fun hHeld => ?_)
  refine wtk2 (i := 0) rfl hHeld ?_
  (try simp only [Act.put, nrm])
  refine wtk2 (i := 1) rfl hHeld ?_
  (try simp only [Act.put, nrm])
  refine wtk2 (i := 2) rfl hHeld ?_
  (try simp only [Act.put, nrm])
  refine wtk2 (i := 3) rfl hHeld ?_
  (try simp only [Act.put, nrm])
  refine wtk2 (i := 4) rfl hHeld ?_
  (try simp only [Act.put, nrm])
  refine wtk2 (i := 5) rfl hHeld ?_
  (try simp only [Act.put, nrm])
  refine wtk2 (i := 6) rfl hHeld ?_
  (try simp only [Act.put, nrm])
  refine wtk2 (i := 7) rfl hHeld ?_
  (try simp only [Act.put, nrm])
  refine wtk2 (i := 8) rfl hHeld ?_
  (try simp only [Act.put, nrm])
  refine wtk2 (i := 9) rfl hHeld ?_
  (try simp only [Act.put, nrm])
  refine wtk2 (i := 10) rfl hHeld ?_
  (try simp only [Act.put, nrm])
  refine wtk2 (i := 11) rfl hHeld ?_
  (try simp only [Act.put, nrm])
  refine wpAnyH_done (by kernel_rfl) ?_ _
  have hww := unhide HW
  simp only [hww]
  clear hHeld HS3 hww HW
  subst hkl
  go_wp2_with fail
  refine bodyPost_ret (results_cellt rfl _ _ (w.heap.size + 1) 0 [.int .u32 0, .int .u32 0] _ _ rfl rfl (range_of_block (t := 29) ?_) Try.underlying29 rfl Try.sizeId2) rfl ?_
  · have hb : ((W2.setCell ⟨w.heap.size + 1, 0, none⟩ (.int .u32 0)).setCell ⟨w.heap.size + 1, 1, none⟩ (.int .u32 0)).heap[w.heap.size + 1]? = some (.cells #[.int .u32 0, .int .u32 0] 29) := by simpa using blkset (blkset (unhide HB).2.1 0 (.int .u32 0)) 1 (.int .u32 0)
    exact hb
  · exact ⟨rfl, (((unhide HB).2.2.setCell (p := ⟨w.heap.size + 1, 0, none⟩) (.inr (by show w.heap.size ≤ w.heap.size + 1; omega)) _).setCell (p := ⟨w.heap.size + 1, 1, none⟩) (.inr (by show w.heap.size ≤ w.heap.size + 1; omega)) _).drew⟩
set_option maxRecDepth 100000 in
set_option maxHeartbeats 4000000 in
theorem scall_ok (d mw ma c : Nat) (cs : List SC) (dn : List Nat) (dv : Value) (T : Nat → Prop) (w : World) (h : SsAt w d mw ma c cs dn dv T) (r : RQ) (F : List F5) (hx : Rd w r.fv F.length 5 (fcells F)) (hl : F.length ≤ 1048576) (hv : ∀ f ∈ F, f.v < 4294967296 ∧ f.u < 256) (hfm : r.frm F = true) (hkl : cs.length < 4096) :
    Calls Try.prog 10 #[.pointer (some ⟨d, 0, none⟩), r.v] w fun e w' => e = .returned (.tuple #[.agg #[.int .u32 (c : Nat), .int .u32 ((cs.length : Int) + 1)], .int .i64 0]) ∧ (∃ v, SsAt w' d mw ma c (cs ++ [⟨{ r with cl := c, nu := cs.length + 1, fv := v }, F, 0, 0, none⟩]) dn dv (fun g => T g ∨ Nb w w' g)) ∧ Fr (fun g => g = mw) w w' := by
  have HFM : Hid (∀ W', Fr (fun _ => False) w W' → Calls Try.prog 20 #[r.v] W' fun e w' => e = .returned (.bool true) ∧ Fr (fun _ => False) W' w') := hide (fun W' hf => by
    have := formed_any r F W' (rd_fds (hx.fr0 hf)) (by omega) hv
    rw [hfm] at this
    exact this)
  have HX := hide (And.intro h hx)
  have hld := h.lt d h.own.1
  obtain ⟨cl, nu, ac, op, rc, ve, wa, ow, fv, rs⟩ := r
  have HFV : Hid (fv.oneCell' = true) := hide hx.oneX
  simp only [RQ.v] at HFM ⊢
  clear h hx hfm hv
  go_enter Try.func10, Try.ntmps10
  go_wp2_with fail
  obtain ⟨W1, hW1⟩ : ∃ W1, (w.alloc (.cells #[.int .u32 (cl : Nat), .int .u32 (nu : Nat), .int .u32 (ac : Nat), .int .u8 (op : Nat), .int .u32 (rc : Nat), .int .u32 (ve : Nat), .int .u32 (wa : Nat), .int .u32 (ow : Nat), fv, .string rs] 34)).alloc (.cells #[.int .u32 0, .int .u32 0] 29) = W1 := ⟨_, rfl⟩
  have hf1 : Fr (fun _ => False) w W1 := by rw [← hW1]; exact (box1 w _).alloc _
  have hb1 : W1.heap[w.heap.size]? = some (.cells #[.int .u32 (cl : Nat), .int .u32 (nu : Nat), .int .u32 (ac : Nat), .int .u8 (op : Nat), .int .u32 (rc : Nat), .int .u32 (ve : Nat), .int .u32 (wa : Nat), .int .u32 (ow : Nat), fv, .string rs] 34) := by rw [← hW1]; exact (Below.heap_alloc _ _ _ (by simp)).trans (heap_alloc_new w _)
  have hb2 : W1.heap[w.heap.size + 1]? = some (.cells #[.int .u32 0, .int .u32 0] 29) := by
    rw [← hW1]
    have := heap_alloc_new (w.alloc (.cells #[.int .u32 (cl : Nat), .int .u32 (nu : Nat), .int .u32 (ac : Nat), .int .u8 (op : Nat), .int .u32 (rc : Nat), .int .u32 (ve : Nat), .int .u32 (wa : Nat), .int .u32 (ow : Nat), fv, .string rs] 34)) (.cells #[.int .u32 0, .int .u32 0] 29)
    rwa [World.size_alloc] at this
  rw [hW1]
  clear hW1
  refine ((unhide HFM) W1 hf1).mono ?_
  rintro e W2 ⟨rfl, hf2⟩
  have hc1 := (hf2.block _ (lt_of_block hb1) (fun h => h)).trans hb1
  have hc2 := (hf2.block _ (lt_of_block hb2) (fun h => h)).trans hb2
  have hf02 := hf1.trans0 hf2
  have s0 : W2.cell? ⟨w.heap.size + 1, 0, none⟩ = some (.int .u32 0) := cell_of_blk hc2 rfl
  have s1 : W2.cell? ⟨w.heap.size + 1, 1, none⟩ = some (.int .u32 0) := cell_of_blk hc2 rfl
  have y0 : W2.frozen? ⟨w.heap.size + 1, 0, none⟩ = false := frz_of_blk hc2
  have y1 : W2.frozen? ⟨w.heap.size + 1, 1, none⟩ = false := frz_of_blk hc2
  have HB := hide (And.intro hc1 (And.intro hc2 hf02))
  clear hf1 hb1 hb2 hf2 hc1 hc2 hf02 HFM
  obtain ⟨a, ha⟩ : ∃ a, nW cs = a := ⟨_, rfl⟩
  obtain ⟨b, hb⟩ : ∃ b, nA cs = b := ⟨_, rfl⟩
  obtain ⟨k, hk⟩ : ∃ k, cs.length = k := ⟨_, rfl⟩
  have hab : a + b = k := by rw [← ha, ← hb, ← hk]; exact nWA cs
  have hk4 : k ≤ 4096 := by rw [← hk]; exact (unhide HX).1.len
  have HN := hide (And.intro ha (And.intro hb hk))
  rw [hk] at hkl
  have HW := hide (wrap_sum a b k hab hk4)
  clear hab ha hb hk
  have HS3 : Hid (∀ W', Fr (fun _ => False) w W' → W'.cell? ⟨d, 1, none⟩ = some (.map (some mw)) ∧ W'.cell? ⟨d, 2, none⟩ = some (.map (some ma)) ∧ (Builtin.len_ #[83] 3 #[.map (some mw)]).run Try.prog W' = .ok (.int .i64 (a : Nat)) W' ∧ (Builtin.len_ #[84] 3 #[.map (some ma)]).run Try.prog W' = .ok (.int .i64 (b : Nat)) W') := hide (fun W' hf => by
    have hh := (unhide HX).1.fr0 hf
    have h1 := hh.wm.len Try.underlying83 3
    have h2 := hh.am.len Try.underlying84 3
    rw [(unhide HN).1] at h1
    rw [(unhide HN).2.1] at h2
    exact ⟨hh.cells.2.1, hh.cells.2.2.1, h1, h2⟩)
  go_wp2_with fail
  refine wp_region_held_drew (S := (fun W => W.cell? ⟨d, 1, none⟩ = some (.map (some mw)) ∧ W.cell? ⟨d, 2, none⟩ = some (.map (some ma)) ∧ (Builtin.len_ #[83] 3 #[.map (some mw)]).run Try.prog W = .ok (.int .i64 (a : Nat)) W ∧ (Builtin.len_ #[84] 3 #[.map (some ma)]).run Try.prog W = .ok (.int .i64 (b : Nat)) W)) (by kernel_rfl) ((unhide HS3) _ (unhide HB).2.2.drew) (fun hHeld => ?_)
  refine wtk2 (i := 0) rfl hHeld ?_
  (try simp only [Act.put, nrm])
  refine wtk2 (i := 1) rfl hHeld ?_
  (try simp only [Act.put, nrm])
  refine wtk2 (i := 2) rfl hHeld ?_
  (try simp only [Act.put, nrm])
  refine wtk2 (i := 3) rfl hHeld ?_
  (try simp only [Act.put, nrm])
  refine wtk2 (i := 4) rfl hHeld ?_
  (try simp only [Act.put, nrm])
  refine wtk2 (i := 5) rfl hHeld ?_
  (try simp only [Act.put, nrm])
  refine wtk2 (i := 6) rfl hHeld ?_
  (try simp only [Act.put, nrm])
  refine wtk2 (i := 7) rfl hHeld ?_
  (try simp only [Act.put, nrm])
  refine wtk2 (i := 8) rfl hHeld ?_
  (try simp only [Act.put, nrm])
  refine wtk2 (i := 9) rfl hHeld ?_
  (try simp only [Act.put, nrm])
  refine wtk2 (i := 10) rfl hHeld ?_
  (try simp only [Act.put, nrm])
  refine wtk2 (i := 11) rfl hHeld ?_
  (try simp only [Act.put, nrm])
  refine wpAnyH_done (by kernel_rfl) ?_ _
  have hww := unhide HW
  simp only [hww]
  clear hHeld HS3 hww HW
  have hnk : ¬ (k : Int) ≥ 4096 := by omega
  have hnk2 : ¬ (4096 : Int) ≤ (k : Int) := by omega
  have hnk3 : ¬ 4096 ≤ k := by omega
  have hw1 : wrap64 ((k : Int) + 1) = (k : Int) + 1 := by unfold wrap64; omega
  have hw2 : IntKind.u32.wrap ((k : Int) + 1) = (k : Int) + 1 := by
    have e : ((k : Int) + 1) % 4294967296 = (k : Int) + 1 := by omega
    simp [IntKind.wrap, IntKind.bits, IntKind.signed, e]
  have hcc := ((unhide HX).1.fr0 (unhide HB).2.2).cells
  have c0 := hcc.1
  have e0 : W2.cell? ⟨w.heap.size, 0, none⟩ = some (.int .u32 (cl : Nat)) := cell_of_blk (unhide HB).1 rfl
  have e1 : W2.cell? ⟨w.heap.size, 1, none⟩ = some (.int .u32 (nu : Nat)) := cell_of_blk (unhide HB).1 rfl
  have z0 : W2.frozen? ⟨w.heap.size, 0, none⟩ = false := frz_of_blk (unhide HB).1
  have z1 : W2.frozen? ⟨w.heap.size, 1, none⟩ = false := frz_of_blk (unhide HB).1
  have hdw : d ≠ w.heap.size := by omega
  clear hcc
  go_wp2_with fail
  obtain ⟨W3, hW3⟩ : ∃ W3, ((W2.setCell ⟨w.heap.size, 0, none⟩ (.int .u32 (c : Nat))).setCell ⟨w.heap.size, 1, none⟩ (.int .u32 ((k : Int) + 1))).drew = W3 := ⟨_, rfl⟩
  have hb3 : W3.heap[w.heap.size]? = some (.cells #[.int .u32 (c : Nat), .int .u32 ((k : Int) + 1), .int .u32 (ac : Nat), .int .u8 (op : Nat), .int .u32 (rc : Nat), .int .u32 (ve : Nat), .int .u32 (wa : Nat), .int .u32 (ow : Nat), fv, .string rs] 34) := by
    rw [← hW3]
    have hb : ((W2.setCell ⟨w.heap.size, 0, none⟩ (.int .u32 (c : Nat))).setCell ⟨w.heap.size, 1, none⟩ (.int .u32 ((k : Int) + 1))).heap[w.heap.size]? = some (.cells #[.int .u32 (c : Nat), .int .u32 ((k : Int) + 1), .int .u32 (ac : Nat), .int .u8 (op : Nat), .int .u32 (rc : Nat), .int .u32 (ve : Nat), .int .u32 (wa : Nat), .int .u32 (ow : Nat), fv, .string rs] 34) := by simpa using blkset (blkset (unhide HB).1 0 (.int .u32 (c : Nat))) 1 (.int .u32 ((k : Int) + 1))
    exact hb
  have hb4 : W3.heap[w.heap.size + 1]? = some (.cells #[.int .u32 0, .int .u32 0] 29) := by
    rw [← hW3]
    exact ((Below.heap_setCell _ ⟨w.heap.size, 1, none⟩ _ (w.heap.size + 1) (by show w.heap.size + 1 ≠ w.heap.size; omega)).trans (Below.heap_setCell W2 ⟨w.heap.size, 0, none⟩ _ (w.heap.size + 1) (by show w.heap.size + 1 ≠ w.heap.size; omega))).trans (unhide HB).2.1
  have hf3 : Fr (fun _ => False) w W3 := by
    rw [← hW3]
    exact (((unhide HB).2.2.setCell (p := ⟨w.heap.size, 0, none⟩) (.inr (Nat.le_refl _)) _).setCell (p := ⟨w.heap.size, 1, none⟩) (.inr (Nat.le_refl _)) _).drew
  rw [hW3]
  clear hW3 s0 s1 y0 y1 e0 e1 z0 z1 c0 hw1 hw2 HB
  have HB := hide (And.intro hb3 (And.intro hb4 hf3))
  clear hb3 hb4 hf3
  have HG : Hid (∀ W', Fr (fun g => g = mw) W3 W' → W'.heap[w.heap.size]? = some (.cells #[.int .u32 (c : Nat), .int .u32 ((k : Int) + 1), .int .u32 (ac : Nat), .int .u8 (op : Nat), .int .u32 (rc : Nat), .int .u32 (ve : Nat), .int .u32 (wa : Nat), .int .u32 (ow : Nat), fv, .string rs] 34) ∧ W'.heap[w.heap.size + 1]? = some (.cells #[.int .u32 0, .int .u32 0] 29) ∧ W'.cell? ⟨d, 1, none⟩ = some (.map (some mw))) := hide (fun W' hf => by
    have hh := (unhide HX).1
    have hml := hh.lt mw hh.own.2.1
    have hcd := (hh.fr0 (unhide HB).2.2).cells.2.1
    exact ⟨(hf.block _ (lt_of_block (unhide HB).1) (by omega)).trans (unhide HB).1, (hf.block _ (lt_of_block (unhide HB).2.1) (by omega)).trans (unhide HB).2.1, (hf.cell (p := ⟨d, 1, none⟩) (lt_of_cell hcd) hh.dm.1).trans hcd⟩)
  have HS7 : Hid (∀ W', Fr (fun g => g = mw) W3 W' → W'.cell? ⟨d, 1, none⟩ = some (.map (some mw)) ∧ W'.cell? ⟨w.heap.size, 0, none⟩ = some (.int .u32 (c : Nat)) ∧ W'.cell? ⟨w.heap.size, 1, none⟩ = some (.int .u32 ((k : Int) + 1)) ∧ W'.rangeAt w.heap.size 0 [.int .u32 (c : Nat), .int .u32 ((k : Int) + 1), .int .u32 (ac : Nat), .int .u8 (op : Nat), .int .u32 (rc : Nat), .int .u32 (ve : Nat), .int .u32 (wa : Nat), .int .u32 (ow : Nat), fv, .string rs]) := hide (fun W' hf => by
    have hb := (unhide HG) W' hf
    exact ⟨hb.2.2, cell_of_blk hb.1 rfl, cell_of_blk hb.1 rfl, range_of_block hb.1⟩)
  refine wp_region_held_drew (S := (fun W => W.cell? ⟨d, 1, none⟩ = some (.map (some mw)) ∧ W.cell? ⟨w.heap.size, 0, none⟩ = some (.int .u32 (c : Nat)) ∧ W.cell? ⟨w.heap.size, 1, none⟩ = some (.int .u32 ((k : Int) + 1)) ∧ W.rangeAt w.heap.size 0 [.int .u32 (c : Nat), .int .u32 ((k : Int) + 1), .int .u32 (ac : Nat), .int .u8 (op : Nat), .int .u32 (rc : Nat), .int .u32 (ve : Nat), .int .u32 (wa : Nat), .int .u32 (ow : Nat), fv, .string rs])) (by kernel_rfl) ((unhide HS7) _ (Fr.refl _ _).drew) (fun hHeld => ?_)
  refine wtk2 (i := 0) rfl hHeld ?_
  (try simp only [Act.put, nrm])
  refine wtk2 (i := 1) rfl hHeld ?_
  (try simp only [Act.put, nrm])
  refine wtk2 (i := 2) rfl hHeld ?_
  (try simp only [Act.put, nrm])
  refine wtk2 (i := 3) rfl hHeld ?_
  (try simp only [Act.put, nrm])
  refine wtk2 (i := 4) rfl hHeld ?_
  (try simp only [Act.put, nrm])
  refine wtk2 (i := 5) rfl hHeld ?_
  (try simp only [Act.put, nrm])
  refine wtk (i := 6) rfl (yieldsIf_load_mid rfl 34 (.tmp 3) rfl w.heap.size 0 rfl _ _ (fun w h => h.2.2.2) Try.underlying34 rfl Try.sizeRq) hHeld ?_
  (try simp only [Act.put, nrm])
  refine wpAnyH_ready (rs := [7]) (by kernel_rfl) (by simp) (AllReadyH.cons rfl (fun K hK => ?_) AllReadyH.nil)
  have HOA := hide (ownReq_any ⟨c, k + 1, ac, op, rc, ve, wa, ow, fv, rs⟩ F.length (fcells F) W3.drew ((unhide HX).2.fr0 (unhide HB).2.2.drew) hl)
  go_simp
  refine (unhide HOA).mono ?_
  rintro e W4 ⟨v, rfl, hF4, hf4⟩
  clear HOA
  have hov := own_one hF4
  have hf34 : Fr (fun g => g = mw) W3 W4 := ((Fr.refl _ _).drew.trans0 hf4).mono (fun _ _ e => e.elim)
  have hfw4 : Fr (fun _ => False) w W4 := (unhide HB).2.2.drew.trans0 hf4
  have hmw4 := ((unhide HX).1.fr0 hfw4).wm
  have hcs := (unhide HX).1.c16
  have hnk5 := (unhide HN).2.2
  have hnw := nWA cs
  obtain ⟨W5, hup, hm5, hf5⟩ := hmw4.put (by omega) (by have := (unhide HX).1.len; omega) Try.underlying83 (k := cs.length + 1) (by have := (unhide HX).1.len; omega) (SC.v ⟨⟨c, k + 1, ac, op, rc, ve, wa, ow, v, rs⟩, F, 0, 0, none⟩)
  rw [fW_no (.inr (Nat.lt_succ_self _))] at hm5
  rw [hnk5] at hup
  have hup' : (Instr.mapUpdate 83 (.map (some mw)) (.agg #[.int .u32 (c : Nat), .int .u32 ((k : Int) + 1)]) (.agg #[.int .u32 (c : Nat), .int .u32 ((k : Int) + 1), .int .u32 (ac : Nat), .int .u8 (op : Nat), .int .u32 (rc : Nat), .int .u32 (ve : Nat), .int .u32 (wa : Nat), .int .u32 (ow : Nat), v, .string rs, .int .i64 0, .int .i64 0])).run Try.prog W4 = .ok () W5 := hup
  have hf35 : Fr (fun g => g = mw) W3 W5 := hf34.trans hf5 (fun _ _ e => e)
  have hfw5 : Fr (fun g => g = mw) w W5 := (hfw4.mono (fun _ _ e => e.elim)).trans hf5 (fun _ _ e => e)
  have hml := (unhide HX).1.lt mw (unhide HX).1.own.2.1
  have hF5 : W5.ownsRow w.heap.size 79 5 v F.length (fcells F) := ownsRow_base (ownsRow_of_block hF4 (fun g hg => hf5.block g (hF4.lt g hg).2 (fun e => by have h1 := (hF4.lt g hg).1; have h2 := (unhide HB).2.2.size; have : W3.drew.heap.size = W3.heap.size := rfl; omega))) (unhide HB).2.2.size
  have HUP := hide hup'
  have H5 := hide (And.intro hm5 (And.intro hf35 (And.intro hfw5 hF5)))
  have HV := hide hov
  clear hup hup' hm5 hf5 hf35 hfw5 hF5 hF4 hf4 hfw4 hmw4 hml hov hcs hnk5 hnw
  simp only [RQ.v]
  try dsimp only
  refine hK.out _ _ ((unhide HS7) _ hf34) (fun hHeld => ?_)
  clear hK K
  (try simp only [Act.put, nrm])
  clear hf34
  refine wtk2 (i := 8) rfl hHeld ?_
  (try simp only [Act.put, nrm])
  refine wpAnyH_ready (rs := [9]) (by kernel_rfl) (by simp) (AllReadyH.cons rfl (fun K hK => ?_) AllReadyH.nil)
  refine step_mu rfl 83 (.tmp 37) (.tmp 39) (.tmp 42) rfl _ _ _ (by simp [Act.eval]) (by simp [Act.eval]) (by simp [Act.eval]) (unhide HUP) ?_
  refine hK.out _ _ ((unhide HS7) _ (unhide H5).2.1) (fun hHeld => ?_)
  clear hK K
  (try simp only [Act.put, nrm])
  refine wpAnyH_done (by kernel_rfl) ?_ _
  clear hHeld HS7 HUP
  have hb5 := (unhide HG) W5 (unhide H5).2.1
  have e0 : W5.cell? ⟨w.heap.size, 0, none⟩ = some (.int .u32 (c : Nat)) := cell_of_blk hb5.1 rfl
  have e1 : W5.cell? ⟨w.heap.size, 1, none⟩ = some (.int .u32 ((k : Int) + 1)) := cell_of_blk hb5.1 rfl
  have s0 : W5.cell? ⟨w.heap.size + 1, 0, none⟩ = some (.int .u32 0) := cell_of_blk hb5.2.1 rfl
  have s1 : W5.cell? ⟨w.heap.size + 1, 1, none⟩ = some (.int .u32 0) := cell_of_blk hb5.2.1 rfl
  have y0 : W5.frozen? ⟨w.heap.size + 1, 0, none⟩ = false := frz_of_blk hb5.2.1
  have y1 : W5.frozen? ⟨w.heap.size + 1, 1, none⟩ = false := frz_of_blk hb5.2.1
  have hb6 : ((W5.setCell ⟨w.heap.size + 1, 0, none⟩ (.int .u32 (c : Nat))).setCell ⟨w.heap.size + 1, 1, none⟩ (.int .u32 ((k : Int) + 1))).heap[w.heap.size + 1]? = some (.cells #[.int .u32 (c : Nat), .int .u32 ((k : Int) + 1)] 29) := by simpa using blkset (blkset hb5.2.1 0 (.int .u32 (c : Nat))) 1 (.int .u32 ((k : Int) + 1))
  have hf56 : Fr (fun g => g = w.heap.size + 1) W5 ((W5.setCell ⟨w.heap.size + 1, 0, none⟩ (.int .u32 (c : Nat))).setCell ⟨w.heap.size + 1, 1, none⟩ (.int .u32 ((k : Int) + 1))) := ((Fr.refl (fun g => g = w.heap.size + 1) W5).setCell (p := ⟨w.heap.size + 1, 0, none⟩) (.inl rfl) _).setCell (p := ⟨w.heap.size + 1, 1, none⟩) (.inl rfl) _
  have HE : Hid ((∃ v', SsAt ((W5.setCell ⟨w.heap.size + 1, 0, none⟩ (.int .u32 (c : Nat))).setCell ⟨w.heap.size + 1, 1, none⟩ (.int .u32 ((k : Int) + 1))) d mw ma c (cs ++ [⟨⟨c, cs.length + 1, ac, op, rc, ve, wa, ow, v', rs⟩, F, 0, 0, none⟩]) dn dv (fun g => T g ∨ Nb w ((W5.setCell ⟨w.heap.size + 1, 0, none⟩ (.int .u32 (c : Nat))).setCell ⟨w.heap.size + 1, 1, none⟩ (.int .u32 ((k : Int) + 1))) g)) ∧ Fr (fun g => g = mw) w ((W5.setCell ⟨w.heap.size + 1, 0, none⟩ (.int .u32 (c : Nat))).setCell ⟨w.heap.size + 1, 1, none⟩ (.int .u32 ((k : Int) + 1)))) := hide (by
    have h5 := unhide H5
    have hk5 := (unhide HN).2.2
    have hfw : Fr (fun g => g = mw) w ((W5.setCell ⟨w.heap.size + 1, 0, none⟩ (.int .u32 (c : Nat))).setCell ⟨w.heap.size + 1, 1, none⟩ (.int .u32 ((k : Int) + 1))) := h5.2.2.1.trans hf56 (fun g hg e => by omega)
    have hml := (unhide HX).1.lt mw (unhide HX).1.own.2.1
    have hz : W5.heap[w.heap.size + 1]? ≠ none := by rw [hb5.2.1]; simp
    refine ⟨⟨v, (unhide HX).1.call ⟨⟨c, cs.length + 1, ac, op, rc, ve, wa, ow, v, rs⟩, F, 0, 0, none⟩ rfl (by omega) ⟨rfl, rfl⟩ hl hfw ?_ ?_⟩, hfw⟩
    · have := h5.1.keep (w' := (W5.setCell ⟨w.heap.size + 1, 0, none⟩ (.int .u32 (c : Nat))).setCell ⟨w.heap.size + 1, 1, none⟩ (.int .u32 ((k : Int) + 1))) (hf56.block mw (by obtain ⟨a, b, hb⟩ := h5.1.blk; exact lt_of_block hb) (by omega))
      rw [hk5] at this ⊢
      simpa using this
    · refine ownsRow_of_block h5.2.2.2 (fun g hg => hf56.block g (h5.2.2.2.lt g hg).2 (fun e => ?_))
      obtain ⟨cur, hb⟩ := own_blk h5.2.2.2 hg
      rw [e, hb5.2.1] at hb
      simp at hb)
  have HE2 := hide hb6
  clear hb6 hf56 hb5 HX HG H5 HV HB
  go_wp2_with fail
  refine bodyPost_ret (results_cellt rfl _ _ (w.heap.size + 1) 0 [.int .u32 (c : Nat), .int .u32 ((k : Int) + 1)] _ _ rfl rfl (range_of_block (t := 29) (unhide HE2)) Try.underlying29 rfl Try.sizeId2) rfl ?_
  exact ⟨congrArg (fun z : Nat => Ending.returned (.tuple #[.agg #[.int .u32 (c : Nat), .int .u32 ((z : Int) + 1)], .int .i64 0])) (unhide HN).2.2.symm, unhide HE⟩
end Go.Proofs.Ytkiepcdncegniaa
