import Derived.Test.YtjkkonhhnmjcaaaGreatDoorPk5
namespace Go.Proofs.YtjkkonhhnmjcaaaGreatDoor
open Go.RowKit

def RQ.cs (r : RQ) : List Value := [.int .u32 (r.cl : Nat), .int .u32 (r.nu : Nat), .int .u32 (r.ac : Nat), .int .u8 (r.op : Nat), .int .u32 (r.rc : Nat), .int .u32 (r.ve : Nat), .int .u32 (r.wa : Nat), .int .u32 (r.ow : Nat), r.fv, .string r.rs]
theorem RQ.v_cs (r : RQ) : r.v = .agg r.cs.toArray := rfl
theorem Rd.oneX {w : World} {x : Value} {n z : Nat} {cs : List Value} (h : Rd w x n z cs) : x.oneCell' = true := by
  obtain ⟨xo, c, rfl, _⟩ := h.f
  rfl
theorem own_one {w : World} {base e z n : Nat} {v : Value} {cs : List Value} (h : w.ownsRow base e z v n cs) : v.oneCell' = true := by
  obtain ⟨ao, cap, rfl⟩ := own_formX h
  rfl
theorem RQ.one (r : RQ) (h : r.fv.oneCell' = true) : ∀ v ∈ r.cs, v.oneCell' = true := by
  intro v hv
  simp [RQ.cs] at hv
  rcases hv with rfl | rfl | rfl | rfl | rfl | rfl | rfl | rfl | rfl | rfl <;> first | rfl | exact h
theorem Tryz.sizeRq : (Tryz.prog.info? 27).map (·.size) = some 10 := by kernel_rfl
theorem Tryz.sizeAn : (Tryz.prog.info? 47).map (·.size) = some 7 := by kernel_rfl
theorem Tryz.sizeMs : (Tryz.prog.info? 51).map (·.size) = some 35 := by kernel_rfl
theorem Tryz.sizeCa : (Tryz.prog.info? 62).map (·.size) = some 12 := by kernel_rfl
theorem Tryz.sizeId2 : (Tryz.prog.info? 24).map (·.size) = some 2 := by kernel_rfl
theorem Fr.trans0 {a b c : World} (h : Fr (fun _ => False) a b) (k : Fr (fun _ => False) b c) : Fr (fun _ => False) a c := h.trans k (fun _ _ h => h)
set_option maxRecDepth 100000 in
/-- ownRequest. -/
theorem ownReq_any (r : RQ) (n : Nat) (cs : List Value) (w : World) (hx : Rd w r.fv n 5 cs) (hl : n ≤ 1048576) :
    Calls Tryz.prog 14 #[r.v] w fun e w' => ∃ v, e = .returned (RQ.v { r with fv := v }) ∧ w'.ownsRow w.heap.size 70 5 v n cs ∧ Fr (fun _ => False) w w' := by
  obtain ⟨cl, nu, ac, op, rc, ve, wa, ow, fv, rs⟩ := r
  simp only at hx
  have ho := hx.oneX
  have HX := hide hx
  clear hx
  simp only [RQ.v]
  go_enter Tryz.func14, Tryz.ntmps14
  go_wp2_with fail
  obtain ⟨W2, hW2⟩ : ∃ W2, (w.alloc (.cells #[.int .u32 (cl : Nat), .int .u32 (nu : Nat), .int .u32 (ac : Nat), .int .u8 (op : Nat), .int .u32 (rc : Nat), .int .u32 (ve : Nat), .int .u32 (wa : Nat), .int .u32 (ow : Nat), fv, .string rs] 27)).alloc (.cells #[.int .u32 0, .int .u32 0, .int .u32 0, .int .u8 0, .int .u32 0, .int .u32 0, .int .u32 0, .int .u32 0, .slice none 0 0, .string ⟨#[]⟩] 27) = W2 := ⟨_, rfl⟩
  have hf2 : Fr (fun _ => False) w W2 := by rw [← hW2]; exact (box1S w _).alloc _
  have hb1 : W2.heap[w.heap.size]? = some (.cells #[.int .u32 (cl : Nat), .int .u32 (nu : Nat), .int .u32 (ac : Nat), .int .u8 (op : Nat), .int .u32 (rc : Nat), .int .u32 (ve : Nat), .int .u32 (wa : Nat), .int .u32 (ow : Nat), fv, .string rs] 27) := by rw [← hW2]; exact (Below.heap_alloc _ _ _ (by simp)).trans (heap_alloc_new w _)
  have hb2 : W2.heap[w.heap.size + 1]? = some (.cells #[.int .u32 0, .int .u32 0, .int .u32 0, .int .u8 0, .int .u32 0, .int .u32 0, .int .u32 0, .int .u32 0, .slice none 0 0, .string ⟨#[]⟩] 27) := by
    rw [← hW2]
    have := heap_alloc_new (w.alloc (.cells #[.int .u32 (cl : Nat), .int .u32 (nu : Nat), .int .u32 (ac : Nat), .int .u8 (op : Nat), .int .u32 (rc : Nat), .int .u32 (ve : Nat), .int .u32 (wa : Nat), .int .u32 (ow : Nat), fv, .string rs] 27)) (.cells #[.int .u32 0, .int .u32 0, .int .u32 0, .int .u8 0, .int .u32 0, .int .u32 0, .int .u32 0, .int .u32 0, .slice none 0 0, .string ⟨#[]⟩] 27)
    rwa [World.size_alloc] at this
  rw [hW2]
  clear hW2
  refine (cloneField fv n cs W2 ((unhide HX).fr0 hf2) hl).mono ?_
  rintro e w3 ⟨v, rfl, hown, hf3⟩
  have hvo := own_one hown
  have hc1 := (hf3.block _ (lt_of_block hb1) (fun h => h)).trans hb1
  have hc2 := (hf3.block _ (lt_of_block hb2) (fun h => h)).trans hb2
  obtain ⟨ao, cap, rfl⟩ := own_formX hown
  have e8 : w3.cell? ⟨w.heap.size, 8, none⟩ = some fv := by simp [World.cell?, hc1]
  have z8 : w3.frozen? ⟨w.heap.size, 8, none⟩ = false := by simp [World.frozen?, hc1]
  have hc1' := blkset hc1 8 (.slice ao n cap)
  have hc2' : (w3.setCell ⟨w.heap.size, 8, none⟩ (.slice ao n cap)).heap[w.heap.size + 1]? = _ := (Below.heap_setCell w3 ⟨w.heap.size, 8, none⟩ _ (w.heap.size + 1) (by show w.heap.size + 1 ≠ w.heap.size; omega)).trans hc2
  have hr4 : (w3.setCell ⟨w.heap.size, 8, none⟩ (.slice ao n cap)).rangeAt w.heap.size 0 (RQ.cs ⟨cl, nu, ac, op, rc, ve, wa, ow, .slice ao n cap, rs⟩) := range_of_block (t := 27) (by simpa [RQ.cs] using hc1')
  obtain ⟨W8, hst, hb8, hf8⟩ := st_all (P := Tryz.prog) (ty := 27) [.int .u32 0, .int .u32 0, .int .u32 0, .int .u8 0, .int .u32 0, .int .u32 0, .int .u32 0, .int .u32 0, .slice none 0 0, .string ⟨#[]⟩] (RQ.cs ⟨cl, nu, ac, op, rc, ve, wa, ow, .slice ao n cap, rs⟩) hc2' rfl Tryz.sizeRq (RQ.one _ rfl)
  have hfin : Fr (fun _ => False) w W8 := by
    refine (Fr.trans (S := fun _ => False) ((hf2.trans0 hf3).setCell (p := ⟨w.heap.size, 8, none⟩) (.inr (Nat.le_refl _)) _) hf8 (fun k hk e => by omega))
  have hownf : W8.ownsRow w.heap.size 70 5 (.slice ao n cap) n cs := by
    refine ownsRow_baseS (ownsRow_of_blockS hown (fun g hg => ?_)) hf2.size
    have hgl := hown.lt g hg
    have hs2 := lt_of_block hb2
    have g1 : g ≠ w.heap.size := by omega
    have g2 : g ≠ w.heap.size + 1 := by omega
    exact (hf8.block g (by simpa [World.setCell] using hgl.2) g2).trans (Below.heap_setCell w3 ⟨w.heap.size, 8, none⟩ _ g g1)
  have HR := hide hr4
  have HS := hide hst
  have HF := hide (And.intro hb8 (And.intro hfin hownf))
  clear hr4 hst hb8 hf8 hfin hownf hc1' hc2' hc1 hc2 hb1 hb2 hf2 hf3 hown HX
  go_wp2_with (first | refine wpList_load_mid rfl 27 (.tmp 1) rfl w.heap.size 0 rfl _ _ (unhide HR) Tryz.underlying27 rfl Tryz.sizeRq ?_ | refine wpList_stN rfl 27 (.tmp 2) (.tmp 7) rfl _ _ rfl rfl (unhide HS) ?_)
  refine bodyPost_ret (results_cell_mid rfl _ _ (w.heap.size + 1) 0 _ _ rfl (range_of_block (t := 27) (unhide HF).1) Tryz.underlying27 rfl Tryz.sizeRq) rfl ?_
  exact ⟨_, rfl, (unhide HF).2.2, (unhide HF).2.1⟩
end Go.Proofs.YtjkkonhhnmjcaaaGreatDoor

namespace Go.Proofs.YtjkkonhhnmjcaaaGreatDoor
open Go.RowKit

theorem AN.one (a : AN) (h : a.fv.oneCell' = true) (h2 : a.hv.oneCell' = true) : ∀ v ∈ a.cs, v.oneCell' = true := by
  intro v hv
  simp [AN.cs] at hv
  rcases hv with rfl | rfl | rfl | rfl | rfl | rfl | rfl <;> first | rfl | exact h | exact h2
set_option maxRecDepth 100000 in
set_option maxHeartbeats 2000000 in
/-- ownAnswer. -/
theorem ownAns_any (a : AN) (n m : Nat) (cs ds : List Value) (w : World) (hx : Rd w a.fv n 5 cs) (hy : Rd w a.hv m 4 ds) (hl : n ≤ 1048576) (hm : m ≤ 1048576) :
    Calls Tryz.prog 31 #[a.v] w fun e w' => ∃ v u, e = .returned (AN.v { a with fv := v, hv := u }) ∧ w'.ownsRow w.heap.size 70 5 v n cs ∧ w'.ownsRow w.heap.size 119 4 u m ds ∧ Fr (fun _ => False) w w' := by
  obtain ⟨cl, nu, co, rc, ve, fv, hv⟩ := a
  simp only at hx hy
  have HX := hide (And.intro hx hy)
  clear hx hy
  simp only [AN.v, AN.cs]
  go_enter Tryz.func31, Tryz.ntmps31
  go_wp2_with fail
  obtain ⟨W2, hW2⟩ : ∃ W2, (w.alloc (.cells #[.int .u32 (cl : Nat), .int .u32 (nu : Nat), .int .u8 (co : Nat), .int .u32 (rc : Nat), .int .u32 (ve : Nat), fv, hv] 47)).alloc (.cells #[.int .u32 0, .int .u32 0, .int .u8 0, .int .u32 0, .int .u32 0, .slice none 0 0, .slice none 0 0] 47) = W2 := ⟨_, rfl⟩
  have hf2 : Fr (fun _ => False) w W2 := by rw [← hW2]; exact (box1S w _).alloc _
  have hb1 : W2.heap[w.heap.size]? = some (.cells #[.int .u32 (cl : Nat), .int .u32 (nu : Nat), .int .u8 (co : Nat), .int .u32 (rc : Nat), .int .u32 (ve : Nat), fv, hv] 47) := by rw [← hW2]; exact (Below.heap_alloc _ _ _ (by simp)).trans (heap_alloc_new w _)
  have hb2 : W2.heap[w.heap.size + 1]? = some (.cells #[.int .u32 0, .int .u32 0, .int .u8 0, .int .u32 0, .int .u32 0, .slice none 0 0, .slice none 0 0] 47) := by
    rw [← hW2]
    have := heap_alloc_new (w.alloc (.cells #[.int .u32 (cl : Nat), .int .u32 (nu : Nat), .int .u8 (co : Nat), .int .u32 (rc : Nat), .int .u32 (ve : Nat), fv, hv] 47)) (.cells #[.int .u32 0, .int .u32 0, .int .u8 0, .int .u32 0, .int .u32 0, .slice none 0 0, .slice none 0 0] 47)
    rwa [World.size_alloc] at this
  have hs2 : w.heap.size + 2 ≤ W2.heap.size := by have := lt_of_block hb2; omega
  rw [hW2]
  clear hW2
  have HB := hide (And.intro hf2 (And.intro hb1 (And.intro hb2 hs2)))
  have HK : Hid (∀ W', Fr (fun _ => False) W2 W' → W'.heap[w.heap.size]? = some (.cells #[.int .u32 (cl : Nat), .int .u32 (nu : Nat), .int .u8 (co : Nat), .int .u32 (rc : Nat), .int .u32 (ve : Nat), fv, hv] 47) ∧ W'.heap[w.heap.size + 1]? = some (.cells #[.int .u32 0, .int .u32 0, .int .u8 0, .int .u32 0, .int .u32 0, .slice none 0 0, .slice none 0 0] 47)) := hide (fun W' hf => ⟨(hf.block _ (lt_of_block hb1) (fun h => h)).trans hb1, (hf.block _ (lt_of_block hb2) (fun h => h)).trans hb2⟩)
  have HS : Hid (∀ W', Fr (fun _ => False) W2 W' → W'.cell? ⟨w.heap.size, 5, none⟩ = some fv ∧ W'.cell? ⟨w.heap.size, 6, none⟩ = some hv) := hide (fun W' hf => by
    have h := ((unhide HK) W' hf).1
    exact ⟨by simp [World.cell?, h], by simp [World.cell?, h]⟩)
  clear hf2 hb1 hb2 hs2
  refine wp_region_last3 (n := 7) (m1 := 7) (m2 := 8) (m3 := 9) (S := (fun W => W.cell? ⟨w.heap.size, 5, none⟩ = some fv ∧ W.cell? ⟨w.heap.size, 6, none⟩ = some hv)) (by kernel_rfl) rfl rfl rfl rfl rfl rfl rfl (by kernel_rfl) (by kernel_rfl) (by kernel_rfl) (by kernel_rfl) (by decide) ((unhide HS) _ (Fr.refl _ _).drew) (fun hHeld => ?_)
  refine wtk2S (i := 0) rfl hHeld ?_
  (try simp only [Act.put, nrmS])
  refine wtk2S (i := 1) rfl hHeld ?_
  (try simp only [Act.put, nrmS])
  refine wtk2S (i := 3) rfl hHeld ?_
  (try simp only [Act.put, nrmS])
  refine wtk2S (i := 4) rfl hHeld ?_
  (try simp only [Act.put, nrmS])
  refine wpAnyH_ready (rs := [2]) (by kernel_rfl) (by simp) (AllReadyH.cons rfl (fun K hK => ?_) AllReadyH.nil)
  go_simp
  refine (cloneField fv n cs _ ((unhide HX).1.fr0 ((unhide HB).1.trans0 (Fr.refl _ _).drew)) hl).mono ?_
  rintro e w3 ⟨v, rfl, hown, hf3⟩
  have hf3' : Fr (fun _ => False) W2 w3 := (Fr.refl _ _).drew.trans0 hf3
  have HO := hide (And.intro hown hf3')
  clear hown hf3
  try dsimp only
  refine hK.out _ _ ((unhide HS) _ hf3') (fun hHeld => ?_)
  clear hK K
  (try simp only [Act.put, nrmS])
  refine wtk2S (i := 6) rfl hHeld ?_
  (try simp only [Act.put, nrmS])
  refine wpAnyH_ready (rs := [5]) (by kernel_rfl) (by simp) (AllReadyH.cons rfl (fun K hK => ?_) AllReadyH.nil)
  go_simp
  refine (cloneSummary hv m ds _ ((unhide HX).2.fr0 ((unhide HB).1.trans0 (unhide HO).2)) hm).mono ?_
  rintro e w4 ⟨u, rfl, hown2, hf4⟩
  have hf4' : Fr (fun _ => False) W2 w4 := (unhide HO).2.trans0 hf4
  have HP := hide (And.intro hown2 (And.intro hf4 hf4'))
  clear hown2 hf4
  try dsimp only
  refine hK.out _ _ ((unhide HS) _ hf4') (fun hHeld => ?_)
  clear hK K
  (try simp only [Act.put, nrmS])
  refine wpAnyH_done (by kernel_rfl) ?_ _
  have hk := (unhide HK) _ hf4'
  obtain ⟨k1, k2⟩ := hk
  obtain ⟨ao, cap, rfl⟩ := own_formX (unhide HO).1
  obtain ⟨bo, cbp, rfl⟩ := own_formX (unhide HP).1
  have e5 : w4.cell? ⟨w.heap.size, 5, none⟩ = some fv := by simp [World.cell?, k1]
  have e6 : w4.cell? ⟨w.heap.size, 6, none⟩ = some hv := by simp [World.cell?, k1]
  have z5 : w4.frozen? ⟨w.heap.size, 5, none⟩ = false := by simp [World.frozen?, k1]
  have z6 : w4.frozen? ⟨w.heap.size, 6, none⟩ = false := by simp [World.frozen?, k1]
  have k1a := blkset k1 5 (.slice ao n cap)
  have k1b := blkset k1a 6 (.slice bo m cbp)
  have k2b : ((w4.setCell ⟨w.heap.size, 5, none⟩ (.slice ao n cap)).setCell ⟨w.heap.size, 6, none⟩ (.slice bo m cbp)).heap[w.heap.size + 1]? = _ := ((Below.heap_setCell _ ⟨w.heap.size, 6, none⟩ _ (w.heap.size + 1) (by show w.heap.size + 1 ≠ w.heap.size; omega)).trans (Below.heap_setCell w4 ⟨w.heap.size, 5, none⟩ _ (w.heap.size + 1) (by show w.heap.size + 1 ≠ w.heap.size; omega))).trans k2
  have hr4 : ((w4.setCell ⟨w.heap.size, 5, none⟩ (.slice ao n cap)).setCell ⟨w.heap.size, 6, none⟩ (.slice bo m cbp)).rangeAt w.heap.size 0 (AN.cs ⟨cl, nu, co, rc, ve, .slice ao n cap, .slice bo m cbp⟩) := range_of_block (t := 47) (by simpa [AN.cs] using k1b)
  obtain ⟨W8, hst, hb8, hf8⟩ := st_all (P := Tryz.prog) (ty := 47) [.int .u32 0, .int .u32 0, .int .u8 0, .int .u32 0, .int .u32 0, .slice none 0 0, .slice none 0 0] (AN.cs ⟨cl, nu, co, rc, ve, .slice ao n cap, .slice bo m cbp⟩) k2b rfl Tryz.sizeAn (AN.one _ rfl rfl)
  have hfb := (unhide HB).1
  have hss := (unhide HB).2.2.2
  have hfin : Fr (fun _ => False) w W8 := by
    refine (Fr.trans (S := fun _ => False) (((hfb.trans0 hf4').setCell (p := ⟨w.heap.size, 5, none⟩) (.inr (Nat.le_refl _)) _).setCell (p := ⟨w.heap.size, 6, none⟩) (.inr (Nat.le_refl _)) _) hf8 (fun k hk e => by omega))
  have hkeep : ∀ g, w.heap.size + 2 ≤ g → g < w4.heap.size → W8.heap[g]? = w4.heap[g]? := fun g hg hgl => by
    have g1 : g ≠ w.heap.size := by omega
    have g2 : g ≠ w.heap.size + 1 := by omega
    exact (hf8.block g (by simpa [World.setCell] using hgl) g2).trans ((Below.heap_setCell _ ⟨w.heap.size, 6, none⟩ _ g g1).trans (Below.heap_setCell w4 ⟨w.heap.size, 5, none⟩ _ g g1))
  have hF : W8.ownsRow w.heap.size 70 5 (.slice ao n cap) n cs := by
    have ho4 := ownsRow_of_blockS (unhide HO).1 (fun g hg => (unhide HP).2.1.block g ((unhide HO).1.lt g hg).2 (fun h => h))
    refine ownsRow_baseS (ownsRow_of_blockS ho4 (fun g hg => hkeep g (Nat.le_trans hss (ho4.lt g hg).1) (ho4.lt g hg).2)) hfb.size
  have hG : W8.ownsRow w.heap.size 119 4 (.slice bo m cbp) m ds := by
    have ho4 := (unhide HP).1
    have hs3 := (unhide HO).2.size
    refine ownsRow_baseS (ownsRow_of_blockS ho4 (fun g hg => hkeep g (by have := (ho4.lt g hg).1; omega) (ho4.lt g hg).2)) (Nat.le_trans hfb.size (unhide HO).2.size)
  have HR := hide hr4
  have HST := hide hst
  have HF := hide (And.intro hb8 (And.intro hfin (And.intro hF hG)))
  clear hr4 hst hb8 hf8 hfin hF hG hkeep k1a k1b k2b k1 k2 hfb hss hf3' hf4' hHeld HX HK HB HS HO HP
  simp only [lastQS]
  go_simp
  go_wp2_with (first | refine wpList_load_mid rfl 47 (.tmp 1) rfl w.heap.size 0 rfl _ _ (unhide HR) Tryz.underlying47 rfl Tryz.sizeAn ?_ | refine wpList_stN rfl 47 (.tmp 2) (.tmp 11) rfl _ _ rfl rfl (unhide HST) ?_)
  refine bodyPost_ret (results_cell_mid rfl _ _ (w.heap.size + 1) 0 _ _ rfl (range_of_block (t := 47) (unhide HF).1) Tryz.underlying47 rfl Tryz.sizeAn) rfl ?_
  exact ⟨_, _, rfl, (unhide HF).2.2.1, (unhide HF).2.2.2, (unhide HF).2.1⟩
end Go.Proofs.YtjkkonhhnmjcaaaGreatDoor

namespace Go.Proofs.YtjkkonhhnmjcaaaGreatDoor
open Go.RowKit Go.Maps

theorem ownsMap_tight {H : Type} {w : World} {P : Program} {k : TypeId} {R : Value → Option (DataW H × List MemPlace)} {b n : Nat} {D : DataW H} (h : w.ownsMap P k R b n D) : w.ownsMap P k R b (Maps.size D) D := by
  obtain ⟨es, clock, h1, F, hs, hD⟩ := h
  exact ⟨es, clock, h1, F, by rw [hD]; simp [Maps.size, length_sorted], hD⟩
theorem ownsMap_keep {H : Type} {w w' : World} {P : Program} {k : TypeId} {R : Value → Option (DataW H × List MemPlace)} {b n : Nat} {D : DataW H} (h : w.ownsMap P k R b n D) (hb : w'.heap[b]? = w.heap[b]?) : w'.ownsMap P k R b n D := by
  obtain ⟨es, clock, h1, F, hs, hD⟩ := h
  exact ⟨es, clock, hb.trans h1, F, hs, hD⟩
theorem ownsMap_blk {H : Type} {w : World} {P : Program} {k : TypeId} {R : Value → Option (DataW H × List MemPlace)} {b n : Nat} {D : DataW H} (h : w.ownsMap P k R b n D) : ∃ es clock, w.heap[b]? = some (.map es clock) := by
  obtain ⟨es, clock, h1, _⟩ := h
  exact ⟨es, clock, h1⟩
/-- What a map's datum says of the client c's numbers. -/
structure DR (D : DataW Value) (c : Nat) (f : Nat → Option Value) : Prop where
  has : ∀ c' k, c' < 4294967296 → k < 4294967296 → has D (kid c' k) = (decide (c' = c) && (f k).isSome)
  at_ : ∀ k v, k < 4294967296 → f k = some v → ∀ z, D.atKey (kid c k) z = .held v
/-- A map in memory: N entries, of the client c, number by number. -/
def MpR (w : World) (b c N : Nat) (f : Nat → Option Value) : Prop := ∃ D, w.ownsMap Tryz.prog 24 RU b N D ∧ Maps.size D = N ∧ DR D c f
theorem MpR.blk {w : World} {b c N : Nat} {f : Nat → Option Value} (h : MpR w b c N f) : ∃ es clock, w.heap[b]? = some (.map es clock) := by
  obtain ⟨D, h1, _⟩ := h
  exact ownsMap_blk h1
theorem MpR.keep {w w' : World} {b c N : Nat} {f : Nat → Option Value} (h : MpR w b c N f) (hb : w'.heap[b]? = w.heap[b]?) : MpR w' b c N f := by
  obtain ⟨D, h1, h2⟩ := h
  exact ⟨D, ownsMap_keep h1 hb, h2⟩
theorem MpR.made (w : World) (c : Nat) : MpR (w.alloc (.map #[] 0)) w.heap.size c 0 (fun _ => none) :=
  ⟨.map [], World.ownsMap_made w _ _ _, rfl, ⟨fun c' k _ _ => by simp [Maps.has], fun k v _ h => by cases h⟩⟩
theorem MpR.look_yes {w : World} {b c N : Nat} {f : Nat → Option Value} (h : MpR w b c N f) (hc : c < 4294967296) {t e : TypeId} (ht : Tryz.prog.underlying t = some (.map 24 e)) {z : Value} (hz : (zeroValue e).run Tryz.prog w = .ok z w) {k : Nat} (hk : k < 4294967296) {v : Value} (hv : f k = some v) :
    (Instr.lookup t (.map (some b)) (idv c k) true).run Tryz.prog w = .ok (.tuple #[v, .bool true]) w ∧ (Instr.lookup t (.map (some b)) (idv c k) false).run Tryz.prog w = .ok v w := by
  obtain ⟨D, h1, _, h3⟩ := h
  obtain ⟨x, ps, hr, hx⟩ := h1.look_ok idK ht hz (zd := .held z) (zp := []) rfl (key_id c k hc hk)
  obtain ⟨y, qs, hr2, hy⟩ := h1.lookup idK ht hz (zd := .held z) (zp := []) rfl (key_id c k hc hk)
  rw [h3.at_ k v hk hv] at hx hy
  simp only [RU, Option.some.injEq, Prod.mk.injEq, DataW.held.injEq] at hx hy
  rw [hx.1, h3.has c k hc hk, hv] at hr
  rw [hy.1] at hr2
  exact ⟨by simpa using hr, hr2⟩
theorem MpR.look_no {w : World} {b c N : Nat} {f : Nat → Option Value} (h : MpR w b c N f) {t e : TypeId} (ht : Tryz.prog.underlying t = some (.map 24 e)) {z : Value} (hz : (zeroValue e).run Tryz.prog w = .ok z w) {c' k : Nat} (hc : c' < 4294967296) (hk : k < 4294967296) (hv : c' = c → f k = none) :
    (Instr.lookup t (.map (some b)) (idv c' k) true).run Tryz.prog w = .ok (.tuple #[z, .bool false]) w ∧ (Instr.lookup t (.map (some b)) (idv c' k) false).run Tryz.prog w = .ok z w := by
  obtain ⟨D, h1, _, h3⟩ := h
  have hh : has D (kid c' k) = false := by
    rw [h3.has c' k hc hk]
    by_cases e : c' = c
    · simp [hv e]
    · simp [e]
  obtain ⟨x, ps, hr, hx⟩ := h1.look_ok idK ht hz (zd := .held z) (zp := []) rfl (key_id c' k hc hk)
  obtain ⟨y, qs, hr2, hy⟩ := h1.lookup idK ht hz (zd := .held z) (zp := []) rfl (key_id c' k hc hk)
  rw [atKey_of_not_has hh] at hx hy
  simp only [RU, Option.some.injEq, Prod.mk.injEq, DataW.held.injEq] at hx hy
  rw [hx.1, hh] at hr
  rw [hy.1] at hr2
  exact ⟨hr, hr2⟩
theorem MpR.len {w : World} {b c N : Nat} {f : Nat → Option Value} (h : MpR w b c N f) {t e : TypeId} (ht : Tryz.prog.underlying t = some (.map 24 e)) (ty : TypeId) : (Builtin.len_ #[t] ty #[.map (some b)]).run Tryz.prog w = .ok (.int .i64 (N : Nat)) w := by
  obtain ⟨D, h1, h2, h3⟩ := h
  rw [h1.len ht ty, h2]
theorem MpR.put {w : World} {b c N : Nat} {f : Nat → Option Value} (h : MpR w b c N f) (hc : c < 4294967296) (hN : N ≤ 1048576) {t e : TypeId} (ht : Tryz.prog.underlying t = some (.map 24 e)) {k : Nat} (hk : k < 4294967296) (v : Value) :
    ∃ w', (Instr.mapUpdate t (.map (some b)) (idv c k) v).run Tryz.prog w = .ok () w' ∧ MpR w' b c (if (f k).isSome then N else N + 1) (fun j => if j = k then some v else f j) ∧ Fr (fun g => g = b) w w' := by
  obtain ⟨D, h1, h2, h3⟩ := h
  obtain ⟨w', hr, h4, h5⟩ := h1.update idK ht (by simp only [maxLen]; omega) (key_id c k hc hk) (show RU v = some (.held v, []) from rfl)
  have hI := h1.isMap
  have hs : Maps.size (D.put (kid c k) (.held v)) = if (f k).isSome then N else N + 1 := by
    rw [size_put (h1.tidy idK), h3.has c k hc hk, h2]
    simp
  refine ⟨w', hr, ⟨_, by rw [← hs]; exact ownsMap_tight h4, hs, ⟨fun c' j hc' hj => ?_, fun j u hj hu z => ?_⟩⟩, (Fr.refl _ _).grown h5 (fun g hg => .inl (by cases hg; rfl))⟩
  · by_cases e : kid c' j = kid c k
    · obtain ⟨rfl, rfl⟩ := kid_inj hc' hj hc hk e
      rw [has_put_same hI (kid_key _ _)]
      simp
    · rw [has_put_other e, h3.has c' j hc' hj]
      by_cases e2 : j = k
      · subst e2
        have : c' ≠ c := fun e3 => e (by rw [e3])
        simp [this]
      · simp [e2]
  · by_cases e : j = k
    · subst e
      simp at hu
      subst hu
      exact atKey_put_same hI (kid_key _ _) _ _
    · rw [atKey_put_other (fun e2 => e (kid_inj hc hj hc hk e2).2)]
      simp [e] at hu
      exact h3.at_ j u hj hu z
theorem MpR.del {w : World} {b c N : Nat} {f : Nat → Option Value} (h : MpR w b c N f) (hc : c < 4294967296) {t e : TypeId} (ht : Tryz.prog.underlying t = some (.map 24 e)) {k : Nat} (hk : k < 4294967296) (hf : (f k).isSome = true) (ty : TypeId) :
    ∃ w', (Builtin.delete_ #[t, 24] ty #[.map (some b), idv c k]).run Tryz.prog w = .ok (.tuple #[]) w' ∧ MpR w' b c (N - 1) (fun j => if j = k then none else f j) ∧ Fr (fun g => g = b) w w' := by
  obtain ⟨D, h1, h2, h3⟩ := h
  obtain ⟨w', hr, h4, h5⟩ := h1.drop idK ht (key_id c k hc hk) ty
  have hs : Maps.size (D.del (kid c k)) = N - 1 := by
    have := size_del (k := kid c k) (h1.tidy idK)
    rw [h3.has c k hc hk, h2] at this
    simp [hf] at this
    omega
  refine ⟨w', hr, ⟨_, by rw [← hs]; exact ownsMap_tight h4, hs, ⟨fun c' j hc' hj => ?_, fun j u hj hu z => ?_⟩⟩, (Fr.refl _ _).grown h5.grown (fun g hg => .inl (by cases hg; rfl))⟩
  · by_cases e : kid c' j = kid c k
    · obtain ⟨rfl, rfl⟩ := kid_inj hc' hj hc hk e
      rw [has_del_same]
      simp
    · rw [has_del_other e, h3.has c' j hc' hj]
      by_cases e2 : j = k
      · subst e2
        have : c' ≠ c := fun e3 => e (by rw [e3])
        simp [this]
      · simp [e2]
  · by_cases e : j = k
    · subst e
      simp at hu
    · rw [atKey_del_other (fun e2 => e (kid_inj hc hj hc hk e2).2)]
      simp [e] at hu
      exact h3.at_ j u hj hu z
end Go.Proofs.YtjkkonhhnmjcaaaGreatDoor

namespace Go.Proofs.YtjkkonhhnmjcaaaGreatDoor
open Go.RowKit Go.Maps

/-- An answer that was taken, with what its lists hold. -/
structure AD where
  a : AN
  F : List F5
  H : List SM
/-- A request that was called: what its list holds, the last refusal, how many, its answer. -/
structure SC where
  r : RQ
  F : List F5
  la : Int
  n : Nat
  d : Option AD
def SC.cs (q : SC) : List Value := q.r.cs ++ [.int .i64 q.la, .int .i64 (q.n : Nat)]
def SC.v (q : SC) : Value := .agg q.cs.toArray
/-- What the two maps hold. -/
def fW (cs : List SC) (k : Nat) : Option Value := if k = 0 then none else cs[k - 1]?.bind fun q => match q.d with
  | none => some q.v
  | some _ => none
def fA (cs : List SC) (k : Nat) : Option Value := if k = 0 then none else cs[k - 1]?.bind fun q => q.d.map fun x => x.a.v
def nW (cs : List SC) : Nat := cs.countP fun q => q.d.isNone
def nA (cs : List SC) : Nat := cs.countP fun q => q.d.isSome
theorem nWA (cs : List SC) : nW cs + nA cs = cs.length := by
  induction cs with
  | nil => rfl
  | cons q r ih =>
    simp only [nW, nA, List.countP_cons, List.length_cons] at *
    cases q.d <;> simp <;> omega
theorem fW_at {cs : List SC} {i : Nat} {q : SC} (h : cs[i]? = some q) (hd : q.d = none) : fW cs (i + 1) = some q.v := by
  simp [fW, h, hd]
theorem fW_dn {cs : List SC} {i : Nat} {q : SC} {x : AD} (h : cs[i]? = some q) (hd : q.d = some x) : fW cs (i + 1) = none := by
  simp [fW, h, hd]
theorem fA_at {cs : List SC} {i : Nat} {q : SC} {x : AD} (h : cs[i]? = some q) (hd : q.d = some x) : fA cs (i + 1) = some x.a.v := by
  simp [fA, h, hd]
theorem fA_wt {cs : List SC} {i : Nat} {q : SC} (h : cs[i]? = some q) (hd : q.d = none) : fA cs (i + 1) = none := by
  simp [fA, h, hd]
theorem fW_no {cs : List SC} {k : Nat} (h : k = 0 ∨ cs.length < k) : fW cs k = none := by
  rcases h with rfl | h
  · rfl
  · have : cs[k - 1]? = none := List.getElem?_eq_none (by omega)
    simp [fW, this]
theorem fA_no {cs : List SC} {k : Nat} (h : k = 0 ∨ cs.length < k) : fA cs k = none := by
  rcases h with rfl | h
  · rfl
  · have : cs[k - 1]? = none := List.getElem?_eq_none (by omega)
    simp [fA, this]
theorem fW_put (cs : List SC) (q : SC) (hq : q.d = none) : fW (cs ++ [q]) = fun j => if j = cs.length + 1 then some q.v else fW cs j := by
  funext j
  by_cases e : j = cs.length + 1
  · subst e
    simp [fW, hq]
  · rw [if_neg e]
    unfold fW
    by_cases h0 : j = 0
    · simp [h0]
    · rw [if_neg h0, if_neg h0]
      by_cases hl : j - 1 < cs.length
      · rw [List.getElem?_append_left hl]
      · rw [List.getElem?_eq_none (by simp; omega), List.getElem?_eq_none (by omega)]
theorem fA_put (cs : List SC) (q : SC) (hq : q.d = none) : fA (cs ++ [q]) = fA cs := by
  funext j
  unfold fA
  by_cases h0 : j = 0
  · simp [h0]
  · rw [if_neg h0, if_neg h0]
    by_cases hl : j - 1 < cs.length
    · rw [List.getElem?_append_left hl]
    · rw [List.getElem?_eq_none (l := cs) (by omega)]
      by_cases e : j - 1 = cs.length
      · rw [e]; simp [hq]
      · rw [List.getElem?_eq_none (by simp; omega)]
theorem fW_set (cs : List SC) (i : Nat) (q : SC) (hi : i < cs.length) : fW (cs.set i q) = fun j => if j = i + 1 then (match q.d with | none => some q.v | some _ => none) else fW cs j := by
  funext j
  by_cases e : j = i + 1
  · subst e
    simp [fW, hi]
  · rw [if_neg e]
    unfold fW
    by_cases h0 : j = 0
    · simp [h0]
    · rw [if_neg h0, if_neg h0, List.getElem?_set_ne (by omega)]
theorem fA_set (cs : List SC) (i : Nat) (q : SC) (hi : i < cs.length) : fA (cs.set i q) = fun j => if j = i + 1 then (q.d.map fun x => x.a.v) else fA cs j := by
  funext j
  by_cases e : j = i + 1
  · subst e
    simp [fA, hi]
  · rw [if_neg e]
    unfold fA
    by_cases h0 : j = 0
    · simp [h0]
    · rw [if_neg h0, if_neg h0, List.getElem?_set_ne (by omega)]
theorem nA_put (cs : List SC) (q : SC) (hq : q.d = none) : nA (cs ++ [q]) = nA cs ∧ nW (cs ++ [q]) = nW cs + 1 := by
  simp [nA, nW, hq, List.countP_append]
theorem nA_set : ∀ (cs : List SC) (i : Nat) (p q : SC), cs[i]? = some p → p.d = none → q.d.isSome = true → nA (cs.set i q) = nA cs + 1 ∧ nW (cs.set i q) + 1 = nW cs
  | [], i, p, q, h, _, _ => by simp at h
  | x :: r, 0, p, q, h, hp, hq => by
    simp at h; subst h
    have : q.d.isNone = false := by cases hd : q.d <;> simp_all
    simp [nA, nW, hp, hq, this]
  | x :: r, i + 1, p, q, h, hp, hq => by
    have ih := nA_set r i p q (by simpa using h) hp hq
    simp only [nA, nW, List.set_cons_succ, List.countP_cons] at *
    omega
theorem nA_same : ∀ (cs : List SC) (i : Nat) (p q : SC), cs[i]? = some p → p.d = none → q.d = none → nA (cs.set i q) = nA cs ∧ nW (cs.set i q) = nW cs
  | [], i, p, q, h, _, _ => by simp at h
  | x :: r, 0, p, q, h, hp, hq => by
    simp at h; subst h
    simp [nA, nW, hp, hq]
  | x :: r, i + 1, p, q, h, hp, hq => by
    have ih := nA_same r i p q (by simpa using h) hp hq
    simp only [nA, nW, List.set_cons_succ, List.countP_cons] at *
    omega
/-- The numbers of the requests that wait. -/
def wl (cs : List SC) : List Nat := (List.range cs.length).filterMap fun j => if (cs[j]?.any fun q => q.d.isNone) then some (j + 1) else none
theorem wl_mem (cs : List SC) (k : Nat) : k ∈ wl cs ↔ (fW cs k).isSome = true := by
  unfold wl
  simp only [List.mem_filterMap, List.mem_range]
  constructor
  · rintro ⟨j, hj, h⟩
    split at h
    · rename_i hq
      cases h
      obtain ⟨q, hq1, hq2⟩ := (Option.any_eq_true _ _).1 hq
      rw [fW_at hq1 (by simpa using hq2)]
      rfl
    · cases h
  · intro h
    unfold fW at h
    split at h
    · cases h
    · rename_i h0
      cases hq : cs[k - 1]? with
      | none => rw [hq] at h; cases h
      | some q =>
        rw [hq] at h
        have hd : q.d = none := by
          cases hd : q.d with
          | none => rfl
          | some x => simp [hd] at h
        have hl := (List.getElem?_eq_some_iff.1 hq).1
        exact ⟨k - 1, hl, by rw [hq]; simp [hd]; omega⟩
theorem wl_rise (cs : List SC) : (wl cs).Pairwise (· < ·) := by
  unfold wl
  refine List.Pairwise.filterMap _ (R := fun a b : Nat => a < b) ?_ (List.pairwise_lt_range)
  intro a b hab c hc d hd
  split at hc
  · split at hd
    · cases hc; cases hd; omega
    · cases hd
  · cases hc
theorem wl_len (cs : List SC) : (wl cs).length ≤ cs.length := by
  unfold wl
  have := List.length_filterMap_le (fun j => if (cs[j]?.any fun q => q.d.isNone) then some (j + 1) else none) (List.range cs.length)
  simpa using this
/-- What lists of a request, of an answer lie in memory. -/
structure LsT (w : World) (T : Nat → Prop) (e z : Nat) (v : Value) (n : Nat) (xs : List Value) : Prop where
  o : w.ownsRow 0 e z v n xs
  t : ∀ g, v.ownBlock = some g → T g
  l : n ≤ 1048576
theorem LsT.fr {w w' : World} {T S : Nat → Prop} {e z n : Nat} {v : Value} {xs : List Value} (h : LsT w T e z v n xs) (hf : Fr S w w') (hS : ∀ g, T g → ¬ S g) : LsT w' T e z v n xs :=
  ⟨ownsRow_of_blockS h.o (fun g hg => hf.block g (h.o.lt g hg).2 (hS g (h.t g hg))), h.t, h.l⟩
theorem LsT.mono {w : World} {T T' : Nat → Prop} {e z n : Nat} {v : Value} {xs : List Value} (h : LsT w T e z v n xs) (hT : ∀ g, T g → T' g) : LsT w T' e z v n xs := ⟨h.o, fun g hg => hT g (h.t g hg), h.l⟩
/-- A request's lists, and its answer's. -/
structure QOk (w : World) (T : Nat → Prop) (q : SC) : Prop where
  wt : q.d = none → LsT w T 70 5 q.r.fv q.F.length (fcells q.F)
  an : ∀ x, q.d = some x → LsT w T 70 5 x.a.fv x.F.length (fcells x.F) ∧ LsT w T 119 4 x.a.hv x.H.length (scells x.H)
/-- A session in memory: its own blocks are d, mw, ma; all its blocks are among T. -/
structure SsAt (w : World) (d mw ma c : Nat) (cs : List SC) (dn : List Nat) (dv : Value) (T : Nat → Prop) : Prop where
  c16 : c < 16
  len : cs.length ≤ 4096
  blk : w.heap[d]? = some (.cells #[.int .u32 (c : Nat), .map (some mw), .map (some ma), dv] 59)
  wm : MpR w mw c (nW cs) (fW cs)
  am : MpR w ma c (nA cs) (fA cs)
  dn : LsT w T 24 2 dv dn.length (icells (dn.map fun k => (c, k)))
  qs : ∀ q ∈ cs, QOk w T q
  id : ∀ i q, cs[i]? = some q → q.r.cl = c ∧ q.r.nu = i + 1
  own : T d ∧ T mw ∧ T ma
  ap : mw ≠ ma
  lt : ∀ g, T g → g < w.heap.size
theorem SsAt.fr {w w' : World} {d mw ma c : Nat} {cs : List SC} {dn : List Nat} {dv : Value} {T S : Nat → Prop} (h : SsAt w d mw ma c cs dn dv T) (hf : Fr S w w') (hS : ∀ g, T g → ¬ S g) : SsAt w' d mw ma c cs dn dv T :=
  ⟨h.c16, h.len, (hf.block d (h.lt d h.own.1) (hS d h.own.1)).trans h.blk, h.wm.keep (hf.block mw (h.lt mw h.own.2.1) (hS mw h.own.2.1)), h.am.keep (hf.block ma (h.lt ma h.own.2.2) (hS ma h.own.2.2)),
    h.dn.fr hf hS, fun q hq => ⟨fun hd => ((h.qs q hq).wt hd).fr hf hS, fun x hx => ⟨((h.qs q hq).an x hx).1.fr hf hS, ((h.qs q hq).an x hx).2.fr hf hS⟩⟩, h.id, h.own, h.ap, fun g hg => Nat.lt_of_lt_of_le (h.lt g hg) hf.size⟩
theorem SsAt.fr0 {w w' : World} {d mw ma c : Nat} {cs : List SC} {dn : List Nat} {dv : Value} {T : Nat → Prop} (h : SsAt w d mw ma c cs dn dv T) (hf : Fr (fun _ => False) w w') : SsAt w' d mw ma c cs dn dv T := h.fr hf (fun _ _ h => h)
theorem SsAt.cells {w : World} {d mw ma c : Nat} {cs : List SC} {dn : List Nat} {dv : Value} {T : Nat → Prop} (h : SsAt w d mw ma c cs dn dv T) :
    w.cell? ⟨d, 0, none⟩ = some (.int .u32 (c : Nat)) ∧ w.cell? ⟨d, 1, none⟩ = some (.map (some mw)) ∧ w.cell? ⟨d, 2, none⟩ = some (.map (some ma)) ∧ w.cell? ⟨d, 3, none⟩ = some dv ∧ ∀ k, w.frozen? ⟨d, k, none⟩ = false := by
  refine ⟨?_, ?_, ?_, ?_, fun k => ?_⟩ <;> simp [World.cell?, World.frozen?, h.blk]
theorem SsAt.dm {w : World} {d mw ma c : Nat} {cs : List SC} {dn : List Nat} {dv : Value} {T : Nat → Prop} (h : SsAt w d mw ma c cs dn dv T) : d ≠ mw ∧ d ≠ ma := by
  obtain ⟨e1, c1, h1⟩ := h.wm.blk
  obtain ⟨e2, c2, h2⟩ := h.am.blk
  refine ⟨fun e => ?_, fun e => ?_⟩
  · rw [← e, h.blk] at h1; cases h1
  · rw [← e, h.blk] at h2; cases h2
/-- A block of a row is none of the session's own three. -/
theorem LsT.ne {w : World} {T : Nat → Prop} {e z n : Nat} {v : Value} {xs : List Value} (h : LsT w T e z v n xs) {d mw ma c : Nat} {cs : List SC} {dn : List Nat} {dv : Value} {T' : Nat → Prop} (hs : SsAt w d mw ma c cs dn dv T') (he : e ≠ 59) {g : Nat} (hg : v.ownBlock = some g) : g ≠ d ∧ g ≠ mw ∧ g ≠ ma := by
  obtain ⟨cur, hb⟩ := own_blk h.o hg
  obtain ⟨e1, c1, h1⟩ := hs.wm.blk
  obtain ⟨e2, c2, h2⟩ := hs.am.blk
  refine ⟨fun x => ?_, fun x => ?_, fun x => ?_⟩
  · rw [x, hs.blk] at hb; simp at hb; exact he hb.2.symm
  · rw [x, h1] at hb; cases hb
  · rw [x, h2] at hb; cases hb
end Go.Proofs.YtjkkonhhnmjcaaaGreatDoor

namespace Go.Proofs.YtjkkonhhnmjcaaaGreatDoor
open Go.RowKit Go.Maps Go.Sort Go.Shelf

/-- Blocks of one's own, made between two worlds. -/
def Nb (w w' : World) (g : Nat) : Prop := w.heap.size ≤ g ∧ g < w'.heap.size
set_option maxRecDepth 100000 in
/-- New. -/
theorem snew_in (c : Nat) (w : World) (h : c < 16) :
    Calls Tryz.prog 5 #[.int .u32 (c : Nat)] w fun e w' => ∃ d, e = .returned (.tuple #[.pointer (some ⟨d, 0, none⟩), .int .i64 0]) ∧ (∃ mw ma, SsAt w' d mw ma c [] [] (.slice none 0 0) (Nb w w')) ∧ Fr (fun _ => False) w w' := by
  have hm1 : ∀ w' : World, (Instr.makeMap 56 none).run Tryz.prog w' = .ok (.map (some w'.heap.size)) (w'.alloc (.map #[] 0)) := fun _ => rfl
  have hm2 : ∀ w' : World, (Instr.makeMap 57 none).run Tryz.prog w' = .ok (.map (some w'.heap.size)) (w'.alloc (.map #[] 0)) := fun _ => rfl
  have h1 : ¬ (c : Int) ≥ 16 := by omega
  have h2 : ¬ (16 : Int) ≤ (c : Int) := by omega
  have h3 : ¬ 16 ≤ c := by omega
  go_enter Tryz.func5, Tryz.ntmps5
  go_wp2
  go_ret2
  obtain ⟨w3, hw3⟩ : ∃ w3, ((w.alloc (.map #[] 0)).alloc (.map #[] 0)).alloc (.cells #[.int .u32 (c : Nat), .map (some w.heap.size), .map (some (w.heap.size + 1)), .slice none 0 0] 59) = w3 := ⟨_, rfl⟩
  have hs : w3.heap.size = w.heap.size + 3 := by rw [← hw3]; simp
  have hf : Fr (fun _ => False) w w3 := by rw [← hw3]; exact ((box1S w _).alloc _).alloc _
  have hb : w3.heap[w.heap.size + 2]? = some (.cells #[.int .u32 (c : Nat), .map (some w.heap.size), .map (some (w.heap.size + 1)), .slice none 0 0] 59) := by
    rw [← hw3]
    have := heap_alloc_new ((w.alloc (.map #[] 0)).alloc (.map #[] 0)) (.cells #[.int .u32 (c : Nat), .map (some w.heap.size), .map (some (w.heap.size + 1)), .slice none 0 0] 59)
    simpa using this
  have hk1 : MpR w3 w.heap.size c 0 (fun _ => none) := (MpR.made w c).keep (by rw [← hw3]; exact (Below.heap_alloc _ _ _ (by simp; omega)).trans (Below.heap_alloc _ _ _ (by simp)))
  have hk2 : MpR w3 (w.heap.size + 1) c 0 (fun _ => none) := by
    have := MpR.made (w.alloc (.map #[] 0)) c
    rw [World.size_alloc] at this
    exact this.keep (by rw [← hw3]; exact Below.heap_alloc _ _ _ (by simp))
  have e1 : fW [] = fun _ => none := by funext k; unfold fW; split <;> simp
  have e2 : fA [] = fun _ => none := by funext k; unfold fA; split <;> simp
  refine ⟨w.heap.size + 2, rfl, ?_, by rw [hw3]; exact hf⟩
  rw [hw3]
  exact ⟨w.heap.size, w.heap.size + 1, h, by simp, hb, by rw [e1]; exact hk1, by rw [e2]; exact hk2, ⟨World.ownsRow_nil _ _ _ _, fun g hg => (by cases hg), by simp⟩, fun q hq => (by simp at hq), fun i q hq => (by simp at hq), by unfold Nb; omega, by omega, fun g hg => hg.2⟩
set_option maxRecDepth 100000 in
theorem snew_no (c : Nat) (w : World) (h : 16 ≤ c) :
    Calls Tryz.prog 5 #[.int .u32 (c : Nat)] w fun e w' => e = .returned (.tuple #[.pointer none, .int .i64 1]) ∧ w' = w := by
  have h1 : (c : Int) ≥ 16 := by omega
  have h2 : (16 : Int) ≤ (c : Int) := by omega
  go_enter Tryz.func5, Tryz.ntmps5
  go_wp2
  go_ret2
  exact ⟨rfl, rfl⟩
theorem permI {cs : List SC} {c : Nat} {D : DataW Value} {ss : List (Nat × Nat)} (hA : AllI D ss) (hD : DR D c (fW cs)) (hc : c < 4294967296) (hl : cs.length < 4294967296) : ss.Perm ((wl cs).map fun k => (c, k)) := by
  have hkl : ∀ k ∈ wl cs, k < 4294967296 := fun k hk => by
    have := (wl_mem cs k).1 hk
    by_cases h : cs.length < k
    · rw [fW_no (.inr h)] at this; cases this
    · omega
  refine (List.perm_ext_iff_of_nodup hA.nd ?_).2 fun p => ?_
  · exact List.pairwise_map.2 ((wl_rise cs).imp fun h e => by simp at e; omega)
  · constructor
    · intro hp
      have hb := hA.lt p hp
      have h2 := (hA.mem p.1 p.2 hb.1 hb.2).1 hp
      rw [hD.has p.1 p.2 hb.1 hb.2, Bool.and_eq_true, decide_eq_true_eq] at h2
      exact List.mem_map.2 ⟨p.2, (wl_mem cs p.2).2 h2.2, by rw [← h2.1]⟩
    · intro hp
      obtain ⟨k, hk, rfl⟩ := List.mem_map.1 hp
      refine (hA.mem c k hc (hkl k hk)).2 ?_
      rw [hD.has c k hc (hkl k hk), (wl_mem cs k).1 hk]
      simp
theorem idsI {cs : List SC} {c : Nat} {ss : List (Nat × Nat)} (hp : ss.Perm ((wl cs).map fun k => (c, k))) (hs : ss.Pairwise (fun a b => a.2 ≤ b.2)) : ss = (wl cs).map fun k => (c, k) := by
  refine List.Perm.eq_of_pairwise (le := fun a b => a.2 ≤ b.2) (fun a b ha hb h1 h2 => ?_) hs (List.pairwise_map.2 ((wl_rise cs).imp fun h => by simp; omega)) hp
  obtain ⟨k, hk, rfl⟩ := List.mem_map.1 hb
  obtain ⟨k', hk', rfl⟩ := List.mem_map.1 (hp.mem_iff.1 ha)
  simp at h1 h2 ⊢
  omega
theorem keysC (mb : Option Nat) (w : World) : Calls Tryz.prog 29 #[.map mb] w fun e w' => e = .returned (.func (.func 48) #[] #[.pointer (some ⟨w.heap.size, 0, none⟩)]) ∧ w' = w.alloc (.cells #[.map mb] 56) :=
  callsIn_wide.1 (keysI Fence.wide wide_fn rfl 1 mb w)
set_option maxRecDepth 100000 in
/-- slices.SortedFunc of the keys. -/
theorem sortedI (d mw ma c : Nat) (cs : List SC) (dn : List Nat) (dv : Value) (T : Nat → Prop) (w : World) (h : SsAt w d mw ma c cs dn dv T) :
    Calls Tryz.prog 28 #[.func (.func 48) #[] #[.pointer (some ⟨w.heap.size, 0, none⟩)], .func (.func 30) #[] #[]] (w.alloc (.cells #[.map (some mw)] 56)) fun e w' => ∃ v, e = .returned v ∧ OwI w' w.heap.size v ((wl cs).map fun k => (c, k)) ∧ Fr (fun _ => False) w w' := by
  obtain ⟨D, hown, hsz, hD⟩ := h.wm
  have hbl := h.lt mw h.own.2.1
  have hn := nWA cs
  have hl := h.len
  have hc := h.c16
  have hseq : SeqGives Fence.wide 1 Tryz.prog 48 #[.pointer (some ⟨w.heap.size, 0, none⟩)] encI (AllI D) (Maps.size D) (w.alloc (.cells #[.map (some mw)] 56)) :=
    keysI_gives Fence.wide wide_fn rfl 1 (by omega) w.heap.size mw (nW cs) D _ (by simp) (by simp) (ownsMap_keep hown (Below.heap_alloc _ _ mw hbl))
  have HC := hide (collectI 48 #[.pointer (some ⟨w.heap.size, 0, none⟩)] (enters_of Tryz.func48 (by kernel_rfl) rfl) (AllI D) (Maps.size D) (by omega) _ hseq)
  have HD := hide (And.intro hD (And.intro hsz (And.intro hn (And.intro hl hc))))
  clear hown hsz hD hbl hseq hn hl hc h
  go_enter Tryz.func28, Tryz.ntmps28
  go_wp2_with fail
  refine (unhide HC).mono ?_
  rintro e w1 ⟨v, ss, rfl, hS, hrow, hb⟩
  obtain ⟨ao, cap, rfl⟩ := own_formX hrow
  have hpm := permI hS (unhide HD).1 (by have := (unhide HD).2.2.2.2; omega) (by have := (unhide HD).2.2.2.1; omega)
  have hll : ss.length ≤ 1048576 := by
    have h1 := hpm.length_eq
    have h2 := wl_len cs
    have h3 := (unhide HD).2.2.2.1
    simp at h1
    omega
  have HR := hide (And.intro hpm (And.intro hrow hb))
  have HX := hide (sortI_any w1 _ ss ao cap hrow hll)
  clear hS hrow hb hll hpm
  go_wp2_with fail
  refine (unhide HX).mono ?_
  rintro e w2 ⟨rfl, L', hp, hs, hrow2, hf2⟩
  have HY := hide (And.intro hp (And.intro hs (And.intro hrow2 hf2)))
  clear hp hs hrow2 hf2
  go_wp2_with fail
  go_ret
  have e := idsI ((unhide HY).1.trans (unhide HR).1) (unhide HY).2.1
  have hb := (unhide HR).2.2
  have hr2 := (unhide HY).2.2.1
  rw [e] at hr2
  refine ⟨_, rfl, ownsRow_baseS hr2 (by simp), ?_⟩
  refine ((box1S w _).trans0 (Fr.of_below hb)).trans (unhide HY).2.2.2 (fun g hg hx => ?_)
  have := ((unhide HR).2.1.lt g hx).1
  simp at this
  omega
set_option maxRecDepth 100000 in
/-- Waiting. -/
theorem swaiting_any (d mw ma c : Nat) (cs : List SC) (dn : List Nat) (dv : Value) (T : Nat → Prop) (w : World) (h : SsAt w d mw ma c cs dn dv T) :
    Calls Tryz.prog 19 #[.pointer (some ⟨d, 0, none⟩)] w fun e w' => ∃ v, e = .returned v ∧ OwI w' w.heap.size v ((wl cs).map fun k => (c, k)) ∧ Fr (fun _ => False) w w' := by
  have c1 := h.cells.2.1
  have HS := hide (sortedI d mw ma c cs dn dv T w h)
  clear h
  go_enter Tryz.func19, Tryz.ntmps19
  go_wp2_with fail
  refine (keysC _ _).mono ?_
  rintro e w1 ⟨rfl, rfl⟩
  go_wp2_with fail
  refine (unhide HS).mono ?_
  rintro e w2 ⟨v, rfl, hrow, hf⟩
  go_wp2_with fail
  go_ret
  exact ⟨_, rfl, hrow, hf⟩
set_option maxRecDepth 100000 in
/-- Done. -/
theorem sdone_any (d mw ma c : Nat) (cs : List SC) (dn : List Nat) (dv : Value) (T : Nat → Prop) (w : World) (h : SsAt w d mw ma c cs dn dv T) :
    Calls Tryz.prog 13 #[.pointer (some ⟨d, 0, none⟩)] w fun e w' => ∃ v, e = .returned v ∧ OwI w' w.heap.size v (dn.map fun k => (c, k)) ∧ Fr (fun _ => False) w w' := by
  have c3 := h.cells.2.2.2.1
  have HC := hide (cloneId dv dn.length (icells (dn.map fun k => (c, k))) w (own_rd h.dn.o (fun u hu => by
    simp only [icells, List.mem_flatMap] at hu
    obtain ⟨p, _, hu⟩ := hu
    simp at hu
    rcases hu with rfl | rfl <;> rfl)) h.dn.l)
  clear h
  go_enter Tryz.func13, Tryz.ntmps13
  go_wp2_with fail
  refine (unhide HC).mono ?_
  rintro e w2 ⟨v, rfl, hrow, hf⟩
  go_wp2_with fail
  go_ret
  exact ⟨_, rfl, by unfold OwI; rw [List.length_map]; exact hrow, hf⟩
end Go.Proofs.YtjkkonhhnmjcaaaGreatDoor

namespace Go.Proofs.YtjkkonhhnmjcaaaGreatDoor
open Go.RowKit Go.Maps

theorem cell_of_blkS {w : World} {b t o : Nat} {cs : Array Value} {v : Value} (h : w.heap[b]? = some (.cells cs t)) (hv : cs[o]? = some v) : w.cell? ⟨b, o, none⟩ = some v := by
  simp [World.cell?, h, hv]
theorem frz_of_blk {w : World} {b t o : Nat} {cs : Array Value} (h : w.heap[b]? = some (.cells cs t)) : w.frozen? ⟨b, o, none⟩ = false := by
  simp [World.frozen?, h]
end Go.Proofs.YtjkkonhhnmjcaaaGreatDoor

namespace Go.Proofs.YtjkkonhhnmjcaaaGreatDoor
open Go.RowKit Go.Maps

theorem SC.one {w : World} {T : Nat → Prop} {q : SC} (h : QOk w T q) (hd : q.d = none) : ∀ v ∈ q.cs, v.oneCell' = true := by
  intro v hv
  rcases List.mem_append.1 hv with h1 | h1
  · exact RQ.one q.r (own_one (h.wt hd).o) v h1
  · simp at h1
    rcases h1 with rfl | rfl <;> rfl
theorem SsAt.look_w {w : World} {d mw ma c : Nat} {cs : List SC} {dn : List Nat} {dv : Value} {T : Nat → Prop} (h : SsAt w d mw ma c cs dn dv T) {i : Nat} {q : SC} (hq : cs[i]? = some q) (hd : q.d = none) :
    ∀ W', Fr (fun _ => False) w W' → (Instr.lookup 56 (.map (some mw)) (.agg #[.int .u32 (c : Nat), .int .u32 ((i + 1 : Nat) : Int)]) true).run Tryz.prog W' = .ok (.tuple #[.agg q.cs.toArray, .bool true]) W' ∧ (Instr.lookup 56 (.map (some mw)) (.agg #[.int .u32 (c : Nat), .int .u32 ((i + 1 : Nat) : Int)]) false).run Tryz.prog W' = .ok (.agg q.cs.toArray) W' := fun W' hf => by
  have hl := (List.getElem?_eq_some_iff.1 hq).1
  have hcl := h.len
  have hc := h.c16
  exact (h.fr0 hf).wm.look_yes (by omega) Tryz.underlying56 (Tryz.zeroValue62 W') (by omega) (fW_at hq hd)
theorem SsAt.look_wn {w : World} {d mw ma c : Nat} {cs : List SC} {dn : List Nat} {dv : Value} {T : Nat → Prop} (h : SsAt w d mw ma c cs dn dv T) {cl k : Nat} (hcl : cl < 4294967296) (hk : k < 4294967296) (hn : cl = c → fW cs k = none) :
    ∀ W', Fr (fun _ => False) w W' → (Instr.lookup 56 (.map (some mw)) (.agg #[.int .u32 (cl : Nat), .int .u32 (k : Nat)]) true).run Tryz.prog W' = .ok (.tuple #[.agg #[.int .u32 0, .int .u32 0, .int .u32 0, .int .u8 0, .int .u32 0, .int .u32 0, .int .u32 0, .int .u32 0, .slice none 0 0, .string ⟨#[]⟩, .int .i64 0, .int .i64 0], .bool false]) W' ∧ (Instr.lookup 56 (.map (some mw)) (.agg #[.int .u32 (cl : Nat), .int .u32 (k : Nat)]) false).run Tryz.prog W' = .ok (.agg #[.int .u32 0, .int .u32 0, .int .u32 0, .int .u8 0, .int .u32 0, .int .u32 0, .int .u32 0, .int .u32 0, .slice none 0 0, .string ⟨#[]⟩, .int .i64 0, .int .i64 0]) W' := fun W' hf =>
  (h.fr0 hf).wm.look_no Tryz.underlying56 (Tryz.zeroValue62 W') hcl hk hn
theorem SsAt.look_a {w : World} {d mw ma c : Nat} {cs : List SC} {dn : List Nat} {dv : Value} {T : Nat → Prop} (h : SsAt w d mw ma c cs dn dv T) {i : Nat} {q : SC} {x : AD} (hq : cs[i]? = some q) (hd : q.d = some x) :
    ∀ W', Fr (fun _ => False) w W' → (Instr.lookup 57 (.map (some ma)) (.agg #[.int .u32 (c : Nat), .int .u32 ((i + 1 : Nat) : Int)]) true).run Tryz.prog W' = .ok (.tuple #[.agg x.a.cs.toArray, .bool true]) W' := fun W' hf => by
  have hl := (List.getElem?_eq_some_iff.1 hq).1
  have hcl := h.len
  have hc := h.c16
  exact ((h.fr0 hf).am.look_yes (by omega) Tryz.underlying57 (Tryz.zeroValue47 W') (by omega) (fA_at hq hd)).1
theorem SsAt.look_an {w : World} {d mw ma c : Nat} {cs : List SC} {dn : List Nat} {dv : Value} {T : Nat → Prop} (h : SsAt w d mw ma c cs dn dv T) {cl k : Nat} (hcl : cl < 4294967296) (hk : k < 4294967296) (hn : cl = c → fA cs k = none) :
    ∀ W', Fr (fun _ => False) w W' → (Instr.lookup 57 (.map (some ma)) (.agg #[.int .u32 (cl : Nat), .int .u32 (k : Nat)]) true).run Tryz.prog W' = .ok (.tuple #[.agg #[.int .u32 0, .int .u32 0, .int .u8 0, .int .u32 0, .int .u32 0, .slice none 0 0, .slice none 0 0], .bool false]) W' := fun W' hf =>
  ((h.fr0 hf).am.look_no Tryz.underlying57 (Tryz.zeroValue47 W') hcl hk hn).1
/-- A request that waits, refused once more. -/
theorem SsAt.busy {w w1 w2 : World} {d mw ma c : Nat} {cs : List SC} {dn : List Nat} {dv : Value} {T : Nat → Prop} (h : SsAt w d mw ma c cs dn dv T) (hf : Fr (fun _ => False) w w1) {i : Nat} {q q' : SC} (hq : cs[i]? = some q) (hd : q.d = none) (hr : q'.r = q.r) (hF : q'.F = q.F) (hd' : q'.d = none)
    (hm : MpR w2 mw c (nW cs) (fun j => if j = i + 1 then some q'.v else fW cs j)) (hf2 : Fr (fun g => g = mw) w1 w2) : SsAt w2 d mw ma c (cs.set i q') dn dv T := by
  have h1 := h.fr0 hf
  have hi := (List.getElem?_eq_some_iff.1 hq).1
  have hne := h1.dm
  have hn := nA_same cs i q q' hq hd hd'
  have hL : ∀ {e z n : Nat} {v : Value} {xs : List Value}, e ≠ 59 → LsT w1 T e z v n xs → LsT w2 T e z v n xs := fun he hl =>
    ⟨ownsRow_of_blockS hl.o (fun g hg => hf2.block g (hl.o.lt g hg).2 (fun e => ((hl.ne h1 he hg).2.1) e)), hl.t, hl.l⟩
  refine ⟨h.c16, by rw [List.length_set]; exact h.len, (hf2.block d (h1.lt d h1.own.1) hne.1).trans h1.blk, ?_, ?_, hL (by decide) h1.dn, fun x hx => ?_, fun j x hx => ?_, h.own, h.ap, fun g hg => Nat.lt_of_lt_of_le (h1.lt g hg) hf2.size⟩
  · rw [hn.2, fW_set cs i q' hi, hd']; exact hm
  · rw [hn.1, fA_set cs i q' hi, hd']
    have e : (fun j => if j = i + 1 then (Option.map (fun x : AD => x.a.v) none) else fA cs j) = fA cs := by
      funext j
      by_cases e : j = i + 1
      · subst e; rw [if_pos rfl, fA_wt hq hd]; rfl
      · rw [if_neg e]
    rw [e]
    exact h1.am.keep (hf2.block ma (h1.lt ma h1.own.2.2) (fun e => h.ap e.symm))
  · rcases List.mem_or_eq_of_mem_set hx with hx | rfl
    · exact ⟨fun e => hL (by decide) ((h1.qs x hx).wt e), fun y e => ⟨hL (by decide) ((h1.qs x hx).an y e).1, hL (by decide) ((h1.qs x hx).an y e).2⟩⟩
    · refine ⟨fun _ => ?_, fun y e => by rw [hd'] at e; cases e⟩
      rw [hr, hF]
      exact hL (by decide) ((h1.qs q (List.mem_of_getElem? hq)).wt hd)
  · by_cases e : i = j
    · subst e
      rw [List.getElem?_set_self hi] at hx
      cases hx
      rw [hr]
      exact h.id i q hq
    · rw [List.getElem?_set_ne e] at hx
      exact h.id j x hx
end Go.Proofs.YtjkkonhhnmjcaaaGreatDoor

namespace Go.Proofs.YtjkkonhhnmjcaaaGreatDoor
open Go.RowKit Go.Maps

theorem step_mu {P : Program} {w w' : World} {ops : Array Oper} {op : Oper} {a : Act} {K : Act → World → Prop} {Q : Exit → Act → World → Prop} {E : Prop} (hgd : op.guard = none) (t : TypeId) (m x y : Operand) (ho : op.op = .mapUpdate t m x y)
    (vm vx vy : Value) (hm : a.eval m = vm) (hx : a.eval x = vx) (hy : a.eval y = vy) (hr : (Instr.mapUpdate t vm vx vy).run P w = .ok () w')
    (h : K (a.put op.dst undef) w') : if Region.wanted op (yielded ops a.tmps) = true then Oper.wp P op a w K Q else E := by
  have hw : Region.wanted op (yielded ops a.tmps) = true := by simp [Region.wanted, hgd]
  rw [if_pos hw]
  unfold Oper.wp execOp
  simp only [ho, hm, hx, hy, Sem.run_bind, hr, Result.andThen_ok, Sem.run_pure]
  exact h
set_option maxRecDepth 100000 in
set_option maxHeartbeats 2000000 in
theorem stb_none (d mw ma cl nu : Nat) (y : Int)  (w : World) (c1 : w.cell? ⟨d, 1, none⟩ = some (.map (some mw))) (c2 : w.cell? ⟨d, 2, none⟩ = some (.map (some ma)))
    (hL : ∀ W', Fr (fun _ => False) w W' → (Instr.lookup 56 (.map (some mw)) (.agg #[.int .u32 (cl : Nat), .int .u32 (nu : Nat)]) true).run Tryz.prog W' = .ok (.tuple #[.agg [.int .u32 0, .int .u32 0, .int .u32 0, .int .u8 0, .int .u32 0, .int .u32 0, .int .u32 0, .int .u32 0, .slice none 0 0, .string ⟨#[]⟩, .int .i64 0, .int .i64 0].toArray, .bool false]) W') (hM : ∀ W', Fr (fun _ => False) w W' → (Instr.lookup 57 (.map (some ma)) (.agg #[.int .u32 (cl : Nat), .int .u32 (nu : Nat)]) true).run Tryz.prog W' = .ok (.tuple #[.agg [.int .u32 0, .int .u32 0, .int .u8 0, .int .u32 0, .int .u32 0, .slice none 0 0, .slice none 0 0].toArray, .bool false]) W') :
    Calls Tryz.prog 21 #[.pointer (some ⟨d, 0, none⟩), .agg #[.int .u32 (cl : Nat), .int .u32 (nu : Nat)], .int .i64 y] w fun e w' => e = .returned (.int .i64 15) ∧ Fr (fun _ => False) w w' := by
  have hd : d < w.heap.size := lt_of_cell c1
  have HS : Hid (∀ W', Fr (fun _ => False) (w.alloc (.cells #[.int .u32 (cl : Nat), .int .u32 (nu : Nat)] 24)) W' → (W'.cell? ⟨d, 1, none⟩ = some (.map (some mw)) ∧ W'.cell? ⟨d, 2, none⟩ = some (.map (some ma))) ∧ W'.cell? ⟨w.heap.size, 0, none⟩ = some (.int .u32 (cl : Nat)) ∧ W'.cell? ⟨w.heap.size, 1, none⟩ = some (.int .u32 (nu : Nat)) ∧ Fr (fun _ => False) w W') := hide (fun W' hf => by
    have hb : W'.heap[w.heap.size]? = some (.cells #[.int .u32 (cl : Nat), .int .u32 (nu : Nat)] 24) := (hf.block _ (by simp) (fun h => h)).trans (heap_alloc_new w _)
    exact ⟨⟨((box1S w _).trans0 hf).cell (p := ⟨d, 1, none⟩) hd (fun h => h) |>.trans c1, ((box1S w _).trans0 hf).cell (p := ⟨d, 2, none⟩) hd (fun h => h) |>.trans c2⟩, cell_of_blkS hb rfl, cell_of_blkS hb rfl, (box1S w _).trans0 hf⟩)
  have HL := hide hL
  have HM := hide hM
  clear hL hM c1 c2
  go_enter Tryz.func21, Tryz.ntmps21
  go_wp2_with fail
  obtain ⟨W1, hW1⟩ : ∃ W1, w.alloc (.cells #[.int .u32 (cl : Nat), .int .u32 (nu : Nat)] 24) = W1 := ⟨_, rfl⟩
  have hf1 : Fr (fun _ => False) w W1 := by rw [← hW1]; exact box1S w _
  rw [hW1] at HS
  rw [hW1]
  clear hW1
  have HSW : Hid (∀ W', Fr (fun _ => False) W1 W' → (W'.cell? ⟨d, 1, none⟩ = some (.map (some mw)) ∧ W'.cell? ⟨w.heap.size, 0, none⟩ = some (.int .u32 (cl : Nat)) ∧ W'.cell? ⟨w.heap.size, 1, none⟩ = some (.int .u32 (nu : Nat)) ∧ (Instr.lookup 56 (.map (some mw)) (.agg #[.int .u32 (cl : Nat), .int .u32 (nu : Nat)]) true).run Tryz.prog W' = .ok (.tuple #[.agg [.int .u32 0, .int .u32 0, .int .u32 0, .int .u8 0, .int .u32 0, .int .u32 0, .int .u32 0, .int .u32 0, .slice none 0 0, .string ⟨#[]⟩, .int .i64 0, .int .i64 0].toArray, .bool false]) W')) := hide (fun W' hf => ⟨((unhide HS) W' hf).1.1, ((unhide HS) W' hf).2.1, ((unhide HS) W' hf).2.2.1, (unhide HL) W' ((unhide HS) W' hf).2.2.2⟩)
  have HSA : Hid (∀ W', Fr (fun _ => False) W1 W' → (W'.cell? ⟨d, 2, none⟩ = some (.map (some ma)) ∧ W'.cell? ⟨w.heap.size, 0, none⟩ = some (.int .u32 (cl : Nat)) ∧ W'.cell? ⟨w.heap.size, 1, none⟩ = some (.int .u32 (nu : Nat)) ∧ (Instr.lookup 57 (.map (some ma)) (.agg #[.int .u32 (cl : Nat), .int .u32 (nu : Nat)]) true).run Tryz.prog W' = .ok (.tuple #[.agg [.int .u32 0, .int .u32 0, .int .u8 0, .int .u32 0, .int .u32 0, .slice none 0 0, .slice none 0 0].toArray, .bool false]) W')) := hide (fun W' hf => ⟨((unhide HS) W' hf).1.2, ((unhide HS) W' hf).2.1, ((unhide HS) W' hf).2.2.1, (unhide HM) W' ((unhide HS) W' hf).2.2.2⟩)
  refine wp_region_held_drew (S := (fun W => W.cell? ⟨d, 1, none⟩ = some (.map (some mw)) ∧ W.cell? ⟨w.heap.size, 0, none⟩ = some (.int .u32 (cl : Nat)) ∧ W.cell? ⟨w.heap.size, 1, none⟩ = some (.int .u32 (nu : Nat)) ∧ (Instr.lookup 56 (.map (some mw)) (.agg #[.int .u32 (cl : Nat), .int .u32 (nu : Nat)]) true).run Tryz.prog W = .ok (.tuple #[.agg [.int .u32 0, .int .u32 0, .int .u32 0, .int .u8 0, .int .u32 0, .int .u32 0, .int .u32 0, .int .u32 0, .slice none 0 0, .string ⟨#[]⟩, .int .i64 0, .int .i64 0].toArray, .bool false]) W)) (by kernel_rfl) ((unhide HSW) _ (Fr.refl _ _).drew) (fun hHeld => ?_)
  refine wtk2S (i := 0) rfl hHeld ?_
  (try simp only [Act.put, nrmS])
  refine wtk2S (i := 1) rfl hHeld ?_
  (try simp only [Act.put, nrmS])
  refine wtk2S (i := 2) rfl hHeld ?_
  (try simp only [Act.put, nrmS])
  refine wtk2S (i := 3) rfl hHeld ?_
  (try simp only [Act.put, nrmS])
  refine wtk2S (i := 4) rfl hHeld ?_
  (try simp only [Act.put, nrmS])
  refine wtk2S (i := 5) rfl hHeld ?_
  (try simp only [Act.put, nrmS])
  refine wtk2S (i := 6) rfl hHeld ?_
  (try simp only [Act.put, nrmS])
  refine wtk2S (i := 7) rfl hHeld ?_
  (try simp only [Act.put, nrmS])
  refine wtk2S (i := 8) rfl hHeld ?_
  (try simp only [Act.put, nrmS])
  refine wpAnyH_ready (rs := [9]) (by kernel_rfl) (by simp) (AllReadyH.cons rfl (fun K hK => ?_) AllReadyH.nil)
  go_simp
  refine hK.out _ _ ((unhide HSW) _ ((Fr.refl _ _).drew.alloc _)) (fun hHeld => ?_)
  clear hK K
  (try simp only [Act.put, nrmS])
  have hb0 : (W1.drew.alloc (.cells [.int .u32 0, .int .u32 0, .int .u32 0, .int .u8 0, .int .u32 0, .int .u32 0, .int .u32 0, .int .u32 0, .slice none 0 0, .string ⟨#[]⟩, .int .i64 0, .int .i64 0].toArray 62)).heap[W1.heap.size]? = some (.cells [.int .u32 0, .int .u32 0, .int .u32 0, .int .u8 0, .int .u32 0, .int .u32 0, .int .u32 0, .int .u32 0, .slice none 0 0, .string ⟨#[]⟩, .int .i64 0, .int .i64 0].toArray 62) := heap_alloc_new W1.drew _
  obtain ⟨W8, hst, hb8, hf8⟩ := st_all (P := Tryz.prog) (ty := 62) [.int .u32 0, .int .u32 0, .int .u32 0, .int .u8 0, .int .u32 0, .int .u32 0, .int .u32 0, .int .u32 0, .slice none 0 0, .string ⟨#[]⟩, .int .i64 0, .int .i64 0] [.int .u32 0, .int .u32 0, .int .u32 0, .int .u8 0, .int .u32 0, .int .u32 0, .int .u32 0, .int .u32 0, .slice none 0 0, .string ⟨#[]⟩, .int .i64 0, .int .i64 0] hb0 rfl Tryz.sizeCa (List.all_eq_true.1 (show List.all ([.int .u32 0, .int .u32 0, .int .u32 0, .int .u8 0, .int .u32 0, .int .u32 0, .int .u32 0, .int .u32 0, .slice none 0 0, .string ⟨#[]⟩, .int .i64 0, .int .i64 0] : List Value) (fun v => v.oneCell') = true from rfl))
  have hf18 : Fr (fun _ => False) W1 W8 := ((Fr.refl _ _).drew.alloc _).trans hf8 (fun k hk e => by omega)
  have HF8 := hide hf18
  have HST := hide hst
  clear hst hb8 hf8 hf18 hb0
  refine wpAnyH_ready (rs := [10]) (by kernel_rfl) (by simp) (AllReadyH.cons rfl (fun K hK => ?_) AllReadyH.nil)
  refine step_stN rfl 62 (.tmp 7) (.tmp 18) rfl _ _ (by simp [Act.eval]) (by simp [Act.eval]) (unhide HST) ?_
  refine hK.out _ _ ((unhide HSW) _ (unhide HF8)) (fun hHeld => ?_)
  clear hK K
  (try simp only [Act.put, nrmS])
  refine wtk2S (i := 11) rfl hHeld ?_
  (try simp only [Act.put, nrmS])
  refine wpAnyH_done (by kernel_rfl) ?_ _
  clear hHeld HSW HST
  go_wp2_with fail
  refine wp_region_held_drew (S := (fun W => W.cell? ⟨d, 2, none⟩ = some (.map (some ma)) ∧ W.cell? ⟨w.heap.size, 0, none⟩ = some (.int .u32 (cl : Nat)) ∧ W.cell? ⟨w.heap.size, 1, none⟩ = some (.int .u32 (nu : Nat)) ∧ (Instr.lookup 57 (.map (some ma)) (.agg #[.int .u32 (cl : Nat), .int .u32 (nu : Nat)]) true).run Tryz.prog W = .ok (.tuple #[.agg [.int .u32 0, .int .u32 0, .int .u8 0, .int .u32 0, .int .u32 0, .slice none 0 0, .slice none 0 0].toArray, .bool false]) W)) (by kernel_rfl) ((unhide HSA) _ ((unhide HF8).drew)) (fun hHeld => ?_)
  refine wtk2S (i := 0) rfl hHeld ?_
  (try simp only [Act.put, nrmS])
  refine wtk2S (i := 1) rfl hHeld ?_
  (try simp only [Act.put, nrmS])
  refine wtk2S (i := 2) rfl hHeld ?_
  (try simp only [Act.put, nrmS])
  refine wtk2S (i := 3) rfl hHeld ?_
  (try simp only [Act.put, nrmS])
  refine wtk2S (i := 4) rfl hHeld ?_
  (try simp only [Act.put, nrmS])
  refine wtk2S (i := 5) rfl hHeld ?_
  (try simp only [Act.put, nrmS])
  refine wtk2S (i := 6) rfl hHeld ?_
  (try simp only [Act.put, nrmS])
  refine wtk2S (i := 7) rfl hHeld ?_
  (try simp only [Act.put, nrmS])
  refine wtk2S (i := 8) rfl hHeld ?_
  (try simp only [Act.put, nrmS])
  refine wpAnyH_ready (rs := [9]) (by kernel_rfl) (by simp) (AllReadyH.cons rfl (fun K hK => ?_) AllReadyH.nil)
  go_simp
  refine hK.out _ _ ((unhide HSA) _ ((unhide HF8).drew.alloc _)) (fun hHeld => ?_)
  clear hK K
  (try simp only [Act.put, nrmS])
  have hb0 : (W8.drew.alloc (.cells [.int .u32 0, .int .u32 0, .int .u8 0, .int .u32 0, .int .u32 0, .slice none 0 0, .slice none 0 0].toArray 47)).heap[W8.heap.size]? = some (.cells [.int .u32 0, .int .u32 0, .int .u8 0, .int .u32 0, .int .u32 0, .slice none 0 0, .slice none 0 0].toArray 47) := heap_alloc_new W8.drew _
  obtain ⟨W9, hst, hb9, hf9⟩ := st_all (P := Tryz.prog) (ty := 47) [.int .u32 0, .int .u32 0, .int .u8 0, .int .u32 0, .int .u32 0, .slice none 0 0, .slice none 0 0] [.int .u32 0, .int .u32 0, .int .u8 0, .int .u32 0, .int .u32 0, .slice none 0 0, .slice none 0 0] hb0 rfl Tryz.sizeAn (List.all_eq_true.1 (show List.all ([.int .u32 0, .int .u32 0, .int .u8 0, .int .u32 0, .int .u32 0, .slice none 0 0, .slice none 0 0] : List Value) (fun v => v.oneCell') = true from rfl))
  have hs18 := (unhide HF8).size
  have hf19 : Fr (fun _ => False) W1 W9 := ((unhide HF8).drew.alloc _).trans hf9 (fun k hk e => by omega)
  have HF9 := hide (And.intro (hf1.trans0 hf19) hf19)
  have HST := hide hst
  clear hst hb9 hf9 hf19 hb0 hs18
  refine wpAnyH_ready (rs := [10]) (by kernel_rfl) (by simp) (AllReadyH.cons rfl (fun K hK => ?_) AllReadyH.nil)
  refine step_stN rfl 47 (.tmp 9) (.tmp 40) rfl _ _ (by simp [Act.eval]) (by simp [Act.eval]) (unhide HST) ?_
  refine hK.out _ _ ((unhide HSA) _ (unhide HF9).2) (fun hHeld => ?_)
  clear hK K
  (try simp only [Act.put, nrmS])
  refine wtk2S (i := 11) rfl hHeld ?_
  (try simp only [Act.put, nrmS])
  refine wpAnyH_done (by kernel_rfl) ?_ _
  clear hHeld HSA HST
  go_wp2_with fail
  go_ret
  exact ⟨rfl, (unhide HF9).1⟩
set_option maxRecDepth 100000 in
set_option maxHeartbeats 2000000 in
theorem stb_done (d mw ma cl nu : Nat) (y : Int) (A : AN) (h7 : ∀ v ∈ A.cs, v.oneCell' = true) (w : World) (c1 : w.cell? ⟨d, 1, none⟩ = some (.map (some mw))) (c2 : w.cell? ⟨d, 2, none⟩ = some (.map (some ma)))
    (hL : ∀ W', Fr (fun _ => False) w W' → (Instr.lookup 56 (.map (some mw)) (.agg #[.int .u32 (cl : Nat), .int .u32 (nu : Nat)]) true).run Tryz.prog W' = .ok (.tuple #[.agg [.int .u32 0, .int .u32 0, .int .u32 0, .int .u8 0, .int .u32 0, .int .u32 0, .int .u32 0, .int .u32 0, .slice none 0 0, .string ⟨#[]⟩, .int .i64 0, .int .i64 0].toArray, .bool false]) W') (hM : ∀ W', Fr (fun _ => False) w W' → (Instr.lookup 57 (.map (some ma)) (.agg #[.int .u32 (cl : Nat), .int .u32 (nu : Nat)]) true).run Tryz.prog W' = .ok (.tuple #[.agg A.cs.toArray, .bool true]) W') :
    Calls Tryz.prog 21 #[.pointer (some ⟨d, 0, none⟩), .agg #[.int .u32 (cl : Nat), .int .u32 (nu : Nat)], .int .i64 y] w fun e w' => e = .returned (.int .i64 0) ∧ Fr (fun _ => False) w w' := by
  have hd : d < w.heap.size := lt_of_cell c1
  have HS : Hid (∀ W', Fr (fun _ => False) (w.alloc (.cells #[.int .u32 (cl : Nat), .int .u32 (nu : Nat)] 24)) W' → (W'.cell? ⟨d, 1, none⟩ = some (.map (some mw)) ∧ W'.cell? ⟨d, 2, none⟩ = some (.map (some ma))) ∧ W'.cell? ⟨w.heap.size, 0, none⟩ = some (.int .u32 (cl : Nat)) ∧ W'.cell? ⟨w.heap.size, 1, none⟩ = some (.int .u32 (nu : Nat)) ∧ Fr (fun _ => False) w W') := hide (fun W' hf => by
    have hb : W'.heap[w.heap.size]? = some (.cells #[.int .u32 (cl : Nat), .int .u32 (nu : Nat)] 24) := (hf.block _ (by simp) (fun h => h)).trans (heap_alloc_new w _)
    exact ⟨⟨((box1S w _).trans0 hf).cell (p := ⟨d, 1, none⟩) hd (fun h => h) |>.trans c1, ((box1S w _).trans0 hf).cell (p := ⟨d, 2, none⟩) hd (fun h => h) |>.trans c2⟩, cell_of_blkS hb rfl, cell_of_blkS hb rfl, (box1S w _).trans0 hf⟩)
  have HL := hide hL
  have HM := hide hM
  clear hL hM c1 c2
  go_enter Tryz.func21, Tryz.ntmps21
  go_wp2_with fail
  obtain ⟨W1, hW1⟩ : ∃ W1, w.alloc (.cells #[.int .u32 (cl : Nat), .int .u32 (nu : Nat)] 24) = W1 := ⟨_, rfl⟩
  have hf1 : Fr (fun _ => False) w W1 := by rw [← hW1]; exact box1S w _
  rw [hW1] at HS
  rw [hW1]
  clear hW1
  have HSW : Hid (∀ W', Fr (fun _ => False) W1 W' → (W'.cell? ⟨d, 1, none⟩ = some (.map (some mw)) ∧ W'.cell? ⟨w.heap.size, 0, none⟩ = some (.int .u32 (cl : Nat)) ∧ W'.cell? ⟨w.heap.size, 1, none⟩ = some (.int .u32 (nu : Nat)) ∧ (Instr.lookup 56 (.map (some mw)) (.agg #[.int .u32 (cl : Nat), .int .u32 (nu : Nat)]) true).run Tryz.prog W' = .ok (.tuple #[.agg [.int .u32 0, .int .u32 0, .int .u32 0, .int .u8 0, .int .u32 0, .int .u32 0, .int .u32 0, .int .u32 0, .slice none 0 0, .string ⟨#[]⟩, .int .i64 0, .int .i64 0].toArray, .bool false]) W')) := hide (fun W' hf => ⟨((unhide HS) W' hf).1.1, ((unhide HS) W' hf).2.1, ((unhide HS) W' hf).2.2.1, (unhide HL) W' ((unhide HS) W' hf).2.2.2⟩)
  have HSA : Hid (∀ W', Fr (fun _ => False) W1 W' → (W'.cell? ⟨d, 2, none⟩ = some (.map (some ma)) ∧ W'.cell? ⟨w.heap.size, 0, none⟩ = some (.int .u32 (cl : Nat)) ∧ W'.cell? ⟨w.heap.size, 1, none⟩ = some (.int .u32 (nu : Nat)) ∧ (Instr.lookup 57 (.map (some ma)) (.agg #[.int .u32 (cl : Nat), .int .u32 (nu : Nat)]) true).run Tryz.prog W' = .ok (.tuple #[.agg A.cs.toArray, .bool true]) W')) := hide (fun W' hf => ⟨((unhide HS) W' hf).1.2, ((unhide HS) W' hf).2.1, ((unhide HS) W' hf).2.2.1, (unhide HM) W' ((unhide HS) W' hf).2.2.2⟩)
  refine wp_region_held_drew (S := (fun W => W.cell? ⟨d, 1, none⟩ = some (.map (some mw)) ∧ W.cell? ⟨w.heap.size, 0, none⟩ = some (.int .u32 (cl : Nat)) ∧ W.cell? ⟨w.heap.size, 1, none⟩ = some (.int .u32 (nu : Nat)) ∧ (Instr.lookup 56 (.map (some mw)) (.agg #[.int .u32 (cl : Nat), .int .u32 (nu : Nat)]) true).run Tryz.prog W = .ok (.tuple #[.agg [.int .u32 0, .int .u32 0, .int .u32 0, .int .u8 0, .int .u32 0, .int .u32 0, .int .u32 0, .int .u32 0, .slice none 0 0, .string ⟨#[]⟩, .int .i64 0, .int .i64 0].toArray, .bool false]) W)) (by kernel_rfl) ((unhide HSW) _ (Fr.refl _ _).drew) (fun hHeld => ?_)
  refine wtk2S (i := 0) rfl hHeld ?_
  (try simp only [Act.put, nrmS])
  refine wtk2S (i := 1) rfl hHeld ?_
  (try simp only [Act.put, nrmS])
  refine wtk2S (i := 2) rfl hHeld ?_
  (try simp only [Act.put, nrmS])
  refine wtk2S (i := 3) rfl hHeld ?_
  (try simp only [Act.put, nrmS])
  refine wtk2S (i := 4) rfl hHeld ?_
  (try simp only [Act.put, nrmS])
  refine wtk2S (i := 5) rfl hHeld ?_
  (try simp only [Act.put, nrmS])
  refine wtk2S (i := 6) rfl hHeld ?_
  (try simp only [Act.put, nrmS])
  refine wtk2S (i := 7) rfl hHeld ?_
  (try simp only [Act.put, nrmS])
  refine wtk2S (i := 8) rfl hHeld ?_
  (try simp only [Act.put, nrmS])
  refine wpAnyH_ready (rs := [9]) (by kernel_rfl) (by simp) (AllReadyH.cons rfl (fun K hK => ?_) AllReadyH.nil)
  go_simp
  refine hK.out _ _ ((unhide HSW) _ ((Fr.refl _ _).drew.alloc _)) (fun hHeld => ?_)
  clear hK K
  (try simp only [Act.put, nrmS])
  have hb0 : (W1.drew.alloc (.cells [.int .u32 0, .int .u32 0, .int .u32 0, .int .u8 0, .int .u32 0, .int .u32 0, .int .u32 0, .int .u32 0, .slice none 0 0, .string ⟨#[]⟩, .int .i64 0, .int .i64 0].toArray 62)).heap[W1.heap.size]? = some (.cells [.int .u32 0, .int .u32 0, .int .u32 0, .int .u8 0, .int .u32 0, .int .u32 0, .int .u32 0, .int .u32 0, .slice none 0 0, .string ⟨#[]⟩, .int .i64 0, .int .i64 0].toArray 62) := heap_alloc_new W1.drew _
  obtain ⟨W8, hst, hb8, hf8⟩ := st_all (P := Tryz.prog) (ty := 62) [.int .u32 0, .int .u32 0, .int .u32 0, .int .u8 0, .int .u32 0, .int .u32 0, .int .u32 0, .int .u32 0, .slice none 0 0, .string ⟨#[]⟩, .int .i64 0, .int .i64 0] [.int .u32 0, .int .u32 0, .int .u32 0, .int .u8 0, .int .u32 0, .int .u32 0, .int .u32 0, .int .u32 0, .slice none 0 0, .string ⟨#[]⟩, .int .i64 0, .int .i64 0] hb0 rfl Tryz.sizeCa (List.all_eq_true.1 (show List.all ([.int .u32 0, .int .u32 0, .int .u32 0, .int .u8 0, .int .u32 0, .int .u32 0, .int .u32 0, .int .u32 0, .slice none 0 0, .string ⟨#[]⟩, .int .i64 0, .int .i64 0] : List Value) (fun v => v.oneCell') = true from rfl))
  have hf18 : Fr (fun _ => False) W1 W8 := ((Fr.refl _ _).drew.alloc _).trans hf8 (fun k hk e => by omega)
  have HF8 := hide hf18
  have HST := hide hst
  clear hst hb8 hf8 hf18 hb0
  refine wpAnyH_ready (rs := [10]) (by kernel_rfl) (by simp) (AllReadyH.cons rfl (fun K hK => ?_) AllReadyH.nil)
  refine step_stN rfl 62 (.tmp 7) (.tmp 18) rfl _ _ (by simp [Act.eval]) (by simp [Act.eval]) (unhide HST) ?_
  refine hK.out _ _ ((unhide HSW) _ (unhide HF8)) (fun hHeld => ?_)
  clear hK K
  (try simp only [Act.put, nrmS])
  refine wtk2S (i := 11) rfl hHeld ?_
  (try simp only [Act.put, nrmS])
  refine wpAnyH_done (by kernel_rfl) ?_ _
  clear hHeld HSW HST
  go_wp2_with fail
  refine wp_region_held_drew (S := (fun W => W.cell? ⟨d, 2, none⟩ = some (.map (some ma)) ∧ W.cell? ⟨w.heap.size, 0, none⟩ = some (.int .u32 (cl : Nat)) ∧ W.cell? ⟨w.heap.size, 1, none⟩ = some (.int .u32 (nu : Nat)) ∧ (Instr.lookup 57 (.map (some ma)) (.agg #[.int .u32 (cl : Nat), .int .u32 (nu : Nat)]) true).run Tryz.prog W = .ok (.tuple #[.agg A.cs.toArray, .bool true]) W)) (by kernel_rfl) ((unhide HSA) _ ((unhide HF8).drew)) (fun hHeld => ?_)
  refine wtk2S (i := 0) rfl hHeld ?_
  (try simp only [Act.put, nrmS])
  refine wtk2S (i := 1) rfl hHeld ?_
  (try simp only [Act.put, nrmS])
  refine wtk2S (i := 2) rfl hHeld ?_
  (try simp only [Act.put, nrmS])
  refine wtk2S (i := 3) rfl hHeld ?_
  (try simp only [Act.put, nrmS])
  refine wtk2S (i := 4) rfl hHeld ?_
  (try simp only [Act.put, nrmS])
  refine wtk2S (i := 5) rfl hHeld ?_
  (try simp only [Act.put, nrmS])
  refine wtk2S (i := 6) rfl hHeld ?_
  (try simp only [Act.put, nrmS])
  refine wtk2S (i := 7) rfl hHeld ?_
  (try simp only [Act.put, nrmS])
  refine wtk2S (i := 8) rfl hHeld ?_
  (try simp only [Act.put, nrmS])
  refine wpAnyH_ready (rs := [9]) (by kernel_rfl) (by simp) (AllReadyH.cons rfl (fun K hK => ?_) AllReadyH.nil)
  go_simp
  refine hK.out _ _ ((unhide HSA) _ ((unhide HF8).drew.alloc _)) (fun hHeld => ?_)
  clear hK K
  (try simp only [Act.put, nrmS])
  have hb0 : (W8.drew.alloc (.cells [.int .u32 0, .int .u32 0, .int .u8 0, .int .u32 0, .int .u32 0, .slice none 0 0, .slice none 0 0].toArray 47)).heap[W8.heap.size]? = some (.cells [.int .u32 0, .int .u32 0, .int .u8 0, .int .u32 0, .int .u32 0, .slice none 0 0, .slice none 0 0].toArray 47) := heap_alloc_new W8.drew _
  obtain ⟨W9, hst, hb9, hf9⟩ := st_all (P := Tryz.prog) (ty := 47) [.int .u32 0, .int .u32 0, .int .u8 0, .int .u32 0, .int .u32 0, .slice none 0 0, .slice none 0 0] A.cs hb0 rfl Tryz.sizeAn h7
  have hs18 := (unhide HF8).size
  have hf19 : Fr (fun _ => False) W1 W9 := ((unhide HF8).drew.alloc _).trans hf9 (fun k hk e => by omega)
  have HF9 := hide (And.intro (hf1.trans0 hf19) hf19)
  have HST := hide hst
  clear hst hb9 hf9 hf19 hb0 hs18
  refine wpAnyH_ready (rs := [10]) (by kernel_rfl) (by simp) (AllReadyH.cons rfl (fun K hK => ?_) AllReadyH.nil)
  refine step_stN rfl 47 (.tmp 9) (.tmp 40) rfl _ _ (by simp [Act.eval]) (by simp [Act.eval]) (unhide HST) ?_
  refine hK.out _ _ ((unhide HSA) _ (unhide HF9).2) (fun hHeld => ?_)
  clear hK K
  (try simp only [Act.put, nrmS])
  refine wtk2S (i := 11) rfl hHeld ?_
  (try simp only [Act.put, nrmS])
  refine wpAnyH_done (by kernel_rfl) ?_ _
  clear hHeld HSA HST
  go_wp2_with fail
  go_ret
  exact ⟨rfl, (unhide HF9).1⟩
end Go.Proofs.YtjkkonhhnmjcaaaGreatDoor

namespace Go.Proofs.YtjkkonhhnmjcaaaGreatDoor
open Go.RowKit Go.Maps

theorem set_two (x : List Value) (hx : x.length = 10) (a b c e : Value) : ((x ++ [a, b]).toArray.setIfInBounds 10 c).setIfInBounds 11 e = (x ++ [c, e]).toArray := by
  rw [List.setIfInBounds_toArray, List.setIfInBounds_toArray, List.set_append_right _ _ (by omega), List.set_append_right _ _ (by omega), hx]
  rfl
theorem wrap_succ (n : Nat) (h : n ≤ 1000000000000) : wrap64 ((n : Int) + 1) = ((n : Int) + 1) := by unfold wrap64; omega
set_option maxRecDepth 100000 in
set_option maxHeartbeats 4000000 in
/-- takeBusy of a request that waits. -/
theorem stb_wait (d mw cl nu : Nat) (y la : Int) (n : Nat) (hn : n ≤ 1000000000000) (x : List Value) (hx : x.length = 10) (h1 : ∀ v ∈ x, v.oneCell' = true) (w : World) (c1 : w.cell? ⟨d, 1, none⟩ = some (.map (some mw))) (hdm : d ≠ mw) (hml : mw < w.heap.size) (PM : World → Prop)
    (hL : ∀ W', Fr (fun _ => False) w W' → (Instr.lookup 56 (.map (some mw)) (.agg #[.int .u32 (cl : Nat), .int .u32 (nu : Nat)]) true).run Tryz.prog W' = .ok (.tuple #[.agg (x ++ [Value.int .i64 la, Value.int .i64 (n : Nat)]).toArray, .bool true]) W')
    (hU : ∀ W', Fr (fun _ => False) w W' → ∃ W2, (Instr.mapUpdate 56 (.map (some mw)) (.agg #[.int .u32 (cl : Nat), .int .u32 (nu : Nat)]) (.agg (x ++ [Value.int .i64 y, Value.int .i64 ((n : Int) + 1)]).toArray)).run Tryz.prog W' = .ok () W2 ∧ PM W2 ∧ Fr (fun g => g = mw) W' W2) :
    Calls Tryz.prog 21 #[.pointer (some ⟨d, 0, none⟩), .agg #[.int .u32 (cl : Nat), .int .u32 (nu : Nat)], .int .i64 y] w fun e w' => e = .returned (.int .i64 0) ∧ PM w' ∧ ∃ w1, Fr (fun _ => False) w w1 ∧ Fr (fun g => g = mw) w1 w' := by
  have hd : d < w.heap.size := lt_of_cell c1
  have HS : Hid (∀ W', Fr (fun _ => False) (w.alloc (.cells #[.int .u32 (cl : Nat), .int .u32 (nu : Nat)] 24)) W' → W'.cell? ⟨d, 1, none⟩ = some (.map (some mw)) ∧ W'.cell? ⟨w.heap.size, 0, none⟩ = some (.int .u32 (cl : Nat)) ∧ W'.cell? ⟨w.heap.size, 1, none⟩ = some (.int .u32 (nu : Nat)) ∧ Fr (fun _ => False) w W') := hide (fun W' hf => by
    have hb : W'.heap[w.heap.size]? = some (.cells #[.int .u32 (cl : Nat), .int .u32 (nu : Nat)] 24) := (hf.block _ (by simp) (fun h => h)).trans (heap_alloc_new w _)
    exact ⟨((box1S w _).trans0 hf).cell (p := ⟨d, 1, none⟩) hd (fun h => h) |>.trans c1, cell_of_blkS hb rfl, cell_of_blkS hb rfl, (box1S w _).trans0 hf⟩)
  have HL := hide hL
  have HU := hide hU
  have HV := hide (And.intro hx h1)
  have HW := hide (wrap_succ n hn)
  have HD := hide (And.intro hdm hml)
  clear hL hU c1 hx h1 hn hdm hml
  go_enter Tryz.func21, Tryz.ntmps21
  go_wp2_with fail
  obtain ⟨W1, hW1⟩ : ∃ W1, w.alloc (.cells #[.int .u32 (cl : Nat), .int .u32 (nu : Nat)] 24) = W1 := ⟨_, rfl⟩
  have hf1 : Fr (fun _ => False) w W1 := by rw [← hW1]; exact box1S w _
  have hsz1 : W1.heap.size = w.heap.size + 1 := by rw [← hW1]; simp
  have HZ := hide hsz1
  clear hsz1
  rw [hW1] at HS
  rw [hW1]
  clear hW1
  have HSW : Hid (∀ W', Fr (fun _ => False) W1 W' → W'.cell? ⟨d, 1, none⟩ = some (.map (some mw)) ∧ W'.cell? ⟨w.heap.size, 0, none⟩ = some (.int .u32 (cl : Nat)) ∧ W'.cell? ⟨w.heap.size, 1, none⟩ = some (.int .u32 (nu : Nat)) ∧ (Instr.lookup 56 (.map (some mw)) (.agg #[.int .u32 (cl : Nat), .int .u32 (nu : Nat)]) true).run Tryz.prog W' = .ok (.tuple #[.agg (x ++ [Value.int .i64 la, Value.int .i64 (n : Nat)]).toArray, .bool true]) W') := hide (fun W' hf => ⟨((unhide HS) W' hf).1, ((unhide HS) W' hf).2.1, ((unhide HS) W' hf).2.2.1, (unhide HL) W' ((unhide HS) W' hf).2.2.2⟩)
  refine wp_region_held_drew (S := (fun W => W.cell? ⟨d, 1, none⟩ = some (.map (some mw)) ∧ W.cell? ⟨w.heap.size, 0, none⟩ = some (.int .u32 (cl : Nat)) ∧ W.cell? ⟨w.heap.size, 1, none⟩ = some (.int .u32 (nu : Nat)) ∧ (Instr.lookup 56 (.map (some mw)) (.agg #[.int .u32 (cl : Nat), .int .u32 (nu : Nat)]) true).run Tryz.prog W = .ok (.tuple #[.agg (x ++ [Value.int .i64 la, Value.int .i64 (n : Nat)]).toArray, .bool true]) W)) (by kernel_rfl) ((unhide HSW) _ (Fr.refl _ _).drew) (fun hHeld => ?_)
  refine wtk2S (i := 0) rfl hHeld ?_
  (try simp only [Act.put, nrmS])
  refine wtk2S (i := 1) rfl hHeld ?_
  (try simp only [Act.put, nrmS])
  refine wtk2S (i := 2) rfl hHeld ?_
  (try simp only [Act.put, nrmS])
  refine wtk2S (i := 3) rfl hHeld ?_
  (try simp only [Act.put, nrmS])
  refine wtk2S (i := 4) rfl hHeld ?_
  (try simp only [Act.put, nrmS])
  refine wtk2S (i := 5) rfl hHeld ?_
  (try simp only [Act.put, nrmS])
  refine wtk2S (i := 6) rfl hHeld ?_
  (try simp only [Act.put, nrmS])
  refine wtk2S (i := 7) rfl hHeld ?_
  (try simp only [Act.put, nrmS])
  refine wtk2S (i := 8) rfl hHeld ?_
  (try simp only [Act.put, nrmS])
  refine wpAnyH_ready (rs := [9]) (by kernel_rfl) (by simp) (AllReadyH.cons rfl (fun K hK => ?_) AllReadyH.nil)
  go_simp
  refine hK.out _ _ ((unhide HSW) _ ((Fr.refl _ _).drew.alloc _)) (fun hHeld => ?_)
  clear hK K
  (try simp only [Act.put, nrmS])
  have hb0 : (W1.drew.alloc (.cells [.int .u32 0, .int .u32 0, .int .u32 0, .int .u8 0, .int .u32 0, .int .u32 0, .int .u32 0, .int .u32 0, .slice none 0 0, .string ⟨#[]⟩, .int .i64 0, .int .i64 0].toArray 62)).heap[W1.heap.size]? = some (.cells [.int .u32 0, .int .u32 0, .int .u32 0, .int .u8 0, .int .u32 0, .int .u32 0, .int .u32 0, .int .u32 0, .slice none 0 0, .string ⟨#[]⟩, .int .i64 0, .int .i64 0].toArray 62) := heap_alloc_new W1.drew _
  obtain ⟨W8, hst, hb8, hf8⟩ := st_all (P := Tryz.prog) (ty := 62) [.int .u32 0, .int .u32 0, .int .u32 0, .int .u8 0, .int .u32 0, .int .u32 0, .int .u32 0, .int .u32 0, .slice none 0 0, .string ⟨#[]⟩, .int .i64 0, .int .i64 0] (x ++ [Value.int .i64 la, Value.int .i64 (n : Nat)]) hb0 (by simp [(unhide HV).1]) (by rw [Tryz.sizeCa]; simp [(unhide HV).1]) (fun v hv => by
    rcases List.mem_append.1 hv with h | h
    · exact (unhide HV).2 v h
    · simp at h; rcases h with rfl | rfl <;> rfl)
  have hf18 : Fr (fun _ => False) W1 W8 := ((Fr.refl _ _).drew.alloc _).trans hf8 (fun k hk e => by omega)
  have hc10 : W8.cell? ⟨W1.heap.size, 10, none⟩ = some (.int .i64 la) := cell_of_blkS hb8 (by simp [(unhide HV).1])
  have hc11 : W8.cell? ⟨W1.heap.size, 11, none⟩ = some (.int .i64 (n : Nat)) := cell_of_blkS hb8 (by simp [(unhide HV).1])
  have hz10 : W8.frozen? ⟨W1.heap.size, 10, none⟩ = false := frz_of_blk hb8
  have hz11 : W8.frozen? ⟨W1.heap.size, 11, none⟩ = false := frz_of_blk hb8
  have hb9 := blkset (blkset hb8 10 (.int .i64 y)) 11 (.int .i64 ((n : Int) + 1))
  rw [set_two x (unhide HV).1] at hb9
  have hf19 : Fr (fun _ => False) W1 ((W8.setCell ⟨W1.heap.size, 10, none⟩ (.int .i64 y)).setCell ⟨W1.heap.size, 11, none⟩ (.int .i64 ((n : Int) + 1))) := (hf18.setCell (p := ⟨W1.heap.size, 10, none⟩) (.inr (Nat.le_refl _)) _).setCell (p := ⟨W1.heap.size, 11, none⟩) (.inr (Nat.le_refl _)) _
  have HF8 := hide hf18
  have HB9 := hide (And.intro hb9 hf19)
  have HST := hide hst
  clear hst hb8 hf8 hf18 hb0 hb9 hf19
  refine wpAnyH_ready (rs := [10]) (by kernel_rfl) (by simp) (AllReadyH.cons rfl (fun K hK => ?_) AllReadyH.nil)
  refine step_stN rfl 62 (.tmp 7) (.tmp 18) rfl _ _ (by simp [Act.eval]) (by simp [Act.eval]) (unhide HST) ?_
  refine hK.out _ _ ((unhide HSW) _ (unhide HF8)) (fun hHeld => ?_)
  clear hK K
  (try simp only [Act.put, nrmS])
  refine wtk2S (i := 11) rfl hHeld ?_
  (try simp only [Act.put, nrmS])
  refine wpAnyH_done (by kernel_rfl) ?_ _
  clear hHeld HSW HST
  have hw := unhide HW
  go_wp2_with fail
  clear hw
  obtain ⟨W9, hW9⟩ : ∃ W9, (W8.setCell ⟨W1.heap.size, 10, none⟩ (.int .i64 y)).setCell ⟨W1.heap.size, 11, none⟩ (.int .i64 ((n : Int) + 1)) = W9 := ⟨_, rfl⟩
  rw [hW9] at HB9
  rw [hW9]
  clear hW9 hc10 hc11 hz10 hz11
  have HS2 : Hid (∀ W', Fr (fun g => g = mw) W9 W' → W'.cell? ⟨d, 1, none⟩ = some (.map (some mw)) ∧ W'.cell? ⟨w.heap.size, 0, none⟩ = some (.int .u32 (cl : Nat)) ∧ W'.cell? ⟨w.heap.size, 1, none⟩ = some (.int .u32 (nu : Nat)) ∧ W'.rangeAt W1.heap.size 0 (x ++ [Value.int .i64 y, Value.int .i64 ((n : Int) + 1)])) := hide (fun W' hf => by
    have h9 := (unhide HS) W9 (unhide HB9).2
    have hz := unhide HZ
    have hm := (unhide HD).2
    have hb := (hf.block _ (lt_of_block (unhide HB9).1) (by omega)).trans (unhide HB9).1
    exact ⟨(hf.cell (p := ⟨d, 1, none⟩) (lt_of_cell h9.1) (unhide HD).1).trans h9.1, (hf.cell (p := ⟨w.heap.size, 0, none⟩) (lt_of_cell h9.2.1) (by show w.heap.size ≠ mw; omega)).trans h9.2.1, (hf.cell (p := ⟨w.heap.size, 1, none⟩) (lt_of_cell h9.2.2.1) (by show w.heap.size ≠ mw; omega)).trans h9.2.2.1, range_of_block hb⟩)
  obtain ⟨W10, hmu, hpm, hf10⟩ := (unhide HU) W9.drew ((hf1.trans0 (unhide HB9).2).drew)
  have HMU := hide hmu
  have HPM := hide (And.intro hpm hf10)
  have HFW := hide ((hf1.trans0 (unhide HB9).2).drew)
  clear hmu hpm hf10 hf1
  refine wp_region_held_drew (S := (fun W => W.cell? ⟨d, 1, none⟩ = some (.map (some mw)) ∧ W.cell? ⟨w.heap.size, 0, none⟩ = some (.int .u32 (cl : Nat)) ∧ W.cell? ⟨w.heap.size, 1, none⟩ = some (.int .u32 (nu : Nat)) ∧ W.rangeAt W1.heap.size 0 (x ++ [Value.int .i64 y, Value.int .i64 ((n : Int) + 1)]))) (by kernel_rfl) ((unhide HS2) _ (Fr.refl _ _).drew) (fun hHeld => ?_)
  refine wtk2S (i := 0) rfl hHeld ?_
  (try simp only [Act.put, nrmS])
  refine wtk2S (i := 1) rfl hHeld ?_
  (try simp only [Act.put, nrmS])
  refine wtk2S (i := 2) rfl hHeld ?_
  (try simp only [Act.put, nrmS])
  refine wtk2S (i := 3) rfl hHeld ?_
  (try simp only [Act.put, nrmS])
  refine wtk2S (i := 4) rfl hHeld ?_
  (try simp only [Act.put, nrmS])
  refine wtkS (i := 5) rfl (yieldsIf_load_mid rfl 62 (.tmp 7) rfl W1.heap.size 0 rfl _ _ (fun w h => h.2.2.2) Tryz.underlying62 rfl (by rw [Tryz.sizeCa]; simp [(unhide HV).1])) hHeld ?_
  (try simp only [Act.put, nrmS])
  refine wpAnyH_ready (rs := [6]) (by kernel_rfl) (by simp) (AllReadyH.cons rfl (fun K hK => ?_) AllReadyH.nil)
  refine step_mu rfl 56 (.tmp 30) (.tmp 31) (.tmp 32) rfl _ _ _ (by simp [Act.eval]) (by simp [Act.eval]) (by simp [Act.eval]) (unhide HMU) ?_
  refine hK.out _ _ ((unhide HS2) _ ((Fr.refl _ _).drew.trans (unhide HPM).2 (fun _ _ h => h))) (fun hHeld => ?_)
  clear hK K
  (try simp only [Act.put, nrmS])
  refine wpAnyH_done (by kernel_rfl) ?_ _
  clear hHeld HS2 HMU
  go_wp2_with fail
  go_ret
  exact ⟨rfl, (unhide HPM).1, _, unhide HFW, (unhide HPM).2⟩
end Go.Proofs.YtjkkonhhnmjcaaaGreatDoor

namespace Go.Proofs.YtjkkonhhnmjcaaaGreatDoor
open Go.RowKit Go.Maps

/-- append(s.done, id). -/
theorem app_id (w : World) (v : Value) (l : List (Nat × Nat)) (p : Nat × Nat) (h : w.ownsRow 0 24 2 v l.length (icells l)) (hl : l.length ≤ 1048575) :
    ∃ ao cap w', (Builtin.append_ #[54, 54] 54 #[v, .slice (some ⟨w.heap.size, 0, none⟩) 1 1]).run Tryz.prog (w.alloc (.cells #[.int .u32 (p.1 : Nat), .int .u32 (p.2 : Nat)] 24)) = .ok (.slice ao (l.length + 1) cap) w' ∧ w'.ownsRow 0 24 2 (.slice ao (l.length + 1) cap) (l.length + 1) (icells (l ++ [p])) ∧ Fr (fun g => v.ownBlock = some g) w w' ∧
      ∀ g, (Value.slice ao (l.length + 1) cap).ownBlock = some g → v.ownBlock = some g ∨ w.heap.size ≤ g := by
  obtain ⟨i0, hi, hz0, hz1, hz2⟩ := info_parts Tryz.infoId
  have hb' := ownsRow_of_blockS (w' := w.alloc (.cells #[.int .u32 (p.1 : Nat), .int .u32 (p.2 : Nat)] 24)) h (fun g hg => Below.heap_alloc _ _ _ (h.lt g hg).2)
  obtain ⟨v', w', hr, h2, h3, _, h5⟩ := run_append_own_at (P := Tryz.prog) (w := w.alloc (.cells #[.int .u32 (p.1 : Nat), .int .u32 (p.2 : Nat)] 24)) 0 54 54 24 i0 (.agg #[.int .u32 0, .int .u32 0]) 2 8 Tryz.underlying54 hi hz0 hz1 hz2 rfl (by decide) v l.length (icells l) hb' ⟨w.heap.size, 0, none⟩ 1 1 [.int .u32 (p.1 : Nat), .int .u32 (p.2 : Nat)] rfl (fun j u hu => by
    rw [addr_addS, World.cell?_alloc_at _ _ _ _ rfl]; simpa using hu) (fun u hu => by simp at hu; rcases hu with rfl | rfl <;> rfl) (by simp only [maxLen]; omega) (by omega) (by simp)
  obtain ⟨ao, cap, rfl⟩ := own_formX h2
  refine ⟨ao, cap, w', hr, by rw [icells_app]; exact h2, ((box1S w _).mono (fun _ _ h => h.elim)).grown h3 (fun g hg => .inl hg), fun g hg => ?_⟩
  rcases h5 with e | e
  · rw [e] at hg; exact .inl hg
  · rw [e] at hg; cases hg; exact .inr (by simp)
theorem rd_not {w : World} {x : Value} {n z b : Nat} {cs : List Value} (h : Rd w x n z cs) {es : Array MapEntry} {ck : Nat} (hb : w.heap[b]? = some (.map es ck)) : ∀ g o n c, x = .slice (some ⟨g, o, none⟩) n c → 0 < cs.length → g ≠ b := by
  intro g o n c e hp hg
  obtain ⟨xo, c', e2, _, _, h3⟩ := h.f
  obtain ⟨u, hu⟩ : ∃ u, cs[0]? = some u := ⟨cs[0], List.getElem?_eq_getElem hp⟩
  obtain ⟨g', o', e3, hc⟩ := h3 0 u hu
  rw [e] at e2
  cases e2
  cases e3
  rw [hg] at hc
  simp [World.cell?, hb] at hc
/-- A request answered. -/
theorem SsAt.answer {w w' : World} {d mw ma c : Nat} {cs : List SC} {dn : List Nat} {dv : Value} {T : Nat → Prop} (h : SsAt w d mw ma c cs dn dv T) {i : Nat} {q : SC} (hq : cs[i]? = some q) (hd : q.d = none) (a' : AN) (F : List F5) (H : List SM) (hFl : F.length ≤ 1048576) (hHl : H.length ≤ 1048576) (hdl : dn.length + 1 ≤ 1048576) (dv' : Value)
    (hf : Fr (fun g => g = mw ∨ g = ma ∨ dv.ownBlock = some g ∨ g = d) w w')
    (blk : w'.heap[d]? = some (.cells #[.int .u32 (c : Nat), .map (some mw), .map (some ma), dv'] 59))
    (wm : MpR w' mw c (nW cs - 1) (fun j => if j = i + 1 then none else fW cs j)) (am : MpR w' ma c (nA cs + 1) (fun j => if j = i + 1 then some a'.v else fA cs j))
    (hdn : w'.ownsRow 0 24 2 dv' (dn.length + 1) (icells ((dn ++ [i + 1]).map fun k => (c, k)))) (hdt : ∀ g, dv'.ownBlock = some g → dv.ownBlock = some g ∨ w.heap.size ≤ g)
    (hF : w'.ownsRow w.heap.size 70 5 a'.fv F.length (fcells F)) (hH : w'.ownsRow w.heap.size 119 4 a'.hv H.length (scells H)) :
    SsAt w' d mw ma c (cs.set i { q with d := some ⟨a', F, H⟩ }) (dn ++ [i + 1]) dv' (fun g => T g ∨ Nb w w' g) := by
  have hi := (List.getElem?_eq_some_iff.1 hq).1
  have hn := nA_set cs i q { q with d := some ⟨a', F, H⟩ } hq hd rfl
  have hL : ∀ {e z n : Nat} {v : Value} {xs : List Value}, e ≠ 59 → e ≠ 24 → LsT w T e z v n xs → LsT w' (fun g => T g ∨ Nb w w' g) e z v n xs := fun he he2 hl =>
    ⟨ownsRow_of_blockS hl.o (fun g hg => hf.block g (hl.o.lt g hg).2 (fun e => by
      have h1 := hl.ne h he hg
      rcases e with e | e | e | e
      · exact h1.2.1 e
      · exact h1.2.2 e
      · obtain ⟨c1, k1⟩ := own_blk hl.o hg
        obtain ⟨c2, k2⟩ := own_blk h.dn.o e
        rw [k1] at k2
        simp at k2
        exact he2 k2.2
      · exact h1.1 e)), fun g hg => .inl (hl.t g hg), hl.l⟩
  refine ⟨h.c16, by rw [List.length_set]; exact h.len, blk, ?_, ?_, ⟨by rw [List.length_append]; exact hdn, fun g hg => ?_, by simpa using hdl⟩, fun x hx => ?_, fun j x hx => ?_, ⟨.inl h.own.1, .inl h.own.2.1, .inl h.own.2.2⟩, h.ap, fun g hg => ?_⟩
  · rw [fW_set cs i _ hi, show nW (cs.set i { q with d := some ⟨a', F, H⟩ }) = nW cs - 1 by omega]; exact wm
  · rw [fA_set cs i _ hi, hn.1]; exact am
  · rcases hdt g hg with e | e
    · exact .inl (h.dn.t g e)
    · exact .inr ⟨e, (hdn.lt g hg).2⟩
  · rcases List.mem_or_eq_of_mem_set hx with hx | rfl
    · exact ⟨fun e => hL (by decide) (by decide) ((h.qs x hx).wt e), fun y e => ⟨hL (by decide) (by decide) ((h.qs x hx).an y e).1, hL (by decide) (by decide) ((h.qs x hx).an y e).2⟩⟩
    · refine ⟨fun e => (by cases e), fun y e => ?_⟩
      cases e
      exact ⟨⟨ownsRow_baseS hF (Nat.zero_le _), fun g hg => .inr (hF.lt g hg), hFl⟩, ⟨ownsRow_baseS hH (Nat.zero_le _), fun g hg => .inr (hH.lt g hg), hHl⟩⟩
  · by_cases e : i = j
    · subst e
      rw [List.getElem?_set_self hi] at hx
      cases hx
      exact h.id i q hq
    · rw [List.getElem?_set_ne e] at hx
      exact h.id j x hx
  · rcases hg with hg | hg
    · exact Nat.lt_of_lt_of_le (h.lt g hg) hf.size
    · exact hg.2
end Go.Proofs.YtjkkonhhnmjcaaaGreatDoor

namespace Go.Proofs.YtjkkonhhnmjcaaaGreatDoor
open Go.RowKit Go.Maps

theorem step_del {P : Program} {w w' : World} {ops : Array Oper} {op : Oper} {a : Act} {K : Act → World → Prop} {Q : Exit → Act → World → Prop} {E : Prop} (hgd : op.guard = none) (t u : TypeId) (m x : Operand) (ho : op.op = .call { callee := .builtin .delete, args := #[m, x], argTypes := #[t, u] })
    (vm vx v : Value) (hm : a.eval m = vm) (hx : a.eval x = vx) (hr : (Builtin.delete_ #[t, u] op.type #[vm, vx]).run P w = .ok v w')
    (h : K (a.put op.dst v) w') : if Region.wanted op (yielded ops a.tmps) = true then Oper.wp P op a w K Q else E := by
  have hw : Region.wanted op (yielded ops a.tmps) = true := by simp [Region.wanted, hgd]
  rw [if_pos hw]
  unfold Oper.wp execOp
  simp only [ho, resolve, invoke, builtin, Sem.run_bind, Sem.run_pure, Result.andThen_ok, List.map_toArray, List.map_cons, List.map_nil, hm, hx, hr]
  exact h
theorem step_appS {P : Program} {w w' : World} {ops : Array Oper} {o : Oper} {a : Act} {K : Act → World → Prop} {Q : Exit → Act → World → Prop} {E : Prop} (hgd : o.guard = none) (s x : Operand) (t u : TypeId)
    (ho : o.op = .call { callee := .builtin .append, args := #[s, x], argTypes := #[t, u] }) (vs vx v' : Value) (hs : a.eval s = vs) (hx : a.eval x = vx) (hr : (Builtin.append_ #[t, u] o.type #[vs, vx]).run P w = .ok v' w')
    (h : K (a.put o.dst v') w') : if Region.wanted o (yielded ops a.tmps) = true then Oper.wp P o a w K Q else E := by
  have hw : Region.wanted o (yielded ops a.tmps) = true := by simp [Region.wanted, hgd]
  rw [if_pos hw]
  unfold Oper.wp execOp
  simp only [ho, resolve, invoke, builtin, Sem.run_bind, Sem.run_pure, Result.andThen_ok, List.map_toArray, List.map_cons, List.map_nil, hs, hx, hr]
  exact h
set_option maxRecDepth 100000 in
set_option maxHeartbeats 8000000 in
/-- takeAnswer of a request that waits. -/
theorem sta_wait (d mw ma c : Nat) (cs : List SC) (dn : List Nat) (dv : Value) (T : Nat → Prop) (w : World) (h : SsAt w d mw ma c cs dn dv T) (i : Nat) (q : SC) (hq : cs[i]? = some q) (hd : q.d = none) (co rc ve : Nat) (fv hv : Value) (F : List F5) (H : List SM)
    (hF : Rd w fv F.length 5 (fcells F)) (hH : Rd w hv H.length 4 (scells H)) (hFl : F.length ≤ 1048576) (hHl : H.length ≤ 1048576) (hdl : dn.length ≤ 1048575) :
    Calls Tryz.prog 20 #[.pointer (some ⟨d, 0, none⟩), .agg #[.int .u32 (c : Nat), .int .u32 ((i : Int) + 1), .int .u8 (co : Nat), .int .u32 (rc : Nat), .int .u32 (ve : Nat), fv, hv]] w fun e w' => e = .returned (.int .i64 0) ∧ ∃ v u dv', SsAt w' d mw ma c (cs.set i { q with d := some ⟨⟨c, i + 1, co, rc, ve, v, u⟩, F, H⟩ }) (dn ++ [i + 1]) dv' (fun g => T g ∨ Nb w w' g) ∧ Fr (fun g => g = mw ∨ g = ma ∨ dv.ownBlock = some g ∨ g = d) w w' := by
  have hiN : ((i : Int) + 1) = (((i + 1 : Nat)) : Int) := rfl
  obtain ⟨em, km, hmb⟩ := h.wm.blk
  obtain ⟨ea, ka, hab⟩ := h.am.blk
  have hil := (List.getElem?_eq_some_iff.1 hq).1
  have hcl := h.len
  have hc16 := h.c16
  have hdm := h.dm
  have hdvd : ∀ g, dv.ownBlock = some g → g ≠ d ∧ g ≠ mw ∧ g ≠ ma := fun g hg => h.dn.ne h (by decide) hg
  have HL : Hid (∀ W', Fr (fun _ => False) w W' → (Instr.lookup 56 (.map (some mw)) (.agg #[.int .u32 (c : Nat), .int .u32 ((i : Int) + 1)]) true).run Tryz.prog W' = .ok (.tuple #[.agg q.cs.toArray, .bool true]) W') := hide (fun W' hf => (h.look_w hq hd W' hf).1)
  have HS : Hid (∀ W', Fr (fun g => g = mw ∨ g = ma ∨ dv.ownBlock = some g) (w.alloc (.cells #[.int .u32 (c : Nat), .int .u32 ((i : Int) + 1), .int .u8 (co : Nat), .int .u32 (rc : Nat), .int .u32 (ve : Nat), fv, hv] 47)) W' → W'.heap[d]? = some (.cells #[.int .u32 (c : Nat), .map (some mw), .map (some ma), dv] 59) ∧ W'.heap[w.heap.size]? = some (.cells #[.int .u32 (c : Nat), .int .u32 ((i : Int) + 1), .int .u8 (co : Nat), .int .u32 (rc : Nat), .int .u32 (ve : Nat), fv, hv] 47)) := hide (fun W' hf => by
    have hlm := h.lt mw h.own.2.1
    have hla := h.lt ma h.own.2.2
    have hld := h.lt d h.own.1
    refine ⟨(hf.block d (by simp; omega) (fun e => ?_)).trans ((Below.heap_alloc _ _ d hld).trans h.blk), (hf.block _ (by simp) (fun e => ?_)).trans (heap_alloc_new w _)⟩
    · rcases e with e | e | e
      · exact hdm.1 e
      · exact hdm.2 e
      · exact (hdvd d e).1 rfl
    · rcases e with e | e | e
      · omega
      · omega
      · have := (h.dn.o.lt _ e).2; omega)
  have HX := hide (And.intro h (And.intro hF hH))
  have HM := hide (And.intro hmb hab)
  clear hF hH hmb hab
  have HK := hide (And.intro hq (And.intro hd (And.intro hil (And.intro hcl hc16))))
  clear hq hd hil hcl hc16 hdm hdvd h hiN
  go_enter Tryz.func20, Tryz.ntmps20
  go_wp2_with fail
  obtain ⟨W1, hW1⟩ : ∃ W1, w.alloc (.cells #[.int .u32 (c : Nat), .int .u32 ((i : Int) + 1), .int .u8 (co : Nat), .int .u32 (rc : Nat), .int .u32 (ve : Nat), fv, hv] 47) = W1 := ⟨_, rfl⟩
  have hf1 : Fr (fun _ => False) w W1 := by rw [← hW1]; exact box1S w _
  have HZ : Hid (W1.heap.size = w.heap.size + 1) := hide (by rw [← hW1]; simp)
  rw [hW1] at HS
  rw [hW1]
  clear hW1
  have HS1 : Hid (∀ W', Fr (fun _ => False) W1 W' → W'.cell? ⟨d, 1, none⟩ = some (.map (some mw)) ∧ W'.cell? ⟨w.heap.size, 0, none⟩ = some (.int .u32 (c : Nat)) ∧ W'.cell? ⟨w.heap.size, 1, none⟩ = some (.int .u32 ((i : Int) + 1)) ∧ (Instr.lookup 56 (.map (some mw)) (.agg #[.int .u32 (c : Nat), .int .u32 ((i : Int) + 1)]) true).run Tryz.prog W' = .ok (.tuple #[.agg q.cs.toArray, .bool true]) W') := hide (fun W' hf => by
    have hb := (unhide HS) W' (hf.mono (fun _ _ e => e.elim))
    exact ⟨cell_of_blkS hb.1 rfl, cell_of_blkS hb.2 rfl, cell_of_blkS hb.2 rfl, (unhide HL) W' (hf1.trans0 hf)⟩)
  have HS3 : Hid (∀ W', Fr (fun g => g = mw ∨ g = ma ∨ dv.ownBlock = some g) W1 W' → W'.cell? ⟨d, 1, none⟩ = some (.map (some mw)) ∧ W'.cell? ⟨w.heap.size, 0, none⟩ = some (.int .u32 (c : Nat)) ∧ W'.cell? ⟨w.heap.size, 1, none⟩ = some (.int .u32 ((i : Int) + 1))) := hide (fun W' hf => by
    have hb := (unhide HS) W' hf
    exact ⟨cell_of_blkS hb.1 rfl, cell_of_blkS hb.2 rfl, cell_of_blkS hb.2 rfl⟩)
  have HS4 : Hid (∀ W', Fr (fun g => g = mw ∨ g = ma ∨ dv.ownBlock = some g) W1 W' → W'.cell? ⟨d, 2, none⟩ = some (.map (some ma)) ∧ W'.cell? ⟨w.heap.size, 0, none⟩ = some (.int .u32 (c : Nat)) ∧ W'.cell? ⟨w.heap.size, 1, none⟩ = some (.int .u32 ((i : Int) + 1)) ∧ W'.rangeAt w.heap.size 0 [.int .u32 (c : Nat), .int .u32 ((i : Int) + 1), .int .u8 (co : Nat), .int .u32 (rc : Nat), .int .u32 (ve : Nat), fv, hv]) := hide (fun W' hf => by
    have hb := (unhide HS) W' hf
    exact ⟨cell_of_blkS hb.1 rfl, cell_of_blkS hb.2 rfl, cell_of_blkS hb.2 rfl, range_of_block hb.2⟩)
  have HS5 : Hid (∀ W', Fr (fun g => g = mw ∨ g = ma ∨ dv.ownBlock = some g) W1 W' → W'.cell? ⟨d, 3, none⟩ = some dv ∧ W'.cell? ⟨w.heap.size, 0, none⟩ = some (.int .u32 (c : Nat)) ∧ W'.cell? ⟨w.heap.size, 1, none⟩ = some (.int .u32 ((i : Int) + 1))) := hide (fun W' hf => by
    have hb := (unhide HS) W' hf
    exact ⟨cell_of_blkS hb.1 rfl, cell_of_blkS hb.2 rfl, cell_of_blkS hb.2 rfl⟩)
  refine wp_region_held_drew (S := (fun W => W.cell? ⟨d, 1, none⟩ = some (.map (some mw)) ∧ W.cell? ⟨w.heap.size, 0, none⟩ = some (.int .u32 (c : Nat)) ∧ W.cell? ⟨w.heap.size, 1, none⟩ = some (.int .u32 ((i : Int) + 1)) ∧ (Instr.lookup 56 (.map (some mw)) (.agg #[.int .u32 (c : Nat), .int .u32 ((i : Int) + 1)]) true).run Tryz.prog W = .ok (.tuple #[.agg q.cs.toArray, .bool true]) W)) (by kernel_rfl) ((unhide HS1) _ (Fr.refl _ _).drew) (fun hHeld => ?_)
  refine wtk2S (i := 0) rfl hHeld ?_
  (try simp only [Act.put, nrmS])
  refine wtk2S (i := 1) rfl hHeld ?_
  (try simp only [Act.put, nrmS])
  refine wtk2S (i := 2) rfl hHeld ?_
  (try simp only [Act.put, nrmS])
  refine wtk2S (i := 3) rfl hHeld ?_
  (try simp only [Act.put, nrmS])
  refine wtk2S (i := 4) rfl hHeld ?_
  (try simp only [Act.put, nrmS])
  refine wtk2S (i := 5) rfl hHeld ?_
  (try simp only [Act.put, nrmS])
  refine wtk2S (i := 6) rfl hHeld ?_
  (try simp only [Act.put, nrmS])
  refine wtk2S (i := 7) rfl hHeld ?_
  (try simp only [Act.put, nrmS])
  refine wtk2S (i := 8) rfl hHeld ?_
  (try simp only [Act.put, nrmS])
  refine wtk2S (i := 9) rfl hHeld ?_
  (try simp only [Act.put, nrmS])
  refine wpAnyH_ready (rs := [10]) (by kernel_rfl) (by simp) (AllReadyH.cons rfl (fun K hK => ?_) AllReadyH.nil)
  go_simp
  refine hK.out _ _ ((unhide HS1) _ ((Fr.refl _ _).drew.alloc _)) (fun hHeld => ?_)
  clear hK K
  (try simp only [Act.put, nrmS])
  have hb0 : (W1.drew.alloc (.cells [.int .u32 0, .int .u32 0, .int .u32 0, .int .u8 0, .int .u32 0, .int .u32 0, .int .u32 0, .int .u32 0, .slice none 0 0, .string ⟨#[]⟩, .int .i64 0, .int .i64 0].toArray 62)).heap[W1.heap.size]? = some (.cells [.int .u32 0, .int .u32 0, .int .u32 0, .int .u8 0, .int .u32 0, .int .u32 0, .int .u32 0, .int .u32 0, .slice none 0 0, .string ⟨#[]⟩, .int .i64 0, .int .i64 0].toArray 62) := heap_alloc_new W1.drew _
  obtain ⟨W8, hst, hb8, hf8⟩ := st_all (P := Tryz.prog) (ty := 62) [.int .u32 0, .int .u32 0, .int .u32 0, .int .u8 0, .int .u32 0, .int .u32 0, .int .u32 0, .int .u32 0, .slice none 0 0, .string ⟨#[]⟩, .int .i64 0, .int .i64 0] q.cs hb0 rfl Tryz.sizeCa (SC.one ((unhide HX).1.qs q (List.mem_of_getElem? (unhide HK).1)) (unhide HK).2.1)
  have hf18 : Fr (fun _ => False) W1 W8 := ((Fr.refl _ _).drew.alloc _).trans hf8 (fun k hk e => by omega)
  have HF8 := hide hf18
  have HST := hide hst
  clear hst hb8 hf8 hf18 hb0
  refine wpAnyH_ready (rs := [11]) (by kernel_rfl) (by simp) (AllReadyH.cons rfl (fun K hK => ?_) AllReadyH.nil)
  refine step_stN rfl 62 (.tmp 5) (.tmp 17) rfl _ _ (by simp [Act.eval]) (by simp [Act.eval]) (unhide HST) ?_
  refine hK.out _ _ ((unhide HS1) _ (unhide HF8)) (fun hHeld => ?_)
  clear hK K
  (try simp only [Act.put, nrmS])
  refine wtk2S (i := 12) rfl hHeld ?_
  (try simp only [Act.put, nrmS])
  refine wpAnyH_done (by kernel_rfl) ?_ _
  clear hHeld HS1 HST HL
  have hfw8 : Fr (fun _ => False) w W8.drew := (hf1.trans0 (unhide HF8)).drew
  obtain ⟨W9, hdel, hm9, hf9⟩ := ((unhide HX).1.fr0 hfw8).wm.del (by have := (unhide HK).2.2.2.2; omega) Tryz.underlying56 (k := i + 1) (by have := (unhide HK).2.2.1; have := (unhide HK).2.2.2.1; omega) (by rw [fW_at (unhide HK).1 (unhide HK).2.1]; rfl) 0
  have hdel' : (Builtin.delete_ #[56, 24] 0 #[.map (some mw), .agg #[.int .u32 (c : Nat), .int .u32 ((i : Int) + 1)]]).run Tryz.prog W8.drew = .ok (.tuple #[]) W9 := hdel
  have hf19 : Fr (fun g => g = mw ∨ g = ma ∨ dv.ownBlock = some g) W1 W9 := ((unhide HF8).drew.mono (fun _ _ e => e.elim)).trans hf9 (fun _ _ e => .inl e)
  have hfm9 : Fr (fun g => g = mw) w W9 := (hfw8.mono (fun _ _ e => e.elim)).trans hf9 (fun _ _ e => e)
  have HD9 := hide hdel'
  have H9 := hide (And.intro hm9 (And.intro hf19 hfm9))
  clear hdel hdel' hm9 hf9 hf19 hfm9
  go_wp2_with fail
  refine wp_region_held_drew (S := (fun W => W.cell? ⟨d, 1, none⟩ = some (.map (some mw)) ∧ W.cell? ⟨w.heap.size, 0, none⟩ = some (.int .u32 (c : Nat)) ∧ W.cell? ⟨w.heap.size, 1, none⟩ = some (.int .u32 ((i : Int) + 1)))) (by kernel_rfl) ((unhide HS3) _ ((unhide HF8).drew.mono (fun _ _ e => e.elim))) (fun hHeld => ?_)
  refine wtk2S (i := 0) rfl hHeld ?_
  (try simp only [Act.put, nrmS])
  refine wtk2S (i := 1) rfl hHeld ?_
  (try simp only [Act.put, nrmS])
  refine wtk2S (i := 2) rfl hHeld ?_
  (try simp only [Act.put, nrmS])
  refine wtk2S (i := 3) rfl hHeld ?_
  (try simp only [Act.put, nrmS])
  refine wtk2S (i := 4) rfl hHeld ?_
  (try simp only [Act.put, nrmS])
  refine wtk2S (i := 5) rfl hHeld ?_
  (try simp only [Act.put, nrmS])
  refine wpAnyH_ready (rs := [6]) (by kernel_rfl) (by simp) (AllReadyH.cons rfl (fun K hK => ?_) AllReadyH.nil)
  refine step_del rfl 56 24 (.tmp 23) (.tmp 25) rfl _ _ _ (by simp [Act.eval]) (by simp [Act.eval]) (unhide HD9) ?_
  refine hK.out _ _ ((unhide HS3) _ (unhide H9).2.1) (fun hHeld => ?_)
  clear hK K
  (try simp only [Act.put, nrmS])
  refine wpAnyH_done (by kernel_rfl) ?_ _
  clear hHeld HS3 HD9 hfw8
  go_wp2_with fail
  refine wp_region_held_drew (S := (fun W => W.cell? ⟨d, 2, none⟩ = some (.map (some ma)) ∧ W.cell? ⟨w.heap.size, 0, none⟩ = some (.int .u32 (c : Nat)) ∧ W.cell? ⟨w.heap.size, 1, none⟩ = some (.int .u32 ((i : Int) + 1)) ∧ W.rangeAt w.heap.size 0 [.int .u32 (c : Nat), .int .u32 ((i : Int) + 1), .int .u8 (co : Nat), .int .u32 (rc : Nat), .int .u32 (ve : Nat), fv, hv])) (by kernel_rfl) ((unhide HS4) _ (unhide H9).2.1.drew) (fun hHeld => ?_)
  refine wtk2S (i := 0) rfl hHeld ?_
  (try simp only [Act.put, nrmS])
  refine wtk2S (i := 1) rfl hHeld ?_
  (try simp only [Act.put, nrmS])
  refine wtk2S (i := 2) rfl hHeld ?_
  (try simp only [Act.put, nrmS])
  refine wtk2S (i := 3) rfl hHeld ?_
  (try simp only [Act.put, nrmS])
  refine wtk2S (i := 4) rfl hHeld ?_
  (try simp only [Act.put, nrmS])
  refine wtk2S (i := 5) rfl hHeld ?_
  (try simp only [Act.put, nrmS])
  refine wtkS (i := 6) rfl (yieldsIf_load_mid rfl 47 (.tmp 3) rfl w.heap.size 0 rfl _ _ (fun w h => h.2.2.2) Tryz.underlying47 rfl Tryz.sizeAn) hHeld ?_
  (try simp only [Act.put, nrmS])
  refine wpAnyH_ready (rs := [7]) (by kernel_rfl) (by simp) (AllReadyH.cons rfl (fun K hK => ?_) AllReadyH.nil)
  have HOA := hide (ownAns_any ⟨c, i + 1, co, rc, ve, fv, hv⟩ F.length H.length (fcells F) (scells H) W9.drew ((unhide HX).2.1.fr (unhide H9).2.2.drew (rd_not (unhide HX).2.1 (unhide HM).1)) ((unhide HX).2.2.fr (unhide H9).2.2.drew (rd_not (unhide HX).2.2 (unhide HM).1)) hFl hHl)
  go_simp
  refine (unhide HOA).mono ?_
  rintro e W10 ⟨v, u, rfl, hF10, hH10, hf10⟩
  clear HOA
  have hf110 : Fr (fun g => g = mw ∨ g = ma ∨ dv.ownBlock = some g) W1 W10 := (unhide H9).2.1.drew.trans hf10 (fun _ _ e => e.elim)
  have hfm10 : Fr (fun g => g = mw) w W10 := (unhide H9).2.2.drew.trans hf10 (fun _ _ e => e.elim)
  have hm10 : MpR W10 mw c (nW cs - 1) (fun j => if j = i + 1 then none else fW cs j) := (unhide H9).1.keep (hf10.block mw (by obtain ⟨e, k, hb⟩ := (unhide H9).1.blk; exact lt_of_block hb) (fun h => h))
  have ham : MpR W10 ma c (nA cs) (fA cs) := (unhide HX).1.am.keep (hfm10.block ma ((unhide HX).1.lt ma (unhide HX).1.own.2.2) (fun e => (unhide HX).1.ap e.symm))
  have hnn := nWA cs
  obtain ⟨W11, hup, ha11, hf11⟩ := ham.put (by have := (unhide HK).2.2.2.2; omega) (by have := (unhide HK).2.2.2.1; omega) Tryz.underlying57 (k := i + 1) (by have := (unhide HK).2.2.1; have := (unhide HK).2.2.2.1; omega) (AN.v ⟨c, i + 1, co, rc, ve, v, u⟩)
  rw [fA_wt (unhide HK).1 (unhide HK).2.1] at ha11
  have hup' : (Instr.mapUpdate 57 (.map (some ma)) (.agg #[.int .u32 (c : Nat), .int .u32 ((i : Int) + 1)]) (AN.v ⟨c, i + 1, co, rc, ve, v, u⟩)).run Tryz.prog W10 = .ok () W11 := hup
  have hf111 : Fr (fun g => g = mw ∨ g = ma ∨ dv.ownBlock = some g) W1 W11 := hf110.trans hf11 (fun _ _ e => .inr (.inl e))
  have hfm11 : Fr (fun g => g = mw ∨ g = ma) w W11 := (hfm10.mono (fun _ _ e => .inl e)).trans hf11 (fun _ _ e => .inr e)
  have hm11 : MpR W11 mw c (nW cs - 1) (fun j => if j = i + 1 then none else fW cs j) := hm10.keep (hf11.block mw (by obtain ⟨e, k, hb⟩ := hm10.blk; exact lt_of_block hb) (unhide HX).1.ap)
  have hszw : w.heap.size ≤ W9.heap.size := (unhide H9).2.2.size
  have hmal := (unhide HX).1.lt ma (unhide HX).1.own.2.2
  have hF11 : W11.ownsRow w.heap.size 70 5 v F.length (fcells F) := ownsRow_baseS (ownsRow_of_blockS hF10 (fun g hg => hf11.block g (hF10.lt g hg).2 (fun e => by have := (hF10.lt g hg).1; have : W9.drew.heap.size = W9.heap.size := rfl; omega))) hszw
  have hH11 : W11.ownsRow w.heap.size 119 4 u H.length (scells H) := ownsRow_baseS (ownsRow_of_blockS hH10 (fun g hg => hf11.block g (hH10.lt g hg).2 (fun e => by have := (hH10.lt g hg).1; have : W9.drew.heap.size = W9.heap.size := rfl; omega))) hszw
  have HUP := hide hup'
  have H11 := hide (And.intro ha11 (And.intro hf111 (And.intro hfm11 (And.intro hm11 (And.intro hF11 hH11)))))
  have HF10 := hide hf110
  clear hup hup' ha11 hf11 hf111 hfm11 hm11 hF11 hH11 hF10 hH10 hf10 hfm10 hm10 ham hnn hszw hmal
  try dsimp only
  refine hK.out _ _ ((unhide HS4) _ hf110) (fun hHeld => ?_)
  clear hK K
  (try simp only [Act.put, nrmS])
  clear hf110
  refine wpAnyH_ready (rs := [8]) (by kernel_rfl) (by simp) (AllReadyH.cons rfl (fun K hK => ?_) AllReadyH.nil)
  refine step_mu rfl 57 (.tmp 29) (.tmp 31) (.tmp 33) rfl _ _ _ (by simp [Act.eval]) (by simp [Act.eval]) (by simp [Act.eval]) (unhide HUP) ?_
  refine hK.out _ _ ((unhide HS4) _ (unhide H11).2.1) (fun hHeld => ?_)
  clear hK K
  (try simp only [Act.put, nrmS])
  refine wpAnyH_done (by kernel_rfl) ?_ _
  clear hHeld HS4 HUP HF10
  go_wp2_with fail
  have hdo : W11.ownsRow 0 24 2 dv dn.length (icells (dn.map fun k => (c, k))) := ownsRow_of_blockS (unhide HX).1.dn.o (fun g hg => (unhide H11).2.2.1.block g ((unhide HX).1.dn.o.lt g hg).2 (fun e => by
    have h1 := (unhide HX).1.dn.ne (unhide HX).1 (by decide) hg
    rcases e with e | e
    · exact h1.2.1 e
    · exact h1.2.2 e))
  obtain ⟨ao, cap, W13, hap, ho13, hf13, ht13⟩ := app_id W11.drew dv (dn.map fun k => (c, k)) (c, i + 1) (by rw [List.length_map]; exact hdo) (by rw [List.length_map]; exact hdl)
  rw [List.length_map] at hap ho13 ht13
  have hap' : (Builtin.append_ #[54, 54] 54 #[dv, .slice (some ⟨W11.heap.size, 0, none⟩) 1 1]).run Tryz.prog (W11.drew.alloc (.cells #[.int .u32 (c : Nat), .int .u32 ((i : Int) + 1)] 24)) = .ok (.slice ao (dn.length + 1) cap) W13 := hap
  have hf113 : Fr (fun g => g = mw ∨ g = ma ∨ dv.ownBlock = some g) W1 W13 := (unhide H11).2.1.drew.trans hf13 (fun _ _ e => .inr (.inr e))
  have HAP := hide hap'
  have H13 := hide (And.intro ho13 (And.intro hf13 (And.intro ht13 hf113)))
  clear hap hap' ho13 hf13 ht13 hf113 hdo
  refine wp_region_lastS (n := 11) (m := 11) (S := (fun W => W.cell? ⟨d, 3, none⟩ = some dv ∧ W.cell? ⟨w.heap.size, 0, none⟩ = some (.int .u32 (c : Nat)) ∧ W.cell? ⟨w.heap.size, 1, none⟩ = some (.int .u32 ((i : Int) + 1)))) (by kernel_rfl) rfl rfl rfl (by kernel_rfl) (by kernel_rfl) ((unhide HS5) _ (unhide H11).2.1.drew) (fun hHeld => ?_)
  refine wtk2S (i := 0) rfl hHeld ?_
  (try simp only [Act.put, nrmS])
  refine wtk2S (i := 1) rfl hHeld ?_
  (try simp only [Act.put, nrmS])
  refine wtk2S (i := 2) rfl hHeld ?_
  (try simp only [Act.put, nrmS])
  refine wtk2S (i := 3) rfl hHeld ?_
  (try simp only [Act.put, nrmS])
  refine wtk2S (i := 4) rfl hHeld ?_
  (try simp only [Act.put, nrmS])
  refine wtk2S (i := 5) rfl hHeld ?_
  (try simp only [Act.put, nrmS])
  refine wtk2S (i := 6) rfl hHeld ?_
  (try simp only [Act.put, nrmS])
  refine wpAnyH_ready (rs := [7]) (by kernel_rfl) (by simp) (AllReadyH.cons rfl (fun K hK => ?_) AllReadyH.nil)
  go_simp
  refine hK.out _ _ ((unhide HS5) _ ((unhide H11).2.1.drew.alloc _)) (fun hHeld => ?_)
  clear hK K
  (try simp only [Act.put, nrmS])
  refine wpAnyH_ready (rs := [8]) (by kernel_rfl) (by simp) (AllReadyH.cons rfl (fun K hK => ?_) AllReadyH.nil)
  refine step_appS rfl (.tmp 38) (.tmp 41) 54 54 rfl _ _ _ (by simp [Act.eval]) (by simp [Act.eval]) (unhide HAP) ?_
  refine hK.out _ _ ((unhide HS5) _ (unhide H13).2.2.2) (fun hHeld => ?_)
  clear hK K
  (try simp only [Act.put, nrmS])
  refine wtk2S (i := 9) rfl hHeld ?_
  (try simp only [Act.put, nrmS])
  refine wtk2S (i := 10) rfl hHeld ?_
  (try simp only [Act.put, nrmS])
  refine wpAnyH_done (by kernel_rfl) ?_ _
  have hb13 := ((unhide HS) _ (unhide H13).2.2.2).1
  have c3 : W13.cell? ⟨d, 3, none⟩ = some dv := cell_of_blkS hb13 rfl
  have z3 : W13.frozen? ⟨d, 3, none⟩ = false := frz_of_blk hb13
  have hblk := blkset hb13 3 (.slice ao (dn.length + 1) cap)
  have hbl2 : (W13.setCell ⟨d, 3, none⟩ (.slice ao (dn.length + 1) cap)).heap[d]? = some (.cells #[.int .u32 (c : Nat), .map (some mw), .map (some ma), .slice ao (dn.length + 1) cap] 59) := by simpa using hblk
  have HEND : Hid (∃ v u dv', SsAt (W13.setCell ⟨d, 3, none⟩ (.slice ao (dn.length + 1) cap)) d mw ma c (cs.set i { q with d := some ⟨⟨c, i + 1, co, rc, ve, v, u⟩, F, H⟩ }) (dn ++ [i + 1]) dv' (fun g => T g ∨ Nb w (W13.setCell ⟨d, 3, none⟩ (.slice ao (dn.length + 1) cap)) g) ∧ Fr (fun g => g = mw ∨ g = ma ∨ dv.ownBlock = some g ∨ g = d) w (W13.setCell ⟨d, 3, none⟩ (.slice ao (dn.length + 1) cap))) := hide (by
    have h := (unhide HX).1
    have h11 := unhide H11
    have h13 := unhide H13
    have hlt := h.lt d h.own.1
    have hfw : Fr (fun g => g = mw ∨ g = ma ∨ dv.ownBlock = some g ∨ g = d) w (W13.setCell ⟨d, 3, none⟩ (.slice ao (dn.length + 1) cap)) := by
      refine Fr.setCell (p := ⟨d, 3, none⟩) ?_ (.inl (.inr (.inr (.inr rfl)))) _
      refine (h11.2.2.1.drew.mono (fun g _ e => ?_)).trans h13.2.1 (fun g _ e => .inr (.inr (.inl e)))
      rcases e with e | e
      · exact .inl e
      · exact .inr (.inl e)
    have hk : ∀ g, W11.heap[g]? ≠ none → dv.ownBlock ≠ some g → g ≠ d → (W13.setCell ⟨d, 3, none⟩ (.slice ao (dn.length + 1) cap)).heap[g]? = W11.heap[g]? := fun g hg h1 h2 => by
      have hgl : g < W11.heap.size := by
        rcases Nat.lt_or_ge g W11.heap.size with hx | hx
        · exact hx
        · exact absurd (Array.getElem?_eq_none hx) hg
      exact (Below.heap_setCell W13 ⟨d, 3, none⟩ _ g h2).trans (h13.2.1.block g hgl h1)
    have hdm := h.dm
    have hnd : ∀ g, dv.ownBlock = some g → g ≠ d ∧ g ≠ mw ∧ g ≠ ma := fun g hg => h.dn.ne h (by decide) hg
    have hdvl : ∀ g, dv.ownBlock = some g → g < w.heap.size := fun g hg => (h.dn.o.lt g hg).2
    have hmw := h11.2.2.2.1.keep (w' := W13.setCell ⟨d, 3, none⟩ (.slice ao (dn.length + 1) cap)) (hk mw (by obtain ⟨a, b, hb⟩ := h11.2.2.2.1.blk; rw [hb]; simp) (fun e => (hnd mw e).2.1 rfl) (fun e => hdm.1 e.symm))
    have hma := h11.1.keep (w' := W13.setCell ⟨d, 3, none⟩ (.slice ao (dn.length + 1) cap)) (hk ma (by obtain ⟨a, b, hb⟩ := h11.1.blk; rw [hb]; simp) (fun e => (hnd ma e).2.2 rfl) (fun e => hdm.2 e.symm))
    have hrow : ∀ {e z n : Nat} {x : Value} {xs : List Value}, W11.ownsRow w.heap.size e z x n xs → (W13.setCell ⟨d, 3, none⟩ (.slice ao (dn.length + 1) cap)).ownsRow w.heap.size e z x n xs := fun hr => ownsRow_of_blockS hr (fun g hg => by
      have hgl := hr.lt g hg
      refine hk g (by rw [Array.getElem?_eq_getElem hgl.2]; simp) (fun e => ?_) (by omega)
      have := hdvl g e
      omega)
    refine ⟨_, _, .slice ao (dn.length + 1) cap, h.answer (unhide HK).1 (unhide HK).2.1 ⟨c, i + 1, co, rc, ve, v, u⟩ F H hFl hHl (by omega) _ hfw hbl2 hmw (by simpa using hma) ?_ (fun g hg => ?_) (hrow h11.2.2.2.2.1) (hrow h11.2.2.2.2.2), hfw⟩
    · rw [List.map_append]
      refine ownsRow_of_blockS h13.1 (fun g hg => Below.heap_setCell W13 ⟨d, 3, none⟩ _ g (fun e => ?_))
      obtain ⟨cur, hb⟩ := own_blk h13.1 hg
      have e2 : g = d := e
      rw [e2, hb13] at hb
      simp at hb
    · rcases h13.2.2.1 g hg with e | e
      · exact .inl e
      · exact .inr (Nat.le_trans h11.2.2.1.size e))
  clear HX HM HK HS HF8 H9 H11 H13 HAP hblk hbl2 hb13 hHeld HS5
  simp only [lastQS]
  go_simp
  go_wp2_with fail
  go_ret
  exact ⟨rfl, unhide HEND⟩
end Go.Proofs.YtjkkonhhnmjcaaaGreatDoor

namespace Go.Proofs.YtjkkonhhnmjcaaaGreatDoor
open Go.RowKit Go.Maps

set_option maxRecDepth 100000 in
set_option maxHeartbeats 4000000 in
theorem sta_none (d mw ma cl nu co rc ve : Nat) (fv hv : Value)  (w : World) (c1 : w.cell? ⟨d, 1, none⟩ = some (.map (some mw))) (c2 : w.cell? ⟨d, 2, none⟩ = some (.map (some ma)))
    (hL : ∀ W', Fr (fun _ => False) w W' → (Instr.lookup 56 (.map (some mw)) (.agg #[.int .u32 (cl : Nat), .int .u32 (nu : Nat)]) true).run Tryz.prog W' = .ok (.tuple #[.agg [.int .u32 0, .int .u32 0, .int .u32 0, .int .u8 0, .int .u32 0, .int .u32 0, .int .u32 0, .int .u32 0, .slice none 0 0, .string ⟨#[]⟩, .int .i64 0, .int .i64 0].toArray, .bool false]) W') (hM : ∀ W', Fr (fun _ => False) w W' → (Instr.lookup 57 (.map (some ma)) (.agg #[.int .u32 (cl : Nat), .int .u32 (nu : Nat)]) true).run Tryz.prog W' = .ok (.tuple #[.agg [.int .u32 0, .int .u32 0, .int .u8 0, .int .u32 0, .int .u32 0, .slice none 0 0, .slice none 0 0].toArray, .bool false]) W')  :
    Calls Tryz.prog 20 #[.pointer (some ⟨d, 0, none⟩), .agg #[.int .u32 (cl : Nat), .int .u32 (nu : Nat), .int .u8 (co : Nat), .int .u32 (rc : Nat), .int .u32 (ve : Nat), fv, hv]] w fun e w' => e = .returned (.int .i64 15) ∧ Fr (fun _ => False) w w' := by
  have hd : d < w.heap.size := lt_of_cell c1
  have HS : Hid (∀ W', Fr (fun _ => False) (w.alloc (.cells #[.int .u32 (cl : Nat), .int .u32 (nu : Nat), .int .u8 (co : Nat), .int .u32 (rc : Nat), .int .u32 (ve : Nat), fv, hv] 47)) W' → (W'.cell? ⟨d, 1, none⟩ = some (.map (some mw)) ∧ W'.cell? ⟨d, 2, none⟩ = some (.map (some ma))) ∧ W'.heap[w.heap.size]? = some (.cells #[.int .u32 (cl : Nat), .int .u32 (nu : Nat), .int .u8 (co : Nat), .int .u32 (rc : Nat), .int .u32 (ve : Nat), fv, hv] 47) ∧ Fr (fun _ => False) w W') := hide (fun W' hf =>
    ⟨⟨((box1S w _).trans0 hf).cell (p := ⟨d, 1, none⟩) hd (fun h => h) |>.trans c1, ((box1S w _).trans0 hf).cell (p := ⟨d, 2, none⟩) hd (fun h => h) |>.trans c2⟩, (hf.block _ (by simp) (fun h => h)).trans (heap_alloc_new w _), (box1S w _).trans0 hf⟩)
  have HL := hide hL
  have HM := hide hM
  clear hL hM c1 c2
  go_enter Tryz.func20, Tryz.ntmps20
  go_wp2_with fail
  obtain ⟨W1, hW1⟩ : ∃ W1, w.alloc (.cells #[.int .u32 (cl : Nat), .int .u32 (nu : Nat), .int .u8 (co : Nat), .int .u32 (rc : Nat), .int .u32 (ve : Nat), fv, hv] 47) = W1 := ⟨_, rfl⟩
  have hf1 : Fr (fun _ => False) w W1 := by rw [← hW1]; exact box1S w _
  have HZ : Hid (W1.heap.size = w.heap.size + 1) := hide (by rw [← hW1]; simp)
  rw [hW1] at HS
  rw [hW1]
  clear hW1
  have HSW : Hid (∀ W', Fr (fun _ => False) W1 W' → W'.cell? ⟨d, 1, none⟩ = some (.map (some mw)) ∧ W'.cell? ⟨w.heap.size, 0, none⟩ = some (.int .u32 (cl : Nat)) ∧ W'.cell? ⟨w.heap.size, 1, none⟩ = some (.int .u32 (nu : Nat)) ∧ (Instr.lookup 56 (.map (some mw)) (.agg #[.int .u32 (cl : Nat), .int .u32 (nu : Nat)]) true).run Tryz.prog W' = .ok (.tuple #[.agg [.int .u32 0, .int .u32 0, .int .u32 0, .int .u8 0, .int .u32 0, .int .u32 0, .int .u32 0, .int .u32 0, .slice none 0 0, .string ⟨#[]⟩, .int .i64 0, .int .i64 0].toArray, .bool false]) W') := hide (fun W' hf => by
    have hb := (unhide HS) W' hf
    exact ⟨hb.1.1, cell_of_blkS hb.2.1 rfl, cell_of_blkS hb.2.1 rfl, (unhide HL) W' hb.2.2⟩)
  have HSA : Hid (∀ W', Fr (fun _ => False) W1 W' → W'.cell? ⟨d, 2, none⟩ = some (.map (some ma)) ∧ W'.cell? ⟨w.heap.size, 0, none⟩ = some (.int .u32 (cl : Nat)) ∧ W'.cell? ⟨w.heap.size, 1, none⟩ = some (.int .u32 (nu : Nat)) ∧ (Instr.lookup 57 (.map (some ma)) (.agg #[.int .u32 (cl : Nat), .int .u32 (nu : Nat)]) true).run Tryz.prog W' = .ok (.tuple #[.agg [.int .u32 0, .int .u32 0, .int .u8 0, .int .u32 0, .int .u32 0, .slice none 0 0, .slice none 0 0].toArray, .bool false]) W') := hide (fun W' hf => by
    have hb := (unhide HS) W' hf
    exact ⟨hb.1.2, cell_of_blkS hb.2.1 rfl, cell_of_blkS hb.2.1 rfl, (unhide HM) W' hb.2.2⟩)
  refine wp_region_held_drew (S := (fun W => W.cell? ⟨d, 1, none⟩ = some (.map (some mw)) ∧ W.cell? ⟨w.heap.size, 0, none⟩ = some (.int .u32 (cl : Nat)) ∧ W.cell? ⟨w.heap.size, 1, none⟩ = some (.int .u32 (nu : Nat)) ∧ (Instr.lookup 56 (.map (some mw)) (.agg #[.int .u32 (cl : Nat), .int .u32 (nu : Nat)]) true).run Tryz.prog W = .ok (.tuple #[.agg [.int .u32 0, .int .u32 0, .int .u32 0, .int .u8 0, .int .u32 0, .int .u32 0, .int .u32 0, .int .u32 0, .slice none 0 0, .string ⟨#[]⟩, .int .i64 0, .int .i64 0].toArray, .bool false]) W)) (by kernel_rfl) ((unhide HSW) _ (Fr.refl _ _).drew) (fun hHeld => ?_)
  refine wtk2S (i := 0) rfl hHeld ?_
  (try simp only [Act.put, nrmS])
  refine wtk2S (i := 1) rfl hHeld ?_
  (try simp only [Act.put, nrmS])
  refine wtk2S (i := 2) rfl hHeld ?_
  (try simp only [Act.put, nrmS])
  refine wtk2S (i := 3) rfl hHeld ?_
  (try simp only [Act.put, nrmS])
  refine wtk2S (i := 4) rfl hHeld ?_
  (try simp only [Act.put, nrmS])
  refine wtk2S (i := 5) rfl hHeld ?_
  (try simp only [Act.put, nrmS])
  refine wtk2S (i := 6) rfl hHeld ?_
  (try simp only [Act.put, nrmS])
  refine wtk2S (i := 7) rfl hHeld ?_
  (try simp only [Act.put, nrmS])
  refine wtk2S (i := 8) rfl hHeld ?_
  (try simp only [Act.put, nrmS])
  refine wtk2S (i := 9) rfl hHeld ?_
  (try simp only [Act.put, nrmS])
  refine wpAnyH_ready (rs := [10]) (by kernel_rfl) (by simp) (AllReadyH.cons rfl (fun K hK => ?_) AllReadyH.nil)
  go_simp
  refine hK.out _ _ ((unhide HSW) _ ((Fr.refl _ _).drew.alloc _)) (fun hHeld => ?_)
  clear hK K
  (try simp only [Act.put, nrmS])
  have hb0 : (W1.drew.alloc (.cells [.int .u32 0, .int .u32 0, .int .u32 0, .int .u8 0, .int .u32 0, .int .u32 0, .int .u32 0, .int .u32 0, .slice none 0 0, .string ⟨#[]⟩, .int .i64 0, .int .i64 0].toArray 62)).heap[W1.heap.size]? = some (.cells [.int .u32 0, .int .u32 0, .int .u32 0, .int .u8 0, .int .u32 0, .int .u32 0, .int .u32 0, .int .u32 0, .slice none 0 0, .string ⟨#[]⟩, .int .i64 0, .int .i64 0].toArray 62) := heap_alloc_new W1.drew _
  obtain ⟨W8, hst, hb8, hf8⟩ := st_all (P := Tryz.prog) (ty := 62) [.int .u32 0, .int .u32 0, .int .u32 0, .int .u8 0, .int .u32 0, .int .u32 0, .int .u32 0, .int .u32 0, .slice none 0 0, .string ⟨#[]⟩, .int .i64 0, .int .i64 0] [.int .u32 0, .int .u32 0, .int .u32 0, .int .u8 0, .int .u32 0, .int .u32 0, .int .u32 0, .int .u32 0, .slice none 0 0, .string ⟨#[]⟩, .int .i64 0, .int .i64 0] hb0 rfl Tryz.sizeCa (List.all_eq_true.1 (show List.all ([.int .u32 0, .int .u32 0, .int .u32 0, .int .u8 0, .int .u32 0, .int .u32 0, .int .u32 0, .int .u32 0, .slice none 0 0, .string ⟨#[]⟩, .int .i64 0, .int .i64 0] : List Value) (fun v => v.oneCell') = true from rfl))
  have hf18 : Fr (fun _ => False) W1 W8 := ((Fr.refl _ _).drew.alloc _).trans hf8 (fun k hk e => by omega)
  have HF8 := hide hf18
  have HST := hide hst
  clear hst hb8 hf8 hf18 hb0
  refine wpAnyH_ready (rs := [11]) (by kernel_rfl) (by simp) (AllReadyH.cons rfl (fun K hK => ?_) AllReadyH.nil)
  refine step_stN rfl 62 (.tmp 5) (.tmp 17) rfl _ _ (by simp [Act.eval]) (by simp [Act.eval]) (unhide HST) ?_
  refine hK.out _ _ ((unhide HSW) _ (unhide HF8)) (fun hHeld => ?_)
  clear hK K
  (try simp only [Act.put, nrmS])
  refine wtk2S (i := 12) rfl hHeld ?_
  (try simp only [Act.put, nrmS])
  refine wpAnyH_done (by kernel_rfl) ?_ _
  clear hHeld HSW HST
  go_wp2_with fail
  refine wp_region_held_drew (S := (fun W => W.cell? ⟨d, 2, none⟩ = some (.map (some ma)) ∧ W.cell? ⟨w.heap.size, 0, none⟩ = some (.int .u32 (cl : Nat)) ∧ W.cell? ⟨w.heap.size, 1, none⟩ = some (.int .u32 (nu : Nat)) ∧ (Instr.lookup 57 (.map (some ma)) (.agg #[.int .u32 (cl : Nat), .int .u32 (nu : Nat)]) true).run Tryz.prog W = .ok (.tuple #[.agg [.int .u32 0, .int .u32 0, .int .u8 0, .int .u32 0, .int .u32 0, .slice none 0 0, .slice none 0 0].toArray, .bool false]) W)) (by kernel_rfl) ((unhide HSA) _ ((unhide HF8).drew)) (fun hHeld => ?_)
  refine wtk2S (i := 0) rfl hHeld ?_
  (try simp only [Act.put, nrmS])
  refine wtk2S (i := 1) rfl hHeld ?_
  (try simp only [Act.put, nrmS])
  refine wtk2S (i := 2) rfl hHeld ?_
  (try simp only [Act.put, nrmS])
  refine wtk2S (i := 3) rfl hHeld ?_
  (try simp only [Act.put, nrmS])
  refine wtk2S (i := 4) rfl hHeld ?_
  (try simp only [Act.put, nrmS])
  refine wtk2S (i := 5) rfl hHeld ?_
  (try simp only [Act.put, nrmS])
  refine wtk2S (i := 6) rfl hHeld ?_
  (try simp only [Act.put, nrmS])
  refine wtk2S (i := 7) rfl hHeld ?_
  (try simp only [Act.put, nrmS])
  refine wtk2S (i := 8) rfl hHeld ?_
  (try simp only [Act.put, nrmS])
  refine wtk2S (i := 9) rfl hHeld ?_
  (try simp only [Act.put, nrmS])
  refine wpAnyH_ready (rs := [10]) (by kernel_rfl) (by simp) (AllReadyH.cons rfl (fun K hK => ?_) AllReadyH.nil)
  go_simp
  refine hK.out _ _ ((unhide HSA) _ ((unhide HF8).drew.alloc _)) (fun hHeld => ?_)
  clear hK K
  (try simp only [Act.put, nrmS])
  have hb0 : (W8.drew.alloc (.cells [.int .u32 0, .int .u32 0, .int .u8 0, .int .u32 0, .int .u32 0, .slice none 0 0, .slice none 0 0].toArray 47)).heap[W8.heap.size]? = some (.cells [.int .u32 0, .int .u32 0, .int .u8 0, .int .u32 0, .int .u32 0, .slice none 0 0, .slice none 0 0].toArray 47) := heap_alloc_new W8.drew _
  obtain ⟨W9, hst, hb9, hf9⟩ := st_all (P := Tryz.prog) (ty := 47) [.int .u32 0, .int .u32 0, .int .u8 0, .int .u32 0, .int .u32 0, .slice none 0 0, .slice none 0 0] [.int .u32 0, .int .u32 0, .int .u8 0, .int .u32 0, .int .u32 0, .slice none 0 0, .slice none 0 0] hb0 rfl Tryz.sizeAn (List.all_eq_true.1 (show List.all ([.int .u32 0, .int .u32 0, .int .u8 0, .int .u32 0, .int .u32 0, .slice none 0 0, .slice none 0 0] : List Value) (fun v => v.oneCell') = true from rfl))
  have hs18 := (unhide HF8).size
  have hf19 : Fr (fun _ => False) W1 W9 := ((unhide HF8).drew.alloc _).trans hf9 (fun k hk e => by omega)
  have HF9 := hide (And.intro (hf1.trans0 hf19) (And.intro hf19 hb9))
  have HST := hide hst
  clear hst hb9 hf9 hf19 hb0 hs18
  refine wpAnyH_ready (rs := [11]) (by kernel_rfl) (by simp) (AllReadyH.cons rfl (fun K hK => ?_) AllReadyH.nil)
  refine step_stN rfl 47 (.tmp 7) (.tmp 53) rfl _ _ (by simp [Act.eval]) (by simp [Act.eval]) (unhide HST) ?_
  refine hK.out _ _ ((unhide HSA) _ (unhide HF9).2.1) (fun hHeld => ?_)
  clear hK K
  (try simp only [Act.put, nrmS])
  refine wtk2S (i := 12) rfl hHeld ?_
  (try simp only [Act.put, nrmS])
  refine wpAnyH_done (by kernel_rfl) ?_ _
  clear hHeld HSA HST
  go_wp2_with fail
  go_ret
  exact ⟨rfl, (unhide HF9).1⟩
set_option maxRecDepth 100000 in
set_option maxHeartbeats 4000000 in
theorem sta_same (d mw ma cl nu co rc ve : Nat) (fv hv : Value) (A : AN) (h7 : ∀ v ∈ A.cs, v.oneCell' = true) (w : World) (c1 : w.cell? ⟨d, 1, none⟩ = some (.map (some mw))) (c2 : w.cell? ⟨d, 2, none⟩ = some (.map (some ma)))
    (hL : ∀ W', Fr (fun _ => False) w W' → (Instr.lookup 56 (.map (some mw)) (.agg #[.int .u32 (cl : Nat), .int .u32 (nu : Nat)]) true).run Tryz.prog W' = .ok (.tuple #[.agg [.int .u32 0, .int .u32 0, .int .u32 0, .int .u8 0, .int .u32 0, .int .u32 0, .int .u32 0, .int .u32 0, .slice none 0 0, .string ⟨#[]⟩, .int .i64 0, .int .i64 0].toArray, .bool false]) W') (hM : ∀ W', Fr (fun _ => False) w W' → (Instr.lookup 57 (.map (some ma)) (.agg #[.int .u32 (cl : Nat), .int .u32 (nu : Nat)]) true).run Tryz.prog W' = .ok (.tuple #[.agg A.cs.toArray, .bool true]) W') (hQ : ∀ W', Fr (fun _ => False) w W' → Calls Tryz.prog 32 #[.agg A.cs.toArray, .agg #[.int .u32 (cl : Nat), .int .u32 (nu : Nat), .int .u8 (co : Nat), .int .u32 (rc : Nat), .int .u32 (ve : Nat), fv, hv]] W' fun e w' => e = .returned (.bool true) ∧ Fr (fun _ => False) W' w') :
    Calls Tryz.prog 20 #[.pointer (some ⟨d, 0, none⟩), .agg #[.int .u32 (cl : Nat), .int .u32 (nu : Nat), .int .u8 (co : Nat), .int .u32 (rc : Nat), .int .u32 (ve : Nat), fv, hv]] w fun e w' => e = .returned (.int .i64 0) ∧ Fr (fun _ => False) w w' := by
  have hd : d < w.heap.size := lt_of_cell c1
  have HS : Hid (∀ W', Fr (fun _ => False) (w.alloc (.cells #[.int .u32 (cl : Nat), .int .u32 (nu : Nat), .int .u8 (co : Nat), .int .u32 (rc : Nat), .int .u32 (ve : Nat), fv, hv] 47)) W' → (W'.cell? ⟨d, 1, none⟩ = some (.map (some mw)) ∧ W'.cell? ⟨d, 2, none⟩ = some (.map (some ma))) ∧ W'.heap[w.heap.size]? = some (.cells #[.int .u32 (cl : Nat), .int .u32 (nu : Nat), .int .u8 (co : Nat), .int .u32 (rc : Nat), .int .u32 (ve : Nat), fv, hv] 47) ∧ Fr (fun _ => False) w W') := hide (fun W' hf =>
    ⟨⟨((box1S w _).trans0 hf).cell (p := ⟨d, 1, none⟩) hd (fun h => h) |>.trans c1, ((box1S w _).trans0 hf).cell (p := ⟨d, 2, none⟩) hd (fun h => h) |>.trans c2⟩, (hf.block _ (by simp) (fun h => h)).trans (heap_alloc_new w _), (box1S w _).trans0 hf⟩)
  have HL := hide hL
  have HM := hide hM
  clear hL hM c1 c2
  have HQ := hide hQ
  clear hQ
  go_enter Tryz.func20, Tryz.ntmps20
  go_wp2_with fail
  obtain ⟨W1, hW1⟩ : ∃ W1, w.alloc (.cells #[.int .u32 (cl : Nat), .int .u32 (nu : Nat), .int .u8 (co : Nat), .int .u32 (rc : Nat), .int .u32 (ve : Nat), fv, hv] 47) = W1 := ⟨_, rfl⟩
  have hf1 : Fr (fun _ => False) w W1 := by rw [← hW1]; exact box1S w _
  have HZ : Hid (W1.heap.size = w.heap.size + 1) := hide (by rw [← hW1]; simp)
  rw [hW1] at HS
  rw [hW1]
  clear hW1
  have HSW : Hid (∀ W', Fr (fun _ => False) W1 W' → W'.cell? ⟨d, 1, none⟩ = some (.map (some mw)) ∧ W'.cell? ⟨w.heap.size, 0, none⟩ = some (.int .u32 (cl : Nat)) ∧ W'.cell? ⟨w.heap.size, 1, none⟩ = some (.int .u32 (nu : Nat)) ∧ (Instr.lookup 56 (.map (some mw)) (.agg #[.int .u32 (cl : Nat), .int .u32 (nu : Nat)]) true).run Tryz.prog W' = .ok (.tuple #[.agg [.int .u32 0, .int .u32 0, .int .u32 0, .int .u8 0, .int .u32 0, .int .u32 0, .int .u32 0, .int .u32 0, .slice none 0 0, .string ⟨#[]⟩, .int .i64 0, .int .i64 0].toArray, .bool false]) W') := hide (fun W' hf => by
    have hb := (unhide HS) W' hf
    exact ⟨hb.1.1, cell_of_blkS hb.2.1 rfl, cell_of_blkS hb.2.1 rfl, (unhide HL) W' hb.2.2⟩)
  have HSA : Hid (∀ W', Fr (fun _ => False) W1 W' → W'.cell? ⟨d, 2, none⟩ = some (.map (some ma)) ∧ W'.cell? ⟨w.heap.size, 0, none⟩ = some (.int .u32 (cl : Nat)) ∧ W'.cell? ⟨w.heap.size, 1, none⟩ = some (.int .u32 (nu : Nat)) ∧ (Instr.lookup 57 (.map (some ma)) (.agg #[.int .u32 (cl : Nat), .int .u32 (nu : Nat)]) true).run Tryz.prog W' = .ok (.tuple #[.agg A.cs.toArray, .bool true]) W') := hide (fun W' hf => by
    have hb := (unhide HS) W' hf
    exact ⟨hb.1.2, cell_of_blkS hb.2.1 rfl, cell_of_blkS hb.2.1 rfl, (unhide HM) W' hb.2.2⟩)
  refine wp_region_held_drew (S := (fun W => W.cell? ⟨d, 1, none⟩ = some (.map (some mw)) ∧ W.cell? ⟨w.heap.size, 0, none⟩ = some (.int .u32 (cl : Nat)) ∧ W.cell? ⟨w.heap.size, 1, none⟩ = some (.int .u32 (nu : Nat)) ∧ (Instr.lookup 56 (.map (some mw)) (.agg #[.int .u32 (cl : Nat), .int .u32 (nu : Nat)]) true).run Tryz.prog W = .ok (.tuple #[.agg [.int .u32 0, .int .u32 0, .int .u32 0, .int .u8 0, .int .u32 0, .int .u32 0, .int .u32 0, .int .u32 0, .slice none 0 0, .string ⟨#[]⟩, .int .i64 0, .int .i64 0].toArray, .bool false]) W)) (by kernel_rfl) ((unhide HSW) _ (Fr.refl _ _).drew) (fun hHeld => ?_)
  refine wtk2S (i := 0) rfl hHeld ?_
  (try simp only [Act.put, nrmS])
  refine wtk2S (i := 1) rfl hHeld ?_
  (try simp only [Act.put, nrmS])
  refine wtk2S (i := 2) rfl hHeld ?_
  (try simp only [Act.put, nrmS])
  refine wtk2S (i := 3) rfl hHeld ?_
  (try simp only [Act.put, nrmS])
  refine wtk2S (i := 4) rfl hHeld ?_
  (try simp only [Act.put, nrmS])
  refine wtk2S (i := 5) rfl hHeld ?_
  (try simp only [Act.put, nrmS])
  refine wtk2S (i := 6) rfl hHeld ?_
  (try simp only [Act.put, nrmS])
  refine wtk2S (i := 7) rfl hHeld ?_
  (try simp only [Act.put, nrmS])
  refine wtk2S (i := 8) rfl hHeld ?_
  (try simp only [Act.put, nrmS])
  refine wtk2S (i := 9) rfl hHeld ?_
  (try simp only [Act.put, nrmS])
  refine wpAnyH_ready (rs := [10]) (by kernel_rfl) (by simp) (AllReadyH.cons rfl (fun K hK => ?_) AllReadyH.nil)
  go_simp
  refine hK.out _ _ ((unhide HSW) _ ((Fr.refl _ _).drew.alloc _)) (fun hHeld => ?_)
  clear hK K
  (try simp only [Act.put, nrmS])
  have hb0 : (W1.drew.alloc (.cells [.int .u32 0, .int .u32 0, .int .u32 0, .int .u8 0, .int .u32 0, .int .u32 0, .int .u32 0, .int .u32 0, .slice none 0 0, .string ⟨#[]⟩, .int .i64 0, .int .i64 0].toArray 62)).heap[W1.heap.size]? = some (.cells [.int .u32 0, .int .u32 0, .int .u32 0, .int .u8 0, .int .u32 0, .int .u32 0, .int .u32 0, .int .u32 0, .slice none 0 0, .string ⟨#[]⟩, .int .i64 0, .int .i64 0].toArray 62) := heap_alloc_new W1.drew _
  obtain ⟨W8, hst, hb8, hf8⟩ := st_all (P := Tryz.prog) (ty := 62) [.int .u32 0, .int .u32 0, .int .u32 0, .int .u8 0, .int .u32 0, .int .u32 0, .int .u32 0, .int .u32 0, .slice none 0 0, .string ⟨#[]⟩, .int .i64 0, .int .i64 0] [.int .u32 0, .int .u32 0, .int .u32 0, .int .u8 0, .int .u32 0, .int .u32 0, .int .u32 0, .int .u32 0, .slice none 0 0, .string ⟨#[]⟩, .int .i64 0, .int .i64 0] hb0 rfl Tryz.sizeCa (List.all_eq_true.1 (show List.all ([.int .u32 0, .int .u32 0, .int .u32 0, .int .u8 0, .int .u32 0, .int .u32 0, .int .u32 0, .int .u32 0, .slice none 0 0, .string ⟨#[]⟩, .int .i64 0, .int .i64 0] : List Value) (fun v => v.oneCell') = true from rfl))
  have hf18 : Fr (fun _ => False) W1 W8 := ((Fr.refl _ _).drew.alloc _).trans hf8 (fun k hk e => by omega)
  have HF8 := hide hf18
  have HST := hide hst
  clear hst hb8 hf8 hf18 hb0
  refine wpAnyH_ready (rs := [11]) (by kernel_rfl) (by simp) (AllReadyH.cons rfl (fun K hK => ?_) AllReadyH.nil)
  refine step_stN rfl 62 (.tmp 5) (.tmp 17) rfl _ _ (by simp [Act.eval]) (by simp [Act.eval]) (unhide HST) ?_
  refine hK.out _ _ ((unhide HSW) _ (unhide HF8)) (fun hHeld => ?_)
  clear hK K
  (try simp only [Act.put, nrmS])
  refine wtk2S (i := 12) rfl hHeld ?_
  (try simp only [Act.put, nrmS])
  refine wpAnyH_done (by kernel_rfl) ?_ _
  clear hHeld HSW HST
  go_wp2_with fail
  refine wp_region_held_drew (S := (fun W => W.cell? ⟨d, 2, none⟩ = some (.map (some ma)) ∧ W.cell? ⟨w.heap.size, 0, none⟩ = some (.int .u32 (cl : Nat)) ∧ W.cell? ⟨w.heap.size, 1, none⟩ = some (.int .u32 (nu : Nat)) ∧ (Instr.lookup 57 (.map (some ma)) (.agg #[.int .u32 (cl : Nat), .int .u32 (nu : Nat)]) true).run Tryz.prog W = .ok (.tuple #[.agg A.cs.toArray, .bool true]) W)) (by kernel_rfl) ((unhide HSA) _ ((unhide HF8).drew)) (fun hHeld => ?_)
  refine wtk2S (i := 0) rfl hHeld ?_
  (try simp only [Act.put, nrmS])
  refine wtk2S (i := 1) rfl hHeld ?_
  (try simp only [Act.put, nrmS])
  refine wtk2S (i := 2) rfl hHeld ?_
  (try simp only [Act.put, nrmS])
  refine wtk2S (i := 3) rfl hHeld ?_
  (try simp only [Act.put, nrmS])
  refine wtk2S (i := 4) rfl hHeld ?_
  (try simp only [Act.put, nrmS])
  refine wtk2S (i := 5) rfl hHeld ?_
  (try simp only [Act.put, nrmS])
  refine wtk2S (i := 6) rfl hHeld ?_
  (try simp only [Act.put, nrmS])
  refine wtk2S (i := 7) rfl hHeld ?_
  (try simp only [Act.put, nrmS])
  refine wtk2S (i := 8) rfl hHeld ?_
  (try simp only [Act.put, nrmS])
  refine wtk2S (i := 9) rfl hHeld ?_
  (try simp only [Act.put, nrmS])
  refine wpAnyH_ready (rs := [10]) (by kernel_rfl) (by simp) (AllReadyH.cons rfl (fun K hK => ?_) AllReadyH.nil)
  go_simp
  refine hK.out _ _ ((unhide HSA) _ ((unhide HF8).drew.alloc _)) (fun hHeld => ?_)
  clear hK K
  (try simp only [Act.put, nrmS])
  have hb0 : (W8.drew.alloc (.cells [.int .u32 0, .int .u32 0, .int .u8 0, .int .u32 0, .int .u32 0, .slice none 0 0, .slice none 0 0].toArray 47)).heap[W8.heap.size]? = some (.cells [.int .u32 0, .int .u32 0, .int .u8 0, .int .u32 0, .int .u32 0, .slice none 0 0, .slice none 0 0].toArray 47) := heap_alloc_new W8.drew _
  obtain ⟨W9, hst, hb9, hf9⟩ := st_all (P := Tryz.prog) (ty := 47) [.int .u32 0, .int .u32 0, .int .u8 0, .int .u32 0, .int .u32 0, .slice none 0 0, .slice none 0 0] A.cs hb0 rfl Tryz.sizeAn h7
  have hs18 := (unhide HF8).size
  have hf19 : Fr (fun _ => False) W1 W9 := ((unhide HF8).drew.alloc _).trans hf9 (fun k hk e => by omega)
  have HF9 := hide (And.intro (hf1.trans0 hf19) (And.intro hf19 hb9))
  have HST := hide hst
  clear hst hb9 hf9 hf19 hb0 hs18
  refine wpAnyH_ready (rs := [11]) (by kernel_rfl) (by simp) (AllReadyH.cons rfl (fun K hK => ?_) AllReadyH.nil)
  refine step_stN rfl 47 (.tmp 7) (.tmp 53) rfl _ _ (by simp [Act.eval]) (by simp [Act.eval]) (unhide HST) ?_
  refine hK.out _ _ ((unhide HSA) _ (unhide HF9).2.1) (fun hHeld => ?_)
  clear hK K
  (try simp only [Act.put, nrmS])
  refine wtk2S (i := 12) rfl hHeld ?_
  (try simp only [Act.put, nrmS])
  refine wpAnyH_done (by kernel_rfl) ?_ _
  clear hHeld HSA HST
  have hr1 : W9.rangeAt W8.heap.size 0 A.cs := range_of_block (unhide HF9).2.2
  have hr2 : W9.rangeAt w.heap.size 0 [.int .u32 (cl : Nat), .int .u32 (nu : Nat), .int .u8 (co : Nat), .int .u32 (rc : Nat), .int .u32 (ve : Nat), fv, hv] := range_of_block ((unhide HS) _ (unhide HF9).2.1).2.1
  have HR1 := hide hr1
  have HR2 := hide hr2
  have HC := hide ((unhide HQ) W9 (unhide HF9).1)
  have HFF := hide (unhide HF9).1
  clear hr1 hr2 HQ HF9 HS HL HM HF8 HZ hf1
  go_wp2_with (first | refine wpList_load_mid rfl 47 (.tmp 7) rfl W8.heap.size 0 rfl _ _ (unhide HR1) Tryz.underlying47 rfl Tryz.sizeAn ?_ | refine wpList_load_mid rfl 47 (.tmp 3) rfl w.heap.size 0 rfl _ _ (unhide HR2) Tryz.underlying47 rfl Tryz.sizeAn ?_)
  refine (unhide HC).mono ?_
  rintro e W10 ⟨rfl, hf10⟩
  go_wp2_with fail
  go_ret
  exact ⟨rfl, (unhide HFF).trans0 hf10⟩
set_option maxRecDepth 100000 in
set_option maxHeartbeats 4000000 in
theorem sta_other (d mw ma cl nu co rc ve : Nat) (fv hv : Value) (A : AN) (h7 : ∀ v ∈ A.cs, v.oneCell' = true) (w : World) (c1 : w.cell? ⟨d, 1, none⟩ = some (.map (some mw))) (c2 : w.cell? ⟨d, 2, none⟩ = some (.map (some ma)))
    (hL : ∀ W', Fr (fun _ => False) w W' → (Instr.lookup 56 (.map (some mw)) (.agg #[.int .u32 (cl : Nat), .int .u32 (nu : Nat)]) true).run Tryz.prog W' = .ok (.tuple #[.agg [.int .u32 0, .int .u32 0, .int .u32 0, .int .u8 0, .int .u32 0, .int .u32 0, .int .u32 0, .int .u32 0, .slice none 0 0, .string ⟨#[]⟩, .int .i64 0, .int .i64 0].toArray, .bool false]) W') (hM : ∀ W', Fr (fun _ => False) w W' → (Instr.lookup 57 (.map (some ma)) (.agg #[.int .u32 (cl : Nat), .int .u32 (nu : Nat)]) true).run Tryz.prog W' = .ok (.tuple #[.agg A.cs.toArray, .bool true]) W') (hQ : ∀ W', Fr (fun _ => False) w W' → Calls Tryz.prog 32 #[.agg A.cs.toArray, .agg #[.int .u32 (cl : Nat), .int .u32 (nu : Nat), .int .u8 (co : Nat), .int .u32 (rc : Nat), .int .u32 (ve : Nat), fv, hv]] W' fun e w' => e = .returned (.bool false) ∧ Fr (fun _ => False) W' w') :
    Calls Tryz.prog 20 #[.pointer (some ⟨d, 0, none⟩), .agg #[.int .u32 (cl : Nat), .int .u32 (nu : Nat), .int .u8 (co : Nat), .int .u32 (rc : Nat), .int .u32 (ve : Nat), fv, hv]] w fun e w' => e = .returned (.int .i64 4) ∧ Fr (fun _ => False) w w' := by
  have hd : d < w.heap.size := lt_of_cell c1
  have HS : Hid (∀ W', Fr (fun _ => False) (w.alloc (.cells #[.int .u32 (cl : Nat), .int .u32 (nu : Nat), .int .u8 (co : Nat), .int .u32 (rc : Nat), .int .u32 (ve : Nat), fv, hv] 47)) W' → (W'.cell? ⟨d, 1, none⟩ = some (.map (some mw)) ∧ W'.cell? ⟨d, 2, none⟩ = some (.map (some ma))) ∧ W'.heap[w.heap.size]? = some (.cells #[.int .u32 (cl : Nat), .int .u32 (nu : Nat), .int .u8 (co : Nat), .int .u32 (rc : Nat), .int .u32 (ve : Nat), fv, hv] 47) ∧ Fr (fun _ => False) w W') := hide (fun W' hf =>
    ⟨⟨((box1S w _).trans0 hf).cell (p := ⟨d, 1, none⟩) hd (fun h => h) |>.trans c1, ((box1S w _).trans0 hf).cell (p := ⟨d, 2, none⟩) hd (fun h => h) |>.trans c2⟩, (hf.block _ (by simp) (fun h => h)).trans (heap_alloc_new w _), (box1S w _).trans0 hf⟩)
  have HL := hide hL
  have HM := hide hM
  clear hL hM c1 c2
  have HQ := hide hQ
  clear hQ
  go_enter Tryz.func20, Tryz.ntmps20
  go_wp2_with fail
  obtain ⟨W1, hW1⟩ : ∃ W1, w.alloc (.cells #[.int .u32 (cl : Nat), .int .u32 (nu : Nat), .int .u8 (co : Nat), .int .u32 (rc : Nat), .int .u32 (ve : Nat), fv, hv] 47) = W1 := ⟨_, rfl⟩
  have hf1 : Fr (fun _ => False) w W1 := by rw [← hW1]; exact box1S w _
  have HZ : Hid (W1.heap.size = w.heap.size + 1) := hide (by rw [← hW1]; simp)
  rw [hW1] at HS
  rw [hW1]
  clear hW1
  have HSW : Hid (∀ W', Fr (fun _ => False) W1 W' → W'.cell? ⟨d, 1, none⟩ = some (.map (some mw)) ∧ W'.cell? ⟨w.heap.size, 0, none⟩ = some (.int .u32 (cl : Nat)) ∧ W'.cell? ⟨w.heap.size, 1, none⟩ = some (.int .u32 (nu : Nat)) ∧ (Instr.lookup 56 (.map (some mw)) (.agg #[.int .u32 (cl : Nat), .int .u32 (nu : Nat)]) true).run Tryz.prog W' = .ok (.tuple #[.agg [.int .u32 0, .int .u32 0, .int .u32 0, .int .u8 0, .int .u32 0, .int .u32 0, .int .u32 0, .int .u32 0, .slice none 0 0, .string ⟨#[]⟩, .int .i64 0, .int .i64 0].toArray, .bool false]) W') := hide (fun W' hf => by
    have hb := (unhide HS) W' hf
    exact ⟨hb.1.1, cell_of_blkS hb.2.1 rfl, cell_of_blkS hb.2.1 rfl, (unhide HL) W' hb.2.2⟩)
  have HSA : Hid (∀ W', Fr (fun _ => False) W1 W' → W'.cell? ⟨d, 2, none⟩ = some (.map (some ma)) ∧ W'.cell? ⟨w.heap.size, 0, none⟩ = some (.int .u32 (cl : Nat)) ∧ W'.cell? ⟨w.heap.size, 1, none⟩ = some (.int .u32 (nu : Nat)) ∧ (Instr.lookup 57 (.map (some ma)) (.agg #[.int .u32 (cl : Nat), .int .u32 (nu : Nat)]) true).run Tryz.prog W' = .ok (.tuple #[.agg A.cs.toArray, .bool true]) W') := hide (fun W' hf => by
    have hb := (unhide HS) W' hf
    exact ⟨hb.1.2, cell_of_blkS hb.2.1 rfl, cell_of_blkS hb.2.1 rfl, (unhide HM) W' hb.2.2⟩)
  refine wp_region_held_drew (S := (fun W => W.cell? ⟨d, 1, none⟩ = some (.map (some mw)) ∧ W.cell? ⟨w.heap.size, 0, none⟩ = some (.int .u32 (cl : Nat)) ∧ W.cell? ⟨w.heap.size, 1, none⟩ = some (.int .u32 (nu : Nat)) ∧ (Instr.lookup 56 (.map (some mw)) (.agg #[.int .u32 (cl : Nat), .int .u32 (nu : Nat)]) true).run Tryz.prog W = .ok (.tuple #[.agg [.int .u32 0, .int .u32 0, .int .u32 0, .int .u8 0, .int .u32 0, .int .u32 0, .int .u32 0, .int .u32 0, .slice none 0 0, .string ⟨#[]⟩, .int .i64 0, .int .i64 0].toArray, .bool false]) W)) (by kernel_rfl) ((unhide HSW) _ (Fr.refl _ _).drew) (fun hHeld => ?_)
  refine wtk2S (i := 0) rfl hHeld ?_
  (try simp only [Act.put, nrmS])
  refine wtk2S (i := 1) rfl hHeld ?_
  (try simp only [Act.put, nrmS])
  refine wtk2S (i := 2) rfl hHeld ?_
  (try simp only [Act.put, nrmS])
  refine wtk2S (i := 3) rfl hHeld ?_
  (try simp only [Act.put, nrmS])
  refine wtk2S (i := 4) rfl hHeld ?_
  (try simp only [Act.put, nrmS])
  refine wtk2S (i := 5) rfl hHeld ?_
  (try simp only [Act.put, nrmS])
  refine wtk2S (i := 6) rfl hHeld ?_
  (try simp only [Act.put, nrmS])
  refine wtk2S (i := 7) rfl hHeld ?_
  (try simp only [Act.put, nrmS])
  refine wtk2S (i := 8) rfl hHeld ?_
  (try simp only [Act.put, nrmS])
  refine wtk2S (i := 9) rfl hHeld ?_
  (try simp only [Act.put, nrmS])
  refine wpAnyH_ready (rs := [10]) (by kernel_rfl) (by simp) (AllReadyH.cons rfl (fun K hK => ?_) AllReadyH.nil)
  go_simp
  refine hK.out _ _ ((unhide HSW) _ ((Fr.refl _ _).drew.alloc _)) (fun hHeld => ?_)
  clear hK K
  (try simp only [Act.put, nrmS])
  have hb0 : (W1.drew.alloc (.cells [.int .u32 0, .int .u32 0, .int .u32 0, .int .u8 0, .int .u32 0, .int .u32 0, .int .u32 0, .int .u32 0, .slice none 0 0, .string ⟨#[]⟩, .int .i64 0, .int .i64 0].toArray 62)).heap[W1.heap.size]? = some (.cells [.int .u32 0, .int .u32 0, .int .u32 0, .int .u8 0, .int .u32 0, .int .u32 0, .int .u32 0, .int .u32 0, .slice none 0 0, .string ⟨#[]⟩, .int .i64 0, .int .i64 0].toArray 62) := heap_alloc_new W1.drew _
  obtain ⟨W8, hst, hb8, hf8⟩ := st_all (P := Tryz.prog) (ty := 62) [.int .u32 0, .int .u32 0, .int .u32 0, .int .u8 0, .int .u32 0, .int .u32 0, .int .u32 0, .int .u32 0, .slice none 0 0, .string ⟨#[]⟩, .int .i64 0, .int .i64 0] [.int .u32 0, .int .u32 0, .int .u32 0, .int .u8 0, .int .u32 0, .int .u32 0, .int .u32 0, .int .u32 0, .slice none 0 0, .string ⟨#[]⟩, .int .i64 0, .int .i64 0] hb0 rfl Tryz.sizeCa (List.all_eq_true.1 (show List.all ([.int .u32 0, .int .u32 0, .int .u32 0, .int .u8 0, .int .u32 0, .int .u32 0, .int .u32 0, .int .u32 0, .slice none 0 0, .string ⟨#[]⟩, .int .i64 0, .int .i64 0] : List Value) (fun v => v.oneCell') = true from rfl))
  have hf18 : Fr (fun _ => False) W1 W8 := ((Fr.refl _ _).drew.alloc _).trans hf8 (fun k hk e => by omega)
  have HF8 := hide hf18
  have HST := hide hst
  clear hst hb8 hf8 hf18 hb0
  refine wpAnyH_ready (rs := [11]) (by kernel_rfl) (by simp) (AllReadyH.cons rfl (fun K hK => ?_) AllReadyH.nil)
  refine step_stN rfl 62 (.tmp 5) (.tmp 17) rfl _ _ (by simp [Act.eval]) (by simp [Act.eval]) (unhide HST) ?_
  refine hK.out _ _ ((unhide HSW) _ (unhide HF8)) (fun hHeld => ?_)
  clear hK K
  (try simp only [Act.put, nrmS])
  refine wtk2S (i := 12) rfl hHeld ?_
  (try simp only [Act.put, nrmS])
  refine wpAnyH_done (by kernel_rfl) ?_ _
  clear hHeld HSW HST
  go_wp2_with fail
  refine wp_region_held_drew (S := (fun W => W.cell? ⟨d, 2, none⟩ = some (.map (some ma)) ∧ W.cell? ⟨w.heap.size, 0, none⟩ = some (.int .u32 (cl : Nat)) ∧ W.cell? ⟨w.heap.size, 1, none⟩ = some (.int .u32 (nu : Nat)) ∧ (Instr.lookup 57 (.map (some ma)) (.agg #[.int .u32 (cl : Nat), .int .u32 (nu : Nat)]) true).run Tryz.prog W = .ok (.tuple #[.agg A.cs.toArray, .bool true]) W)) (by kernel_rfl) ((unhide HSA) _ ((unhide HF8).drew)) (fun hHeld => ?_)
  refine wtk2S (i := 0) rfl hHeld ?_
  (try simp only [Act.put, nrmS])
  refine wtk2S (i := 1) rfl hHeld ?_
  (try simp only [Act.put, nrmS])
  refine wtk2S (i := 2) rfl hHeld ?_
  (try simp only [Act.put, nrmS])
  refine wtk2S (i := 3) rfl hHeld ?_
  (try simp only [Act.put, nrmS])
  refine wtk2S (i := 4) rfl hHeld ?_
  (try simp only [Act.put, nrmS])
  refine wtk2S (i := 5) rfl hHeld ?_
  (try simp only [Act.put, nrmS])
  refine wtk2S (i := 6) rfl hHeld ?_
  (try simp only [Act.put, nrmS])
  refine wtk2S (i := 7) rfl hHeld ?_
  (try simp only [Act.put, nrmS])
  refine wtk2S (i := 8) rfl hHeld ?_
  (try simp only [Act.put, nrmS])
  refine wtk2S (i := 9) rfl hHeld ?_
  (try simp only [Act.put, nrmS])
  refine wpAnyH_ready (rs := [10]) (by kernel_rfl) (by simp) (AllReadyH.cons rfl (fun K hK => ?_) AllReadyH.nil)
  go_simp
  refine hK.out _ _ ((unhide HSA) _ ((unhide HF8).drew.alloc _)) (fun hHeld => ?_)
  clear hK K
  (try simp only [Act.put, nrmS])
  have hb0 : (W8.drew.alloc (.cells [.int .u32 0, .int .u32 0, .int .u8 0, .int .u32 0, .int .u32 0, .slice none 0 0, .slice none 0 0].toArray 47)).heap[W8.heap.size]? = some (.cells [.int .u32 0, .int .u32 0, .int .u8 0, .int .u32 0, .int .u32 0, .slice none 0 0, .slice none 0 0].toArray 47) := heap_alloc_new W8.drew _
  obtain ⟨W9, hst, hb9, hf9⟩ := st_all (P := Tryz.prog) (ty := 47) [.int .u32 0, .int .u32 0, .int .u8 0, .int .u32 0, .int .u32 0, .slice none 0 0, .slice none 0 0] A.cs hb0 rfl Tryz.sizeAn h7
  have hs18 := (unhide HF8).size
  have hf19 : Fr (fun _ => False) W1 W9 := ((unhide HF8).drew.alloc _).trans hf9 (fun k hk e => by omega)
  have HF9 := hide (And.intro (hf1.trans0 hf19) (And.intro hf19 hb9))
  have HST := hide hst
  clear hst hb9 hf9 hf19 hb0 hs18
  refine wpAnyH_ready (rs := [11]) (by kernel_rfl) (by simp) (AllReadyH.cons rfl (fun K hK => ?_) AllReadyH.nil)
  refine step_stN rfl 47 (.tmp 7) (.tmp 53) rfl _ _ (by simp [Act.eval]) (by simp [Act.eval]) (unhide HST) ?_
  refine hK.out _ _ ((unhide HSA) _ (unhide HF9).2.1) (fun hHeld => ?_)
  clear hK K
  (try simp only [Act.put, nrmS])
  refine wtk2S (i := 12) rfl hHeld ?_
  (try simp only [Act.put, nrmS])
  refine wpAnyH_done (by kernel_rfl) ?_ _
  clear hHeld HSA HST
  have hr1 : W9.rangeAt W8.heap.size 0 A.cs := range_of_block (unhide HF9).2.2
  have hr2 : W9.rangeAt w.heap.size 0 [.int .u32 (cl : Nat), .int .u32 (nu : Nat), .int .u8 (co : Nat), .int .u32 (rc : Nat), .int .u32 (ve : Nat), fv, hv] := range_of_block ((unhide HS) _ (unhide HF9).2.1).2.1
  have HR1 := hide hr1
  have HR2 := hide hr2
  have HC := hide ((unhide HQ) W9 (unhide HF9).1)
  have HFF := hide (unhide HF9).1
  clear hr1 hr2 HQ HF9 HS HL HM HF8 HZ hf1
  go_wp2_with (first | refine wpList_load_mid rfl 47 (.tmp 7) rfl W8.heap.size 0 rfl _ _ (unhide HR1) Tryz.underlying47 rfl Tryz.sizeAn ?_ | refine wpList_load_mid rfl 47 (.tmp 3) rfl w.heap.size 0 rfl _ _ (unhide HR2) Tryz.underlying47 rfl Tryz.sizeAn ?_)
  refine (unhide HC).mono ?_
  rintro e W10 ⟨rfl, hf10⟩
  go_wp2_with fail
  go_ret
  exact ⟨rfl, (unhide HFF).trans0 hf10⟩
end Go.Proofs.YtjkkonhhnmjcaaaGreatDoor

