import Derived.Test.YtkiepcdncegniaaZal
namespace Go.Proofs.Ytkiepcdncegniaa
open Go.RowKit

theorem AN.one (a : AN) (h : a.fv.oneCell' = true) (h2 : a.hv.oneCell' = true) : ∀ v ∈ a.cs, v.oneCell' = true := by
  intro v hv
  simp [AN.cs] at hv
  rcases hv with rfl | rfl | rfl | rfl | rfl | rfl | rfl <;> first | rfl | exact h | exact h2
set_option maxRecDepth 100000 in
set_option maxHeartbeats 2000000 in
/-- ownAnswer. -/
theorem ownAns_any (a : AN) (n m : Nat) (cs ds : List Value) (w : World) (hx : Rd w a.fv n 5 cs) (hy : Rd w a.hv m 4 ds) (hl : n ≤ 1048576) (hm : m ≤ 1048576) :
    Calls Try.prog 33 #[a.v] w fun e w' => ∃ v u, e = .returned (AN.v { a with fv := v, hv := u }) ∧ w'.ownsRow w.heap.size 79 5 v n cs ∧ w'.ownsRow w.heap.size 81 4 u m ds ∧ Fr (fun _ => False) w w' := by
  obtain ⟨cl, nu, co, rc, ve, fv, hv⟩ := a
  simp only at hx hy
  have HX := hide (And.intro hx hy)
  clear hx hy
  simp only [AN.v, AN.cs]
  go_enter Try.func33, Try.ntmps33
  go_wp2_with fail
  obtain ⟨W2, hW2⟩ : ∃ W2, (w.alloc (.cells #[.int .u32 (cl : Nat), .int .u32 (nu : Nat), .int .u8 (co : Nat), .int .u32 (rc : Nat), .int .u32 (ve : Nat), fv, hv] 44)).alloc (.cells #[.int .u32 0, .int .u32 0, .int .u8 0, .int .u32 0, .int .u32 0, .slice none 0 0, .slice none 0 0] 44) = W2 := ⟨_, rfl⟩
  have hf2 : Fr (fun _ => False) w W2 := by rw [← hW2]; exact (box1 w _).alloc _
  have hb1 : W2.heap[w.heap.size]? = some (.cells #[.int .u32 (cl : Nat), .int .u32 (nu : Nat), .int .u8 (co : Nat), .int .u32 (rc : Nat), .int .u32 (ve : Nat), fv, hv] 44) := by rw [← hW2]; exact (Below.heap_alloc _ _ _ (by simp)).trans (heap_alloc_new w _)
  have hb2 : W2.heap[w.heap.size + 1]? = some (.cells #[.int .u32 0, .int .u32 0, .int .u8 0, .int .u32 0, .int .u32 0, .slice none 0 0, .slice none 0 0] 44) := by
    rw [← hW2]
    have := heap_alloc_new (w.alloc (.cells #[.int .u32 (cl : Nat), .int .u32 (nu : Nat), .int .u8 (co : Nat), .int .u32 (rc : Nat), .int .u32 (ve : Nat), fv, hv] 44)) (.cells #[.int .u32 0, .int .u32 0, .int .u8 0, .int .u32 0, .int .u32 0, .slice none 0 0, .slice none 0 0] 44)
    rwa [World.size_alloc] at this
  have hs2 : w.heap.size + 2 ≤ W2.heap.size := by have := lt_of_block hb2; omega
  rw [hW2]
  clear hW2
  have HB := hide (And.intro hf2 (And.intro hb1 (And.intro hb2 hs2)))
  have HK : Hid (∀ W', Fr (fun _ => False) W2 W' → W'.heap[w.heap.size]? = some (.cells #[.int .u32 (cl : Nat), .int .u32 (nu : Nat), .int .u8 (co : Nat), .int .u32 (rc : Nat), .int .u32 (ve : Nat), fv, hv] 44) ∧ W'.heap[w.heap.size + 1]? = some (.cells #[.int .u32 0, .int .u32 0, .int .u8 0, .int .u32 0, .int .u32 0, .slice none 0 0, .slice none 0 0] 44)) := hide (fun W' hf => ⟨(hf.block _ (lt_of_block hb1) (fun h => h)).trans hb1, (hf.block _ (lt_of_block hb2) (fun h => h)).trans hb2⟩)
  have HS : Hid (∀ W', Fr (fun _ => False) W2 W' → W'.cell? ⟨w.heap.size, 5, none⟩ = some fv ∧ W'.cell? ⟨w.heap.size, 6, none⟩ = some hv) := hide (fun W' hf => by
    have h := ((unhide HK) W' hf).1
    exact ⟨by simp [World.cell?, h], by simp [World.cell?, h]⟩)
  clear hf2 hb1 hb2 hs2
  refine wp_region_last3 (n := 7) (m1 := 7) (m2 := 8) (m3 := 9) (S := (fun W => W.cell? ⟨w.heap.size, 5, none⟩ = some fv ∧ W.cell? ⟨w.heap.size, 6, none⟩ = some hv)) (by kernel_rfl) rfl rfl rfl rfl rfl rfl rfl (by kernel_rfl) (by kernel_rfl) (by kernel_rfl) (by kernel_rfl) (by decide) ((unhide HS) _ (Fr.refl _ _).drew) (fun hHeld => ?_)
  refine wtk2 (i := 0) rfl hHeld ?_
  (try simp only [Act.put, nrm])
  refine wtk2 (i := 1) rfl hHeld ?_
  (try simp only [Act.put, nrm])
  refine wtk2 (i := 3) rfl hHeld ?_
  (try simp only [Act.put, nrm])
  refine wtk2 (i := 4) rfl hHeld ?_
  (try simp only [Act.put, nrm])
  refine wpAnyH_ready (rs := [2]) (by kernel_rfl) (by simp) (AllReadyH.cons rfl (fun K hK => ?_) AllReadyH.nil)
  go_simp
  refine (cloneField fv n cs _ ((unhide HX).1.fr0 ((unhide HB).1.trans0 (Fr.refl _ _).drew)) hl).mono ?_
  rintro e w3 ⟨v, rfl, hown, hf3⟩
  have hf3' : Fr (fun _ => False) W2 w3 := (Fr.refl _ _).drew.trans0 hf3
  have HO := hide (And.intro hown hf3')
  clear hown hf3
  try dsimp only
  refine hK.out _ _ ((unhide HS) _ hf3') (fun hHeld => ?_)
  clear hK K
  (try simp only [Act.put, nrm])
  refine wtk2 (i := 6) rfl hHeld ?_
  (try simp only [Act.put, nrm])
  refine wpAnyH_ready (rs := [5]) (by kernel_rfl) (by simp) (AllReadyH.cons rfl (fun K hK => ?_) AllReadyH.nil)
  go_simp
  refine (cloneSummary hv m ds _ ((unhide HX).2.fr0 ((unhide HB).1.trans0 (unhide HO).2)) hm).mono ?_
  rintro e w4 ⟨u, rfl, hown2, hf4⟩
  have hf4' : Fr (fun _ => False) W2 w4 := (unhide HO).2.trans0 hf4
  have HP := hide (And.intro hown2 (And.intro hf4 hf4'))
  clear hown2 hf4
  try dsimp only
  refine hK.out _ _ ((unhide HS) _ hf4') (fun hHeld => ?_)
  clear hK K
  (try simp only [Act.put, nrm])
  refine wpAnyH_done (by kernel_rfl) ?_ _
  have hk := (unhide HK) _ hf4'
  obtain ⟨k1, k2⟩ := hk
  obtain ⟨ao, cap, rfl⟩ := own_formX (unhide HO).1
  obtain ⟨bo, cbp, rfl⟩ := own_formX (unhide HP).1
  have e5 : w4.cell? ⟨w.heap.size, 5, none⟩ = some fv := by simp [World.cell?, k1]
  have e6 : w4.cell? ⟨w.heap.size, 6, none⟩ = some hv := by simp [World.cell?, k1]
  have z5 : w4.frozen? ⟨w.heap.size, 5, none⟩ = false := by simp [World.frozen?, k1]
  have z6 : w4.frozen? ⟨w.heap.size, 6, none⟩ = false := by simp [World.frozen?, k1]
  have k1a := blkset k1 5 (.slice ao n cap)
  have k1b := blkset k1a 6 (.slice bo m cbp)
  have k2b : ((w4.setCell ⟨w.heap.size, 5, none⟩ (.slice ao n cap)).setCell ⟨w.heap.size, 6, none⟩ (.slice bo m cbp)).heap[w.heap.size + 1]? = _ := ((Below.heap_setCell _ ⟨w.heap.size, 6, none⟩ _ (w.heap.size + 1) (by show w.heap.size + 1 ≠ w.heap.size; omega)).trans (Below.heap_setCell w4 ⟨w.heap.size, 5, none⟩ _ (w.heap.size + 1) (by show w.heap.size + 1 ≠ w.heap.size; omega))).trans k2
  have hr4 : ((w4.setCell ⟨w.heap.size, 5, none⟩ (.slice ao n cap)).setCell ⟨w.heap.size, 6, none⟩ (.slice bo m cbp)).rangeAt w.heap.size 0 (AN.cs ⟨cl, nu, co, rc, ve, .slice ao n cap, .slice bo m cbp⟩) := range_of_block (t := 44) (by simpa [AN.cs] using k1b)
  obtain ⟨W8, hst, hb8, hf8⟩ := st_all (P := Try.prog) (ty := 44) [.int .u32 0, .int .u32 0, .int .u8 0, .int .u32 0, .int .u32 0, .slice none 0 0, .slice none 0 0] (AN.cs ⟨cl, nu, co, rc, ve, .slice ao n cap, .slice bo m cbp⟩) k2b rfl Try.sizeAn (AN.one _ rfl rfl)
  have hfb := (unhide HB).1
  have hss := (unhide HB).2.2.2
  have hfin : Fr (fun _ => False) w W8 := by
    refine (Fr.trans (S := fun _ => False) (((hfb.trans0 hf4').setCell (p := ⟨w.heap.size, 5, none⟩) (.inr (Nat.le_refl _)) _).setCell (p := ⟨w.heap.size, 6, none⟩) (.inr (Nat.le_refl _)) _) hf8 (fun k hk e => by omega))
  have hkeep : ∀ g, w.heap.size + 2 ≤ g → g < w4.heap.size → W8.heap[g]? = w4.heap[g]? := fun g hg hgl => by
    have g1 : g ≠ w.heap.size := by omega
    have g2 : g ≠ w.heap.size + 1 := by omega
    exact (hf8.block g (by simpa [World.setCell] using hgl) g2).trans ((Below.heap_setCell _ ⟨w.heap.size, 6, none⟩ _ g g1).trans (Below.heap_setCell w4 ⟨w.heap.size, 5, none⟩ _ g g1))
  have hF : W8.ownsRow w.heap.size 79 5 (.slice ao n cap) n cs := by
    have ho4 := ownsRow_of_block (unhide HO).1 (fun g hg => (unhide HP).2.1.block g ((unhide HO).1.lt g hg).2 (fun h => h))
    refine ownsRow_base (ownsRow_of_block ho4 (fun g hg => hkeep g (Nat.le_trans hss (ho4.lt g hg).1) (ho4.lt g hg).2)) hfb.size
  have hG : W8.ownsRow w.heap.size 81 4 (.slice bo m cbp) m ds := by
    have ho4 := (unhide HP).1
    have hs3 := (unhide HO).2.size
    refine ownsRow_base (ownsRow_of_block ho4 (fun g hg => hkeep g (by have := (ho4.lt g hg).1; omega) (ho4.lt g hg).2)) (Nat.le_trans hfb.size (unhide HO).2.size)
  have HR := hide hr4
  have HST := hide hst
  have HF := hide (And.intro hb8 (And.intro hfin (And.intro hF hG)))
  clear hr4 hst hb8 hf8 hfin hF hG hkeep k1a k1b k2b k1 k2 hfb hss hf3' hf4' hHeld HX HK HB HS HO HP
  simp only [lastQ]
  go_simp
  go_wp2_with (first | refine wpList_load_mid rfl 44 (.tmp 1) rfl w.heap.size 0 rfl _ _ (unhide HR) Try.underlying44 rfl Try.sizeAn ?_ | refine wpList_stN rfl 44 (.tmp 2) (.tmp 11) rfl _ _ rfl rfl (unhide HST) ?_)
  refine bodyPost_ret (results_cell_mid rfl _ _ (w.heap.size + 1) 0 _ _ rfl (range_of_block (t := 44) (unhide HF).1) Try.underlying44 rfl Try.sizeAn) rfl ?_
  exact ⟨_, _, rfl, (unhide HF).2.2.1, (unhide HF).2.2.2, (unhide HF).2.1⟩
end Go.Proofs.Ytkiepcdncegniaa
