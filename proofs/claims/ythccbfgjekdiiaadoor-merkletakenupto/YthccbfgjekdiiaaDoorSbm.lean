import Derived.Test.YthccbfgjekdiiaaDoorSbl
namespace Go.Proofs.YthccbfgjekdiiaaDoor
open Go.RowKit

theorem build_bl (w : World) : (Instr.build 90 #[]).run Tryd.prog w = .ok (.agg (Array.replicate 64 (.int .u8 0))) w := by kernel_rfl
set_option maxRecDepth 100000 in
set_option maxHeartbeats 1000000 in
theorem fin_b (s : S8) (f : Nat → Nat) (t : Nat) (w : World) (hs : s.ok) (hf : ∀ j, j < 64 → f j < 256) (ht : t < 18446744073709551616) (hk : GK w) (hp : ¬ t % 64 < 56) :
    Calls Tryd.prog 84 #[.agg (hv s f t).toArray] w fun e w' => e = .returned (.agg (fin s f t).cells.toArray) ∧ Fr (fun _ => False) w w' := by
  have hz1 := zero_st
  have hz2 := build_bl
  have hfin : fin s f t = fo (fo s (rl (pad f (t % 64)))) (rl (lenk (fun _ => 0) (8 * t % 18446744073709551616) 8)) := by rw [fin, if_neg hp]
  rw [hfin]
  have hbx := box_h s f t w 93 88
  generalize hA : (hv s f t).toArray = A at *
  obtain ⟨W0, hW0⟩ : ∃ W0, (w.alloc (.cells A 93)).alloc (.cells (Array.replicate 8 (.int .u32 0)) 88) = W0 := ⟨_, rfl⟩
  rw [hW0] at hbx
  have r1 : (t : Int) % 64 = ((t % 64 : Nat) : Int) := by omega
  have hd64 : t % 64 < 64 := by omega
  have c72 : W0.cell? ⟨w.heap.size, 72, none⟩ = some (.int .u64 (t : Int)) := by have := hbx.1.tk; rwa [Nat.zero_add] at this
  have hput := hbx.1.put (t % 64) 128 hd64
  have ch : W0.cell? ⟨w.heap.size, 8 + t % 64, none⟩ = some (.int .u8 (f (t % 64) : Nat)) := by have := hbx.1.rs (t % 64) hd64; rwa [Nat.zero_add] at this
  have zh : W0.frozen? ⟨w.heap.size, 8 + t % 64, none⟩ = false := by have := hbx.1.fz (8 + t % 64) (by omega); rwa [Nat.zero_add] at this
  rw [Nat.zero_add] at hput
  have hpad : (fun j => if j = t % 64 then 128 else f j) = pad f (t % 64) := rfl
  rw [hpad] at hput
  generalize hhd : t % 64 = hd at *
  obtain ⟨bt, hbt⟩ : ∃ bt, bt = 8 * t % 18446744073709551616 := ⟨_, rfl⟩
  rw [← hbt]
  have b8 : IntKind.u64.wrap (8 * (t : Int)) = (bt : Int) := by rw [IntKind.wrap_u64]; omega
  have HB := hide (And.intro hbx (And.intro hput (And.intro hs (And.intro hf (And.intro hk (And.intro hbt hhd))))))
  clear hbx hput hs hf hk hbt hhd hA hpad hfin
  have HD : Hid (HsAt (W0.setCell ⟨w.heap.size, 8 + hd, none⟩ (.int .u8 128)) w.heap.size 0 s (pad f hd) t ∧ (∀ j, j < 8 → (W0.setCell ⟨w.heap.size, 8 + hd, none⟩ (.int .u8 128)).cell? ⟨w.heap.size + 1, j, none⟩ = some (.int .u32 0) ∧ (W0.setCell ⟨w.heap.size, 8 + hd, none⟩ (.int .u8 128)).frozen? ⟨w.heap.size + 1, j, none⟩ = false) ∧ Fr (fun _ => False) w (W0.setCell ⟨w.heap.size, 8 + hd, none⟩ (.int .u8 128)) ∧ s.ok ∧ (∀ j, j < 64 → pad f hd j < 256) ∧ GK w) := by
    refine hide ⟨(unhide HB).2.1, fun j hj => ?_, Fr.setCell (unhide HB).1.2.2 (p := ⟨w.heap.size, 8 + hd, none⟩) (.inr (Nat.le_refl _)) _, (unhide HB).2.2.1, fun j hj => ?_, (unhide HB).2.2.2.2.1⟩
    · rw [World.cell?_setCell_other _ _ _ _ (by intro h; injection h with h1 _ _; omega), World.frozen?_setCell]
      exact (unhide HB).1.2.1 j hj
    · unfold pad
      split
      · decide
      · exact (unhide HB).2.2.2.1 j hj
  have hp56 : (56 : Int) ≤ (hd : Int) := by omega
  have hstD := (unhide HD).1.st
  have hrrD := (unhide HD).1.restR
  rw [Nat.zero_add] at hrrD
  have hlrD := rl_len (pad f hd)
  have hltD := rl_lt _ (unhide HD).2.2.2.2.1
  generalize hlD : rl (pad f hd) = lD at *
  have hiD : (Tryd.prog.info? 90).map (·.size) = some (V8 lD).length := by rw [V8_len, hlrD]; exact info_bl
  have hgD := (unhide HD).2.2.2.2.2.fr0 (unhide HD).2.2.1
  generalize hW1 : W0.setCell ⟨w.heap.size, 8 + hd, none⟩ (.int .u8 128) = W1 at *
  have HG := hide (And.intro hstD (And.intro hrrD (And.intro hlrD (And.intro hltD (And.intro hiD (And.intro hgD hlD))))))
  clear hstD hrrD hlrD hltD hiD hgD hlD
  go_enter Tryd.func84, Tryd.ntmps84
  go_wp2_with (first
    | (refine wpList_load_mid rfl 88 (.tmp 14) rfl w.heap.size 0 rfl s.cells _ (unhide HG).1 Tryd.underlying88 rfl info_st ?_)
    | (refine wpList_load_mid rfl 90 (.tmp 16) rfl w.heap.size 8 rfl (V8 lD) _ (unhide HG).2.1 Tryd.underlying90 rfl (unhide HG).2.2.2.2.1 ?_))
  refine (fold_any s lD W1 (unhide HB).2.2.1 (unhide HG).2.2.1 (unhide HG).2.2.2.1 (unhide HG).2.2.2.2.2.1).mono ?_
  rintro e w2 ⟨rfl, hF2⟩
  have hH2 := (unhide HD).1.fr hF2 (fun h => h)
  have hzok := fo_ok s lD
  generalize hz : fo s lD = z0 at *
  have hH3 := hH2.putS z0
  have hH4 := (hH3.putR (List.replicate 64 0) (by simp)).congr (g := fun _ => 0) (fun j hj => by rw [List.getD, List.getElem?_replicate, if_pos hj]; rfl)
  rw [Nat.zero_add] at hH4
  have hthS : w2.there w.heap.size 0 z0.cells.toArray.size := hH2.thereS
  have hthR : (w2.setCells w.heap.size 0 z0.cells).there w.heap.size 8 (Array.replicate 64 (Value.int .u8 0)).size := by
    rw [Array.size_replicate]
    have := hH3.thereR
    rwa [Nat.zero_add] at this
  have hFr3 : Fr (fun _ => False) w ((w2.setCells w.heap.size 0 z0.cells).setCells w.heap.size 8 (V8 (List.replicate 64 0))) := Fr.setCells (Fr.setCells ((unhide HD).2.2.1.trans hF2 (fun _ _ h => h)) (.inr (Nat.le_refl _)) _) (.inr (Nat.le_refl _)) _
  have hFk : Fr (fun k => k = w.heap.size) w2 ((w2.setCells w.heap.size 0 z0.cells).setCells w.heap.size 8 (V8 (List.replicate 64 0))) := Fr.setCells (S := fun k => k = w.heap.size) (Fr.setCells (S := fun k => k = w.heap.size) (Fr.refl _ _) (.inl rfl) _) (.inl rfl) _
  have hRes : ∀ j, j < 8 → ((w2.setCells w.heap.size 0 z0.cells).setCells w.heap.size 8 (V8 (List.replicate 64 0))).cell? ⟨w.heap.size + 1, j, none⟩ = some (.int .u32 0) ∧ ((w2.setCells w.heap.size 0 z0.cells).setCells w.heap.size 8 (V8 (List.replicate 64 0))).frozen? ⟨w.heap.size + 1, j, none⟩ = false := fun j hj => by
    have h := (unhide HD).2.1 j hj
    have hb := lt_of_cell h.1
    have h2 := (hF2.cell (p := ⟨w.heap.size + 1, j, none⟩) hb (fun h => h)).trans h.1
    have hb2 := lt_of_cell h2
    exact ⟨(hFk.cell (p := ⟨w.heap.size + 1, j, none⟩) hb2 (by simp only; omega)).trans h2, (hFk.frozen (p := ⟨w.heap.size + 1, j, none⟩) hb2 (by simp only; omega)).trans ((hF2.frozen (p := ⟨w.heap.size + 1, j, none⟩) hb (fun h => h)).trans h.2)⟩
  have c72b : ((w2.setCells w.heap.size 0 z0.cells).setCells w.heap.size 8 (V8 (List.replicate 64 0))).cell? ⟨w.heap.size, 72, none⟩ = some (.int .u64 (t : Int)) := by have := hH4.tk; rwa [Nat.zero_add] at this
  have eRep : (Array.replicate 64 (Value.int .u8 0)).toList = V8 (List.replicate 64 0) := by rw [V8, List.map_replicate, Array.toList_replicate]; rfl
  obtain ⟨W3, hW3⟩ : ∃ W3, w2.setCells w.heap.size 0 z0.cells = W3 := ⟨_, rfl⟩
  have hW3' : w2.setCells w.heap.size 0 z0.cells.toArray.toList = W3 := hW3
  rw [hW3] at hH4 hFr3 hRes c72b hthR
  obtain ⟨W4, hW4⟩ : ∃ W4, W3.setCells w.heap.size 8 (V8 (List.replicate 64 0)) = W4 := ⟨_, rfl⟩
  have hW4' : W3.setCells w.heap.size 8 (Array.replicate 64 (Value.int .u8 0)).toList = W4 := by rw [eRep]; exact hW4
  rw [hW4] at hH4 hFr3 hRes c72b
  have HC : Hid (HsAt W4 w.heap.size 0 z0 (fun _ => 0) t ∧ (∀ j, j < 8 → W4.cell? ⟨w.heap.size + 1, j, none⟩ = some (.int .u32 0) ∧ W4.frozen? ⟨w.heap.size + 1, j, none⟩ = false) ∧ Fr (fun _ => False) w W4 ∧ z0.ok ∧ (∀ j, j < 64 → (fun _ : Nat => 0) j < 256) ∧ GK w) := hide ⟨hH4, hRes, hFr3, hzok, fun _ _ => Nat.zero_lt_succ _, (unhide HD).2.2.2.2.2⟩
  have H5 := hide (And.intro hthS (And.intro hthR (And.intro hW3' (And.intro hW4' (And.intro hz (unhide HG).2.2.2.2.2.2)))))
  have hi5 : (Tryd.prog.info? 88).map (·.size) = some z0.cells.toArray.size := info_st
  have hi6 : (Tryd.prog.info? 90).map (·.size) = some (Array.replicate 64 (Value.int .u8 0)).size := by rw [Array.size_replicate]; exact info_bl
  have H6 := hide (And.intro hi5 hi6)
  clear hH2 hH3 hH4 hFr3 hFk hRes hzok hthS hthR hF2 hW4 hz HG hi5 hi6 eRep hW3 hW3' hW4'
  go_wp2_with (first
    | (refine wpList_store_to rfl 88 (.tmp 19) (.tmp 18) rfl w.heap.size 0 z0.cells.toArray rfl rfl (unhide H5).1 (unhide H6).1 (all_oneCell_toArray (V32_one z0.vals)) W3 (unhide H5).2.2.1 ?_)
    | (refine wpList_store_to rfl 90 (.tmp 21) (.tmp 20) rfl w.heap.size 8 (Array.replicate 64 (Value.int .u8 0)) rfl rfl (unhide H5).2.1 (unhide H6).2 rep_one W4 (unhide H5).2.2.2.1 ?_))
  go_loopw [25] (fun i wr => ∃ k : Nat, k ≤ 8 ∧ i = .int .i64 k ∧ HsAt wr w.heap.size 0 z0 (lenk (fun _ => 0) bt k) t ∧ (∀ j, j < 8 → wr.cell? ⟨w.heap.size + 1, j, none⟩ = some (.int .u32 0) ∧ wr.frozen? ⟨w.heap.size + 1, j, none⟩ = false) ∧ Fr (fun _ => False) w wr) (fun i _ => 8 - (intOf i).toNat)
  case atStart =>
    exact ⟨0, Nat.zero_le _, rfl, (unhide HC).1.congr (fun j hj => (lenk_0 (fun _ => 0) bt j hj).symm), (unhide HC).2.1, (unhide HC).2.2.1⟩
  case round =>
    obtain ⟨k, hk, rfl, hI, hR, hF⟩ := hrel
    rename World => wr
    by_cases hlt : k < 8
    · have ck : wr.cell? ⟨w.heap.size, 8 + (63 - k), none⟩ = some (.int .u8 ((lenk (fun _ => 0) bt k (63 - k) : Nat) : Int)) := by have := hI.rs (63 - k) (by omega); rwa [Nat.zero_add] at this
      have zk : wr.frozen? ⟨w.heap.size, 8 + (63 - k), none⟩ = false := by have := hI.fz (8 + (63 - k)) (by omega); rwa [Nat.zero_add] at this
      have hP := (hI.put (63 - k) (bt / 256 ^ k % 256) (by omega)).congr (fun j hj => lenk_succ (fun _ => 0) bt k j hlt hj)
      rw [Nat.zero_add] at hP
      have hR2 : ∀ j, j < 8 → (wr.setCell ⟨w.heap.size, 8 + (63 - k), none⟩ (.int .u8 ((bt / 256 ^ k % 256 : Nat) : Int))).cell? ⟨w.heap.size + 1, j, none⟩ = some (.int .u32 0) ∧ (wr.setCell ⟨w.heap.size, 8 + (63 - k), none⟩ (.int .u8 ((bt / 256 ^ k % 256 : Nat) : Int))).frozen? ⟨w.heap.size + 1, j, none⟩ = false := fun j hj => by
        rw [World.cell?_setCell_other _ _ _ _ (by intro h; injection h with h1 _ _; omega), World.frozen?_setCell]
        exact hR j hj
      have hF2 := Fr.setCell hF (p := ⟨w.heap.size, 8 + (63 - k), none⟩) (.inr (Nat.le_refl _)) (.int .u8 ((bt / 256 ^ k % 256 : Nat) : Int))
      have HP := hide (And.intro hP (And.intro hR2 hF2))
      clear hP hR2 hF2 hI hR hF
      have j0 : (0 : Int) ≤ 63 - (k : Int) := by omega
      have m0 : 63 - (k : Int) < 64 := by omega
      have n0 : (63 - (k : Int)).toNat = 63 - k := by omega
      have q0 : (0 : Int) ≤ 8 * (k : Int) := by omega
      have q1 : (8 * (k : Int)).toNat = 8 * k := by omega
      generalize lenk (fun _ => 0) bt k (63 - k) = u at *
      have e256 : (bt : Int) / 2 ^ (8 * k) % 256 = ((bt / 256 ^ k % 256 : Nat) : Int) := by
        have h : (256 : Nat) ^ k = 2 ^ (8 * k) := by rw [Nat.pow_mul]
        rw [h]
        simp
      generalize bt / 256 ^ k % 256 = y at *
      go_wp2_with fail
      exact ⟨⟨k + 1, by omega, by go_num, (unhide HP).1, (unhide HP).2.1, (unhide HP).2.2⟩, by simp [intOf]; omega⟩
    · obtain rfl : k = 8 := by omega
      have hlt8 : ∀ j, (rl (lenk (fun _ => 0) bt 8)).getD j 0 < 256 := rl_lt _ (fun j hj => lenk_lt _ _ _ _ ((unhide HC).2.2.2.2.1 j hj))
      have hlr := rl_len (lenk (fun _ => 0) bt 8)
      have hgk := (unhide HC).2.2.2.2.2.fr0 hF
      have hst := hI.st
      have hrr := hI.restR
      rw [Nat.zero_add] at hrr
      generalize hl8 : rl (lenk (fun _ => 0) bt 8) = l at *
      have hi1 : (Tryd.prog.info? 88).map (·.size) = some (z0).cells.length := info_st
      have hi2 : (Tryd.prog.info? 90).map (·.size) = some (V8 l).length := by rw [V8_len, hlr]; exact info_bl
      have HE := hide (And.intro hst (And.intro hrr (And.intro hi1 (And.intro hi2 (And.intro hlt8 (And.intro hlr (And.intro hgk (And.intro hR (And.intro hF hl8)))))))))
      clear hst hrr hi1 hi2 hlt8 hlr hgk hR hF hI hl8
      go_wp2_with (first
        | (refine wpList_load_mid rfl 88 (.tmp 38) rfl w.heap.size 0 rfl (z0).cells _ (unhide HE).1 Tryd.underlying88 rfl (unhide HE).2.2.1 ?_)
        | (refine wpList_load_mid rfl 90 (.tmp 40) rfl w.heap.size 8 rfl (V8 l) _ (unhide HE).2.1 Tryd.underlying90 rfl (unhide HE).2.2.2.1 ?_))
      refine (fold_any z0 l wr (unhide HC).2.2.2.1 (unhide HE).2.2.2.2.2.1 (unhide HE).2.2.2.2.1 (unhide HE).2.2.2.2.2.2.1).mono ?_
      rintro e w2 ⟨rfl, hF2⟩
      have hR2 : ∀ j, j < 8 → w2.cell? ⟨w.heap.size + 1, j, none⟩ = some (.int .u32 0) ∧ w2.frozen? ⟨w.heap.size + 1, j, none⟩ = false := fun j hj => by
        have h := (unhide HE).2.2.2.2.2.2.2.1 j hj
        have hb := lt_of_cell h.1
        exact ⟨(hF2.cell (p := ⟨w.heap.size + 1, j, none⟩) hb (fun h => h)).trans h.1, (hF2.frozen (p := ⟨w.heap.size + 1, j, none⟩) hb (fun h => h)).trans h.2⟩
      have hth : w2.there (w.heap.size + 1) 0 8 := fun j hj => by
        rw [Nat.zero_add, (hR2 j hj).1, (hR2 j hj).2]
        exact ⟨rfl, rfl⟩
      have hFF := (unhide HE).2.2.2.2.2.2.2.2.1.trans hF2 (fun _ _ h => h)
      have hl8 := (unhide HE).2.2.2.2.2.2.2.2.2
      generalize hz : fo z0 l = z at *
      have hi3 : (Tryd.prog.info? 88).map (·.size) = some z.cells.toArray.size := info_st
      have hi4 : (Tryd.prog.info? 88).map (·.size) = some z.cells.length := info_st
      have hth2 : w2.there (w.heap.size + 1) 0 z.cells.toArray.size := hth
      have hrs := World.rangeAt_setCells_same w2 (w.heap.size + 1) 0 z.cells hth
      have H2 := hide (And.intro hth2 (And.intro hFF (And.intro hi3 (And.intro hi4 (And.intro hrs (And.intro hz hl8))))))
      clear hR2 hth hth2 hFF hi3 hi4 hrs hz hl8 hF2 HE
      go_wp2_with (refine wpList_store_mid rfl 88 (.tmp 2) (.tmp 42) rfl (w.heap.size + 1) 0 z.cells.toArray rfl rfl (unhide H2).1 (unhide H2).2.2.1 (all_oneCell_toArray (V32_one z.vals)) ?_)
      refine bodyPost_ret (results_cell_mid rfl _ _ (w.heap.size + 1) 0 z.cells _ rfl (unhide H2).2.2.2.2.1 Tryd.underlying88 rfl (unhide H2).2.2.2.1) rfl ?_
      exact ⟨by rw [(unhide H5).2.2.2.2.1, (unhide H2).2.2.2.2.2.2, (unhide H2).2.2.2.2.2.1], Fr.setCells (unhide H2).2.1 (.inr (by omega)) _⟩
theorem fin_any (s : S8) (f : Nat → Nat) (t : Nat) (w : World) (hs : s.ok) (hf : ∀ j, j < 64 → f j < 256) (ht : t < 18446744073709551616) (hk : GK w) :
    Calls Tryd.prog 84 #[.agg (hv s f t).toArray] w fun e w' => e = .returned (.agg (fin s f t).cells.toArray) ∧ Fr (fun _ => False) w w' := by
  by_cases hp : t % 64 < 56
  · exact fin_a s f t w hs hf ht hk hp
  · exact fin_b s f t w hs hf ht hk hp
end Go.Proofs.YthccbfgjekdiiaaDoor
