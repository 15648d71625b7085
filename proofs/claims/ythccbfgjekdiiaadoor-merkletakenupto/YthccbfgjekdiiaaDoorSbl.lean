import Derived.Test.YthccbfgjekdiiaaDoorSbk
namespace Go.Proofs.YthccbfgjekdiiaaDoor
open Go.RowKit

/-- The number of bits behind the rest: the last i bytes of it. -/
def lenk (f : Nat → Nat) (bt i j : Nat) : Nat := if 64 ≤ j + i then bt / 256 ^ (63 - j) % 256 else f j
theorem lenk_0 (f : Nat → Nat) (bt j : Nat) (h : j < 64) : lenk f bt 0 j = f j := by rw [lenk, if_neg (by omega)]
theorem lenk_succ (f : Nat → Nat) (bt i j : Nat) (hi : i < 8) (hj : j < 64) : (if j = 63 - i then bt / 256 ^ i % 256 else lenk f bt i j) = lenk f bt (i + 1) j := by
  unfold lenk
  by_cases e : j = 63 - i
  · subst e
    rw [if_pos rfl, if_pos (by omega), show 63 - (63 - i) = i by omega]
  · rw [if_neg e]
    by_cases h : 64 ≤ j + i
    · rw [if_pos h, if_pos (by omega)]
    · rw [if_neg h, if_neg (by omega)]
theorem lenk_lt (f : Nat → Nat) (bt i j : Nat) (hf : f j < 256) : lenk f bt i j < 256 := by
  unfold lenk
  split
  · exact Nat.mod_lt _ (by decide)
  · exact hf
def pad (f : Nat → Nat) (h j : Nat) : Nat := if j = h then 128 else f j
theorem rep_one : (Array.replicate 64 (Value.int .u8 0)).all (·.oneCell') = true := by kernel_rfl
/-- The padding, folded in. -/
def fin (s : S8) (f : Nat → Nat) (t : Nat) : S8 :=
  if t % 64 < 56 then fo s (rl (lenk (pad f (t % 64)) (8 * t % 18446744073709551616) 8))
  else fo (fo s (rl (pad f (t % 64)))) (rl (lenk (fun _ => 0) (8 * t % 18446744073709551616) 8))
theorem fin_ok (s : S8) (f : Nat → Nat) (t : Nat) : (fin s f t).ok := by
  unfold fin
  split <;> exact fo_ok _ _
theorem box_h (s : S8) (f : Nat → Nat) (t : Nat) (w : World) (t1 t2 : TypeId) :
    HsAt ((w.alloc (.cells (hv s f t).toArray t1)).alloc (.cells (Array.replicate 8 (.int .u32 0)) t2)) w.heap.size 0 s f t ∧
    (∀ j, j < 8 → ((w.alloc (.cells (hv s f t).toArray t1)).alloc (.cells (Array.replicate 8 (.int .u32 0)) t2)).cell? ⟨w.heap.size + 1, j, none⟩ = some (.int .u32 0) ∧ ((w.alloc (.cells (hv s f t).toArray t1)).alloc (.cells (Array.replicate 8 (.int .u32 0)) t2)).frozen? ⟨w.heap.size + 1, j, none⟩ = false) ∧
    Fr (fun _ => False) w ((w.alloc (.cells (hv s f t).toArray t1)).alloc (.cells (Array.replicate 8 (.int .u32 0)) t2)) := by
  refine ⟨HsAt.of (fun j v hvv => ?_) (fun j hj => ?_), fun j hj => ?_, ((Fr.refl _ _).alloc _).alloc _⟩
  · rw [Nat.zero_add, World.cell?_alloc_past _ _ _ (by simp), World.cell?_alloc_at _ _ _ _ rfl, List.getElem?_toArray]; exact hvv
  · rw [World.frozen?_alloc_past _ _ _ (by simp), World.frozen?_alloc_at _ _ _ _ rfl]
  · have e : w.heap.size + 1 = (w.alloc (.cells (hv s f t).toArray t1)).heap.size := by simp
    rw [e, World.cell?_alloc_at _ _ _ _ rfl, World.frozen?_alloc_at _ _ _ _ rfl, Array.getElem?_replicate, if_pos hj]
    exact ⟨rfl, rfl⟩
set_option maxRecDepth 100000 in
set_option maxHeartbeats 4000000 in
theorem fin_a (s : S8) (f : Nat → Nat) (t : Nat) (w : World) (hs : s.ok) (hf : ∀ j, j < 64 → f j < 256) (ht : t < 18446744073709551616) (hk : GK w) (hp : t % 64 < 56) :
    Calls Tryd.prog 84 #[.agg (hv s f t).toArray] w fun e w' => e = .returned (.agg (fin s f t).cells.toArray) ∧ Fr (fun _ => False) w w' := by
  have hz1 := zero_st
  have hfin : fin s f t = fo s (rl (lenk (pad f (t % 64)) (8 * t % 18446744073709551616) 8)) := by rw [fin, if_pos hp]
  rw [hfin]
  have hbx := box_h s f t w 93 88
  generalize hA : (hv s f t).toArray = A at *
  obtain ⟨W0, hW0⟩ : ∃ W0, (w.alloc (.cells A 93)).alloc (.cells (Array.replicate 8 (.int .u32 0)) 88) = W0 := ⟨_, rfl⟩
  rw [hW0] at hbx
  have r1 : (t : Int) % 64 = ((t % 64 : Nat) : Int) := by omega
  have hd64 : t % 64 < 64 := by omega
  have c72 : W0.cell? ⟨w.heap.size, 72, none⟩ = some (.int .u64 (t : Int)) := by have := hbx.1.tk; rwa [Nat.zero_add] at this
  have hput := hbx.1.put (t % 64) 128 hd64
  have ch : W0.cell? ⟨w.heap.size, 8 + t % 64, none⟩ = some (.int .u8 (f (t % 64) : Nat)) := by have := hbx.1.rs (t % 64) hd64; rwa [Nat.zero_add] at this
  have zh : W0.frozen? ⟨w.heap.size, 8 + t % 64, none⟩ = false := by have := hbx.1.fz (8 + t % 64) (by omega); rwa [Nat.zero_add] at this
  rw [Nat.zero_add] at hput
  have hpad : (fun j => if j = t % 64 then 128 else f j) = pad f (t % 64) := rfl
  rw [hpad] at hput
  generalize hhd : t % 64 = hd at *
  obtain ⟨bt, hbt⟩ : ∃ bt, bt = 8 * t % 18446744073709551616 := ⟨_, rfl⟩
  rw [← hbt]
  have b8 : IntKind.u64.wrap (8 * (t : Int)) = (bt : Int) := by rw [IntKind.wrap_u64]; omega
  have HB := hide (And.intro hbx (And.intro hput (And.intro hs (And.intro hf (And.intro hk (And.intro hbt hhd))))))
  clear hbx hput hs hf hk hbt hhd hA hpad hfin
  have HC : Hid (HsAt (W0.setCell ⟨w.heap.size, 8 + hd, none⟩ (.int .u8 128)) w.heap.size 0 s (pad f hd) t ∧ (∀ j, j < 8 → (W0.setCell ⟨w.heap.size, 8 + hd, none⟩ (.int .u8 128)).cell? ⟨w.heap.size + 1, j, none⟩ = some (.int .u32 0) ∧ (W0.setCell ⟨w.heap.size, 8 + hd, none⟩ (.int .u8 128)).frozen? ⟨w.heap.size + 1, j, none⟩ = false) ∧ Fr (fun _ => False) w (W0.setCell ⟨w.heap.size, 8 + hd, none⟩ (.int .u8 128)) ∧ s.ok ∧ (∀ j, j < 64 → pad f hd j < 256) ∧ GK w) := by
    refine hide ⟨(unhide HB).2.1, fun j hj => ?_, Fr.setCell (unhide HB).1.2.2 (p := ⟨w.heap.size, 8 + hd, none⟩) (.inr (Nat.le_refl _)) _, (unhide HB).2.2.1, fun j hj => ?_, (unhide HB).2.2.2.2.1⟩
    · rw [World.cell?_setCell_other _ _ _ _ (by intro h; injection h with h1 _ _; omega), World.frozen?_setCell]
      exact (unhide HB).1.2.1 j hj
    · unfold pad
      split
      · decide
      · exact (unhide HB).2.2.2.1 j hj
  go_enter Tryd.func84, Tryd.ntmps84
  go_wp2_with fail
  go_loopw [25] (fun i wr => ∃ k : Nat, k ≤ 8 ∧ i = .int .i64 k ∧ HsAt wr w.heap.size 0 s (lenk (pad f hd) bt k) t ∧ (∀ j, j < 8 → wr.cell? ⟨w.heap.size + 1, j, none⟩ = some (.int .u32 0) ∧ wr.frozen? ⟨w.heap.size + 1, j, none⟩ = false) ∧ Fr (fun _ => False) w wr) (fun i _ => 8 - (intOf i).toNat)
  case atStart =>
    exact ⟨0, Nat.zero_le _, rfl, (unhide HC).1.congr (fun j hj => (lenk_0 _ _ j hj).symm), (unhide HC).2.1, (unhide HC).2.2.1⟩
  case round =>
    obtain ⟨k, hk, rfl, hI, hR, hF⟩ := hrel
    rename World => wr
    by_cases hlt : k < 8
    · have ck : wr.cell? ⟨w.heap.size, 8 + (63 - k), none⟩ = some (.int .u8 ((lenk (pad f hd) bt k (63 - k) : Nat) : Int)) := by have := hI.rs (63 - k) (by omega); rwa [Nat.zero_add] at this
      have zk : wr.frozen? ⟨w.heap.size, 8 + (63 - k), none⟩ = false := by have := hI.fz (8 + (63 - k)) (by omega); rwa [Nat.zero_add] at this
      have hP := (hI.put (63 - k) (bt / 256 ^ k % 256) (by omega)).congr (fun j hj => lenk_succ (pad f hd) bt k j hlt hj)
      rw [Nat.zero_add] at hP
      have hR2 : ∀ j, j < 8 → (wr.setCell ⟨w.heap.size, 8 + (63 - k), none⟩ (.int .u8 ((bt / 256 ^ k % 256 : Nat) : Int))).cell? ⟨w.heap.size + 1, j, none⟩ = some (.int .u32 0) ∧ (wr.setCell ⟨w.heap.size, 8 + (63 - k), none⟩ (.int .u8 ((bt / 256 ^ k % 256 : Nat) : Int))).frozen? ⟨w.heap.size + 1, j, none⟩ = false := fun j hj => by
        rw [World.cell?_setCell_other _ _ _ _ (by intro h; injection h with h1 _ _; omega), World.frozen?_setCell]
        exact hR j hj
      have hF2 := Fr.setCell hF (p := ⟨w.heap.size, 8 + (63 - k), none⟩) (.inr (Nat.le_refl _)) (.int .u8 ((bt / 256 ^ k % 256 : Nat) : Int))
      have HP := hide (And.intro hP (And.intro hR2 hF2))
      clear hP hR2 hF2 hI hR hF
      have j0 : (0 : Int) ≤ 63 - (k : Int) := by omega
      have m0 : 63 - (k : Int) < 64 := by omega
      have n0 : (63 - (k : Int)).toNat = 63 - k := by omega
      have q0 : (0 : Int) ≤ 8 * (k : Int) := by omega
      have q1 : (8 * (k : Int)).toNat = 8 * k := by omega
      generalize lenk (pad f hd) bt k (63 - k) = u at *
      have e256 : (bt : Int) / 2 ^ (8 * k) % 256 = ((bt / 256 ^ k % 256 : Nat) : Int) := by
        have h : (256 : Nat) ^ k = 2 ^ (8 * k) := by rw [Nat.pow_mul]
        rw [h]
        simp
      generalize bt / 256 ^ k % 256 = y at *
      go_wp2_with fail
      exact ⟨⟨k + 1, by omega, by go_num, (unhide HP).1, (unhide HP).2.1, (unhide HP).2.2⟩, by simp [intOf]; omega⟩
    · obtain rfl : k = 8 := by omega
      have hlt8 : ∀ j, (rl (lenk (pad f hd) bt 8)).getD j 0 < 256 := rl_lt _ (fun j hj => lenk_lt _ _ _ _ ((unhide HC).2.2.2.2.1 j hj))
      have hlr := rl_len (lenk (pad f hd) bt 8)
      have hgk := (unhide HC).2.2.2.2.2.fr0 hF
      have hst := hI.st
      have hrr := hI.restR
      rw [Nat.zero_add] at hrr
      generalize hl8 : rl (lenk (pad f hd) bt 8) = l at *
      have hi1 : (Tryd.prog.info? 88).map (·.size) = some (s).cells.length := info_st
      have hi2 : (Tryd.prog.info? 90).map (·.size) = some (V8 l).length := by rw [V8_len, hlr]; exact info_bl
      have HE := hide (And.intro hst (And.intro hrr (And.intro hi1 (And.intro hi2 (And.intro hlt8 (And.intro hlr (And.intro hgk (And.intro hR (And.intro hF hl8)))))))))
      clear hst hrr hi1 hi2 hlt8 hlr hgk hR hF hI hl8
      go_wp2_with (first
        | (refine wpList_load_mid rfl 88 (.tmp 38) rfl w.heap.size 0 rfl (s).cells _ (unhide HE).1 Tryd.underlying88 rfl (unhide HE).2.2.1 ?_)
        | (refine wpList_load_mid rfl 90 (.tmp 40) rfl w.heap.size 8 rfl (V8 l) _ (unhide HE).2.1 Tryd.underlying90 rfl (unhide HE).2.2.2.1 ?_))
      refine (fold_any s l wr (unhide HC).2.2.2.1 (unhide HE).2.2.2.2.2.1 (unhide HE).2.2.2.2.1 (unhide HE).2.2.2.2.2.2.1).mono ?_
      rintro e w2 ⟨rfl, hF2⟩
      have hR2 : ∀ j, j < 8 → w2.cell? ⟨w.heap.size + 1, j, none⟩ = some (.int .u32 0) ∧ w2.frozen? ⟨w.heap.size + 1, j, none⟩ = false := fun j hj => by
        have h := (unhide HE).2.2.2.2.2.2.2.1 j hj
        have hb := lt_of_cell h.1
        exact ⟨(hF2.cell (p := ⟨w.heap.size + 1, j, none⟩) hb (fun h => h)).trans h.1, (hF2.frozen (p := ⟨w.heap.size + 1, j, none⟩) hb (fun h => h)).trans h.2⟩
      have hth : w2.there (w.heap.size + 1) 0 8 := fun j hj => by
        rw [Nat.zero_add, (hR2 j hj).1, (hR2 j hj).2]
        exact ⟨rfl, rfl⟩
      have hFF := (unhide HE).2.2.2.2.2.2.2.2.1.trans hF2 (fun _ _ h => h)
      have hl8 := (unhide HE).2.2.2.2.2.2.2.2.2
      generalize hz : fo s l = z at *
      have hi3 : (Tryd.prog.info? 88).map (·.size) = some z.cells.toArray.size := info_st
      have hi4 : (Tryd.prog.info? 88).map (·.size) = some z.cells.length := info_st
      have hth2 : w2.there (w.heap.size + 1) 0 z.cells.toArray.size := hth
      have hrs := World.rangeAt_setCells_same w2 (w.heap.size + 1) 0 z.cells hth
      have H2 := hide (And.intro hth2 (And.intro hFF (And.intro hi3 (And.intro hi4 (And.intro hrs (And.intro hz hl8))))))
      clear hR2 hth hth2 hFF hi3 hi4 hrs hz hl8 hF2 HE
      go_wp2_with (refine wpList_store_mid rfl 88 (.tmp 2) (.tmp 42) rfl (w.heap.size + 1) 0 z.cells.toArray rfl rfl (unhide H2).1 (unhide H2).2.2.1 (all_oneCell_toArray (V32_one z.vals)) ?_)
      refine bodyPost_ret (results_cell_mid rfl _ _ (w.heap.size + 1) 0 z.cells _ rfl (unhide H2).2.2.2.2.1 Tryd.underlying88 rfl (unhide H2).2.2.2.1) rfl ?_
      exact ⟨by rw [(unhide H2).2.2.2.2.2.2, (unhide H2).2.2.2.2.2.1], Fr.setCells (unhide H2).2.1 (.inr (by omega)) _⟩
end Go.Proofs.YthccbfgjekdiiaaDoor
