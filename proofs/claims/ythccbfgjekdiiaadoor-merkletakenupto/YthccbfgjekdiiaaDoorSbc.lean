import Derived.Test.YthccbfgjekdiiaaDoorSbg
import Derived.Deep.RegionHeld3
namespace Go.Proofs.YthccbfgjekdiiaaDoor
open Go.RowKit

set_option maxRecDepth 100000 in
set_option maxHeartbeats 2000000 in
theorem sched_any (l : List Nat) (w : World) (hl : l.length = 64) (hb : ∀ j, l.getD j 0 < 256) :
    Calls Tryd.prog 99 #[.agg (u8s l)] w fun e w' => e = .returned (.agg (u32s (wl l 48))) ∧ Fr (fun _ => False) w w' := by
  have hz1 := zero_w32
  go_enter Tryd.func99, Tryd.ntmps99
  go_wp2_with fail
  go_loopw [9] (fun i wr => ∃ k : Nat, k ≤ 16 ∧ i = .int .i64 k ∧ InvS w wr w.heap.size (w.heap.size + 1 + 1) l (fun j => if j < k then wd l j else 0)) (fun i _ => 16 - (intOf i).toNat)
  case atStart => exact ⟨0, Nat.zero_le _, rfl, InvS.congr (start_S l w _ _ _ hl) (fun j _ => by simp)⟩
  case round =>
    obtain ⟨k, hk, rfl, hI⟩ := hrel
    rename World => wr
    by_cases hlt : k < 16
    · have c0 : wr.cell? ⟨w.heap.size, 4 * k, none⟩ = some (.int .u8 ((l.getD (4 * k) 0 : Nat) : Int)) := hI.from_ (4 * k) (by omega)
      have c1 : wr.cell? ⟨w.heap.size, 4 * k + 1, none⟩ = some (.int .u8 ((l.getD (4 * k + 1) 0 : Nat) : Int)) := hI.from_ (4 * k + 1) (by omega)
      have c2 : wr.cell? ⟨w.heap.size, 4 * k + 2, none⟩ = some (.int .u8 ((l.getD (4 * k + 2) 0 : Nat) : Int)) := hI.from_ (4 * k + 2) (by omega)
      have c3 : wr.cell? ⟨w.heap.size, 4 * k + 3, none⟩ = some (.int .u8 ((l.getD (4 * k + 3) 0 : Nat) : Int)) := hI.from_ (4 * k + 3) (by omega)
      have d0 : wr.cell? ⟨w.heap.size + 1 + 1, k, none⟩ = some (.int .u32 (((if k < k then wd l k else 0) : Nat) : Int)) := hI.to k (by omega)
      have z0 := hI.fz k
      have hwe := word_eq _ _ _ _ (hb (4 * k)) (hb (4 * k + 1)) (hb (4 * k + 2)) (hb (4 * k + 3))
      have HI := hide (And.intro hI (show wd l k = (l.getD (4 * k) 0 * 16777216 ||| l.getD (4 * k + 1) 0 * 65536 ||| l.getD (4 * k + 2) 0 * 256 ||| l.getD (4 * k + 3) 0) from rfl))
      have HB := hide hb
      clear hI hb
      generalize l.getD (4 * k) 0 = x0 at *
      generalize l.getD (4 * k + 1) 0 = x1 at *
      generalize l.getD (4 * k + 2) 0 = x2 at *
      generalize l.getD (4 * k + 3) 0 = x3 at *
      have HE := hide hwe
      clear hwe
      have i0 : (0 : Int) ≤ (k : Int) := by omega
      have i1 : (k : Int) < 64 := by omega
      have j0 : (0 : Int) ≤ 4 * (k : Int) := by omega
      have m0 : 4 * (k : Int) < 64 := by omega
      have n0 : (4 * (k : Int)).toNat = 4 * k := by omega
      have r0 : IntKind.i64.wrap (4 * (k : Int)) = 4 * (k : Int) := by rw [IntKind.wrap_i64]; omega
      have j1 : (0 : Int) ≤ 4 * (k : Int) + 1 := by omega
      have m1 : 4 * (k : Int) + 1 < 64 := by omega
      have n1 : (4 * (k : Int) + 1).toNat = 4 * k + 1 := by omega
      have r1 : IntKind.i64.wrap (4 * (k : Int) + 1) = 4 * (k : Int) + 1 := by rw [IntKind.wrap_i64]; omega
      have j2 : (0 : Int) ≤ 4 * (k : Int) + 2 := by omega
      have m2 : 4 * (k : Int) + 2 < 64 := by omega
      have n2 : (4 * (k : Int) + 2).toNat = 4 * k + 2 := by omega
      have r2 : IntKind.i64.wrap (4 * (k : Int) + 2) = 4 * (k : Int) + 2 := by rw [IntKind.wrap_i64]; omega
      have j3 : (0 : Int) ≤ 4 * (k : Int) + 3 := by omega
      have m3 : 4 * (k : Int) + 3 < 64 := by omega
      have n3 : (4 * (k : Int) + 3).toNat = 4 * k + 3 := by omega
      have r3 : IntKind.i64.wrap (4 * (k : Int) + 3) = 4 * (k : Int) + 3 := by rw [IntKind.wrap_i64]; omega
      go_wp2_with fail
      go_region_held3 (fun w' => w'.cell? ⟨w.heap.size, 4 * k, none⟩ = some (.int .u8 x0) ∧ w'.cell? ⟨w.heap.size, 4 * k + 1, none⟩ = some (.int .u8 x1) ∧ w'.cell? ⟨w.heap.size, 4 * k + 2, none⟩ = some (.int .u8 x2) ∧ w'.cell? ⟨w.heap.size, 4 * k + 3, none⟩ = some (.int .u8 x3)) (first | (refine ⟨?_, ?_, ?_, ?_⟩ <;> (rw [World.cell?_drew, World.cell?_setCell_other _ _ _ _ (by intro h; injection h with h1 _ _; omega)]; assumption)) | go_keep) (fail)
      rw [unhide HE]
      go_wp2_with fail
      refine ⟨⟨k + 1, by omega, by go_num, InvS.congr (InvS.put (unhide HI).1 (by omega) (by omega) k _ (by omega) 1) (fun j hj => ?_)⟩, by simp [intOf]; omega⟩
      by_cases e : j = k
      · subst e
        rw [if_pos rfl, if_pos (by omega)]
        exact (unhide HI).2.symm
      · rw [if_neg e]
        by_cases h : j < k
        · simp [h, show j < k + 1 by omega]
        · simp [h, show ¬ j < k + 1 by omega]
    · have hI2 : InvS w wr w.heap.size (w.heap.size + 1 + 1) l (fun j => (wl l 0).getD j 0) := hI.congr (fun j hj => by rw [wl_0]; simp [show k = 16 by omega])
      have HI2 := hide hI2
      clear hI hI2
      go_wp2_with fail
      go_loopw [44] (fun i wr => ∃ k : Nat, k ≤ 48 ∧ i = .int .i64 k ∧ InvS w wr w.heap.size (w.heap.size + 1 + 1) l (fun j => (wl l k).getD j 0)) (fun i _ => 48 - (intOf i).toNat)
      case atStart => exact ⟨0, Nat.zero_le _, rfl, unhide HI2⟩
      case round =>
        obtain ⟨n, hn, rfl, hI⟩ := hrel
        rename World => wq
        by_cases hlt2 : n < 48
        · have e2 : wq.cell? ⟨w.heap.size + 1 + 1, n + 14, none⟩ = some (.int .u32 (((wl l n).getD (n + 14) 0 : Nat) : Int)) := hI.to (n + 14) (by omega)
          have e15 : wq.cell? ⟨w.heap.size + 1 + 1, n + 1, none⟩ = some (.int .u32 (((wl l n).getD (n + 1) 0 : Nat) : Int)) := hI.to (n + 1) (by omega)
          have e7 : wq.cell? ⟨w.heap.size + 1 + 1, n + 9, none⟩ = some (.int .u32 (((wl l n).getD (n + 9) 0 : Nat) : Int)) := hI.to (n + 9) (by omega)
          have e16 : wq.cell? ⟨w.heap.size + 1 + 1, n, none⟩ = some (.int .u32 (((wl l n).getD n 0 : Nat) : Int)) := hI.to n (by omega)
          have e0 : wq.cell? ⟨w.heap.size + 1 + 1, n + 16, none⟩ = some (.int .u32 (((wl l n).getD (n + 16) 0 : Nat) : Int)) := hI.to (n + 16) (by omega)
          have z0 := hI.fz (n + 16)
          have b2 := wl_lt l hb n (n + 14)
          have b15 := wl_lt l hb n (n + 1)
          have b7 := wl_lt l hb n (n + 9)
          have b16 := wl_lt l hb n n
          have HQ := hide (And.intro hI (show nxt (fun i => (wl l n).getD i 0) (16 + n) = (s1 ((wl l n).getD (16 + n - 2) 0) + (wl l n).getD (16 + n - 7) 0 + s0 ((wl l n).getD (16 + n - 15) 0) + (wl l n).getD (16 + n - 16) 0) % 4294967296 from rfl))
          rw [show 16 + n - 2 = n + 14 from by omega, show 16 + n - 7 = n + 9 from by omega, show 16 + n - 15 = n + 1 from by omega, show 16 + n - 16 = n from by omega] at HQ
          clear hI
          generalize (wl l n).getD (n + 14) 0 = y2 at *
          generalize (wl l n).getD (n + 1) 0 = y15 at *
          generalize (wl l n).getD (n + 9) 0 = y7 at *
          generalize (wl l n).getD n 0 = y16 at *
          have i0 : (0 : Int) ≤ (n : Int) := by omega
          have i1 : (n : Int) < 48 := by omega
          have j2 : (0 : Int) ≤ (n : Int) + 14 := by omega
          have m2 : (n : Int) + 14 < 64 := by omega
          have n2 : ((n : Int) + 14).toNat = n + 14 := by omega
          have r2 : IntKind.i64.wrap ((n : Int) + 16 - 2) = (n : Int) + 14 := by rw [IntKind.wrap_i64]; omega
          have j15 : (0 : Int) ≤ (n : Int) + 1 := by omega
          have m15 : (n : Int) + 1 < 64 := by omega
          have n15 : ((n : Int) + 1).toNat = n + 1 := by omega
          have r15 : IntKind.i64.wrap ((n : Int) + 16 - 15) = (n : Int) + 1 := by rw [IntKind.wrap_i64]; omega
          have j7 : (0 : Int) ≤ (n : Int) + 9 := by omega
          have m7 : (n : Int) + 9 < 64 := by omega
          have n7 : ((n : Int) + 9).toNat = n + 9 := by omega
          have r7 : IntKind.i64.wrap ((n : Int) + 16 - 7) = (n : Int) + 9 := by rw [IntKind.wrap_i64]; omega
          have m16 : (n : Int) < 64 := by omega
          have r16 : IntKind.i64.wrap (n : Int) = (n : Int) := by rw [IntKind.wrap_i64]; omega
          have j0 : (0 : Int) ≤ (n : Int) + 16 := by omega
          have m0 : (n : Int) + 16 < 64 := by omega
          have n0 : ((n : Int) + 16).toNat = n + 16 := by omega
          go_wp2_with fail
          go_quiet (fail)
          go_wp2_with fail
          go_region_held3 (fun w' => w'.cell? ⟨w.heap.size + 1 + 1, n + 9, none⟩ = some (.int .u32 y7) ∧ w'.cell? ⟨w.heap.size + 1 + 1, n, none⟩ = some (.int .u32 y16)) (refine ⟨?_, ?_⟩ <;> first | (simp only [World.cell?_drew, World.cell?_drewN]; assumption) | (exact keep_far (by omega) (by simpa using e7)) | (exact keep_far (by omega) (by simpa using e16)))
            (first
              | (go_at_call 100; refine (ror_17 y2 _ b2).mono ?_; rintro e w' ⟨rfl, rfl⟩)
              | (go_at_call 100; refine (ror_19 y2 _ b2).mono ?_; rintro e w' ⟨rfl, rfl⟩)
              | (go_at_call 100; refine (ror_7 y15 _ b15).mono ?_; rintro e w' ⟨rfl, rfl⟩)
              | (go_at_call 100; refine (ror_18 y15 _ b15).mono ?_; rintro e w' ⟨rfl, rfl⟩))
          rw [next_eq y2 y7 y15 y16 b2 b15]
          have hput := InvS.congr (InvS.put (unhide HQ).1 (by omega) (by omega) (n + 16) ((s1 y2 + y7 + s0 y15 + y16) % 4294967296) (by omega) (nq + 1)) (f' := fun j => (wl l (n + 1)).getD j 0) (fun j hj => by
            rw [wl_succ, (unhide HQ).2, Nat.add_comm 16 n])
          have HP := hide hput
          clear hput
          go_wp2_with fail
          exact ⟨⟨n + 1, by omega, by go_num, unhide HP⟩, by simp [intOf]; omega⟩
        · obtain rfl : n = 48 := by omega
          obtain ⟨cs, hcs, hlen, hrg, hth, hone, hend, hFr⟩ := sched_end l w wq hI
          have hi : (Tryd.prog.info? 134).map (·.size) = some cs.length := by rw [hlen]; exact info_w32
          have hi2 : (Tryd.prog.info? 134).map (·.size) = some cs.toArray.size := by rw [List.size_toArray, hlen]; exact info_w32
          have HE := hide (And.intro hend (And.intro hFr (And.intro hcs (And.intro hi (And.intro hi2 (And.intro hrg (And.intro hth hone)))))))
          clear hend hFr hI hcs hlen hi hi2 hrg hth hone
          go_wp2_with (first
            | (refine wpList_load_mid rfl 134 (.tmp 3) rfl (w.heap.size + 1 + 1) 0 rfl cs _ (unhide HE).2.2.2.2.2.1 Tryd.underlying134 rfl (unhide HE).2.2.2.1 ?_)
            | (refine wpList_store_mid rfl 134 (.tmp 2) (.tmp 87) rfl (w.heap.size + 1) 0 cs.toArray rfl rfl (unhide HE).2.2.2.2.2.2.1 (unhide HE).2.2.2.2.1 (unhide HE).2.2.2.2.2.2.2 ?_))
          refine bodyPost_ret (results_cell_mid rfl _ _ (w.heap.size + 1) 0 cs _ rfl (unhide HE).1 Tryd.underlying134 rfl (unhide HE).2.2.2.1) rfl ?_
          exact ⟨by rw [(unhide HE).2.2.1], (unhide HE).2.1⟩
end Go.Proofs.YthccbfgjekdiiaaDoor
