import Derived.Test.YtkiepcdncegniaaPk3
namespace Go.Proofs.Ytkiepcdncegniaa
open Go.RowKit Go.Maps

set_option maxRecDepth 100000 in
set_option maxHeartbeats 4000000 in
/-- Take of what is neither an answer nor a Busy. -/
theorem gtake_no (c got base : Nat) (v : Value) (l : List RC) (xs : List Value) (ki icl inu co : Nat) (a : AN) (w : World) (hm : MsX xs ki icl inu co a) (h : OwC w base v l) (h3 : ki ≠ 3) (h4 : ki ≠ 4) : Calls Try.prog 22 #[.agg #[.int .u32 (c : Nat), v, .int .i64 (got : Nat)], .agg xs.toArray] w fun e w' => ∃ v', e = .returned (.tuple #[.agg #[.int .u32 (c : Nat), v', .int .i64 (got : Nat)], .int .i64 1]) ∧ OwC w' base v' l ∧ Fr (fun _ => False) w w' ∧ ∀ g, v'.ownBlock = some g → v.ownBlock = some g ∨ w.heap.size ≤ g := by
  obtain ⟨ao, cap, rfl⟩ := own_formX h
  obtain ⟨acl, anu, aco, arc, ave, afv, ahv⟩ := a
  obtain ⟨N, hN⟩ : ∃ N, l.length = N := ⟨_, rfl⟩
  have HO := hide h
  have HNN := hide hN
  rw [hN] at HO ⊢
  clear h hN
  obtain ⟨W1, hW1⟩ : ∃ W1, ((w.alloc (.cells #[.int .u32 (c : Nat), .slice ao N cap, .int .i64 (got : Nat)] 60)).alloc (.cells xs.toArray 49)).alloc (.cells #[.int .u32 0, .slice none 0 0, .int .i64 0] 60) = W1 := ⟨_, rfl⟩
  have hf1 : Fr (fun _ => False) w W1 := by rw [← hW1]; exact ((box1 w _).alloc _).alloc _
  have hb0 : W1.heap[w.heap.size]? = some (.cells #[.int .u32 (c : Nat), .slice ao N cap, .int .i64 (got : Nat)] 60) := by rw [← hW1]; exact (Below.heap_alloc _ _ _ (by simp; omega)).trans ((Below.heap_alloc _ _ _ (by simp)).trans (heap_alloc_new w _))
  have hb1 : W1.heap[w.heap.size + 1]? = some (.cells xs.toArray 49) := by
    rw [← hW1]
    refine (Below.heap_alloc _ _ _ (by simp)).trans ?_
    have := heap_alloc_new (w.alloc (.cells #[.int .u32 (c : Nat), .slice ao N cap, .int .i64 (got : Nat)] 60)) (.cells xs.toArray 49)
    rwa [World.size_alloc] at this
  have hb2 : W1.heap[w.heap.size + 1 + 1]? = some (.cells #[.int .u32 0, .slice none 0 0, .int .i64 0] 60) := by
    rw [← hW1]
    have := heap_alloc_new ((w.alloc (.cells #[.int .u32 (c : Nat), .slice ao N cap, .int .i64 (got : Nat)] 60)).alloc (.cells xs.toArray 49)) (.cells #[.int .u32 0, .slice none 0 0, .int .i64 0] 60)
    rwa [World.size_alloc, World.size_alloc] at this
  have hz1 : W1.heap.size = w.heap.size + 3 := by rw [← hW1]; simp
  have hz2 : w.heap.size + 1 < W1.heap.size := by omega
  have hz3 : w.heap.size < W1.heap.size := by omega
  have c0 : W1.cell? ⟨w.heap.size + 1, 0, none⟩ = some (.int .u8 (ki : Nat)) := cell_of_blk hb1 (by simpa using hm.k)
  have c11 : W1.cell? ⟨w.heap.size + 1, 11, none⟩ = some (.int .u32 (icl : Nat)) := cell_of_blk hb1 (by simpa using hm.i1)
  have c12 : W1.cell? ⟨w.heap.size + 1, 12, none⟩ = some (.int .u32 (inu : Nat)) := cell_of_blk hb1 (by simpa using hm.i2)
  have c13 : W1.cell? ⟨w.heap.size + 1, 13, none⟩ = some (.int .u32 (acl : Nat)) := cell_of_blk hb1 (by simpa using hm.an 0 _ rfl)
  have c14 : W1.cell? ⟨w.heap.size + 1, 14, none⟩ = some (.int .u32 (anu : Nat)) := cell_of_blk hb1 (by simpa using hm.an 1 _ rfl)
  have HB := hide (And.intro hb0 (And.intro hb1 (And.intro hb2 (And.intro hf1 hz1))))
  have HRS : Hid (∀ W', Fr (fun _ => False) W1 W' → W'.rangeAt w.heap.size 0 [.int .u32 (c : Nat), .slice ao N cap, .int .i64 (got : Nat)]) := hide (fun W' hf => range_of_block ((hf.block _ (lt_of_block hb0) (fun h => h)).trans hb0))
  clear hb0 hb1 hb2 hf1 hz1
  go_enter Try.func22, Try.ntmps22
  have e3 : ¬ (ki : Int) = 3 := by omega
  have e4 : ¬ (ki : Int) = 4 := by omega
  have f3 : ((ki : Int) == 3) = false := by simpa using e3
  have f4 : ((ki : Int) == 4) = false := by simpa using e4
  obtain ⟨W9, hst, hb9, hf9⟩ := st_all (P := Try.prog) (ty := 60) [.int .u32 0, .slice none 0 0, .int .i64 0] [.int .u32 (c : Nat), .slice ao N cap, .int .i64 (got : Nat)] ((((box1 W1 (.cells #[.int .u32 (icl : Nat), .int .u32 (inu : Nat)] 29))).block _ (lt_of_block (unhide HB).2.2.1) (fun h => h)).trans (unhide HB).2.2.1) rfl Try.sizeRs (fun u hu => by simp at hu; rcases hu with rfl | rfl | rfl <;> rfl)
  have HST := hide hst
  have HE : Hid (OwC W9 base (.slice ao N cap) l ∧ Fr (fun _ => False) w W9) := hide (by
    have hfw : Fr (fun _ => False) w W9 := ((unhide HB).2.2.2.1.trans0 (box1 W1 (.cells #[.int .u32 (icl : Nat), .int .u32 (inu : Nat)] 29))).trans hf9 (fun g hg e => by omega)
    exact ⟨(unhide HO).fr0 hfw, hfw⟩)
  have HB9 := hide (range_of_block hb9)
  clear hst hb9 hf9
  go_wp2_with (first | refine wpList_load_mid rfl 60 (.tmp 2) rfl w.heap.size 0 rfl _ _ ((unhide HRS) _ (box1 W1 (.cells #[.int .u32 (icl : Nat), .int .u32 (inu : Nat)] 29))) Try.underlying60 rfl Try.sizeRs ?_ | refine wpList_stN rfl 60 (.tmp 4) (.tmp 20) rfl _ _ rfl rfl (unhide HST) ?_)
  all_goals (refine bodyPost_ret (results_cellt rfl _ _ (w.heap.size + 1 + 1) 0 _ _ _ rfl rfl (unhide HB9) Try.underlying60 rfl Try.sizeRs) rfl ?_; exact ⟨_, rfl, (unhide HE).1, (unhide HE).2, fun g hg => .inl hg⟩)
set_option maxRecDepth 100000 in
set_option maxHeartbeats 4000000 in
theorem gtake_noneB (c got base : Nat) (v : Value) (l : List RC) (xs : List Value) (icl inu co : Nat) (a : AN) (w : World) (hm : MsX xs 4 icl inu co a) (h : OwC w base v l) (hl : l.length ≤ 4096) (hn : gnum c l.length icl inu = 0) : Calls Try.prog 22 #[.agg #[.int .u32 (c : Nat), v, .int .i64 (got : Nat)], .agg xs.toArray] w fun e w' => ∃ v', e = .returned (.tuple #[.agg #[.int .u32 (c : Nat), v', .int .i64 (got : Nat)], .int .i64 15]) ∧ OwC w' base v' l ∧ Fr (fun _ => False) w w' ∧ ∀ g, v'.ownBlock = some g → v.ownBlock = some g ∨ w.heap.size ≤ g := by
  obtain ⟨ao, cap, rfl⟩ := own_formX h
  obtain ⟨acl, anu, aco, arc, ave, afv, ahv⟩ := a
  obtain ⟨N, hN⟩ : ∃ N, l.length = N := ⟨_, rfl⟩
  have HO := hide h
  have HNN := hide hN
  rw [hN] at hl HO hn ⊢
  clear h hN
  obtain ⟨W1, hW1⟩ : ∃ W1, ((w.alloc (.cells #[.int .u32 (c : Nat), .slice ao N cap, .int .i64 (got : Nat)] 60)).alloc (.cells xs.toArray 49)).alloc (.cells #[.int .u32 0, .slice none 0 0, .int .i64 0] 60) = W1 := ⟨_, rfl⟩
  have hf1 : Fr (fun _ => False) w W1 := by rw [← hW1]; exact ((box1 w _).alloc _).alloc _
  have hb0 : W1.heap[w.heap.size]? = some (.cells #[.int .u32 (c : Nat), .slice ao N cap, .int .i64 (got : Nat)] 60) := by rw [← hW1]; exact (Below.heap_alloc _ _ _ (by simp; omega)).trans ((Below.heap_alloc _ _ _ (by simp)).trans (heap_alloc_new w _))
  have hb1 : W1.heap[w.heap.size + 1]? = some (.cells xs.toArray 49) := by
    rw [← hW1]
    refine (Below.heap_alloc _ _ _ (by simp)).trans ?_
    have := heap_alloc_new (w.alloc (.cells #[.int .u32 (c : Nat), .slice ao N cap, .int .i64 (got : Nat)] 60)) (.cells xs.toArray 49)
    rwa [World.size_alloc] at this
  have hb2 : W1.heap[w.heap.size + 1 + 1]? = some (.cells #[.int .u32 0, .slice none 0 0, .int .i64 0] 60) := by
    rw [← hW1]
    have := heap_alloc_new ((w.alloc (.cells #[.int .u32 (c : Nat), .slice ao N cap, .int .i64 (got : Nat)] 60)).alloc (.cells xs.toArray 49)) (.cells #[.int .u32 0, .slice none 0 0, .int .i64 0] 60)
    rwa [World.size_alloc, World.size_alloc] at this
  have hz1 : W1.heap.size = w.heap.size + 3 := by rw [← hW1]; simp
  have hz2 : w.heap.size + 1 < W1.heap.size := by omega
  have hz3 : w.heap.size < W1.heap.size := by omega
  have c0 : W1.cell? ⟨w.heap.size + 1, 0, none⟩ = some (.int .u8 4) := cell_of_blk hb1 (by simpa using hm.k)
  have c11 : W1.cell? ⟨w.heap.size + 1, 11, none⟩ = some (.int .u32 (icl : Nat)) := cell_of_blk hb1 (by simpa using hm.i1)
  have c12 : W1.cell? ⟨w.heap.size + 1, 12, none⟩ = some (.int .u32 (inu : Nat)) := cell_of_blk hb1 (by simpa using hm.i2)
  have c13 : W1.cell? ⟨w.heap.size + 1, 13, none⟩ = some (.int .u32 (acl : Nat)) := cell_of_blk hb1 (by simpa using hm.an 0 _ rfl)
  have c14 : W1.cell? ⟨w.heap.size + 1, 14, none⟩ = some (.int .u32 (anu : Nat)) := cell_of_blk hb1 (by simpa using hm.an 1 _ rfl)
  have HB := hide (And.intro hb0 (And.intro hb1 (And.intro hb2 (And.intro hf1 hz1))))
  have HRS : Hid (∀ W', Fr (fun _ => False) W1 W' → W'.rangeAt w.heap.size 0 [.int .u32 (c : Nat), .slice ao N cap, .int .i64 (got : Nat)]) := hide (fun W' hf => range_of_block ((hf.block _ (lt_of_block hb0) (fun h => h)).trans hb0))
  clear hb0 hb1 hb2 hf1 hz1
  go_enter Try.func22, Try.ntmps22
  go_wp2_with (refine wpList_load_mid rfl 60 (.tmp 2) rfl w.heap.size 0 rfl _ _ ((unhide HRS) _ (box1 W1 (.cells #[.int .u32 (icl : Nat), .int .u32 (inu : Nat)] 29))) Try.underlying60 rfl Try.sizeRs ?_)
  refine (gfind_any c ao N cap got icl inu _ hl).mono ?_
  rintro e w5 ⟨rfl, hf5⟩
  rw [hn]
  have hf15 : Fr (fun _ => False) W1 w5 := (box1 W1 (.cells #[.int .u32 (icl : Nat), .int .u32 (inu : Nat)] 29)).trans0 hf5
  clear hf5
  obtain ⟨W9, hst, hb9, hf9⟩ := st_all (P := Try.prog) (ty := 60) [.int .u32 0, .slice none 0 0, .int .i64 0] [.int .u32 (c : Nat), .slice ao N cap, .int .i64 (got : Nat)] (((hf15).block _ (lt_of_block (unhide HB).2.2.1) (fun h => h)).trans (unhide HB).2.2.1) rfl Try.sizeRs (fun u hu => by simp at hu; rcases hu with rfl | rfl | rfl <;> rfl)
  have HST := hide hst
  have HE : Hid (OwC W9 base (.slice ao N cap) l ∧ Fr (fun _ => False) w W9) := hide (by
    have hfw : Fr (fun _ => False) w W9 := ((unhide HB).2.2.2.1.trans0 hf15).trans hf9 (fun g hg e => by omega)
    exact ⟨(unhide HO).fr0 hfw, hfw⟩)
  have HB9 := hide (range_of_block hb9)
  clear hst hb9 hf9
  go_wp2_with (first | refine wpList_load_mid rfl 60 (.tmp 2) rfl w.heap.size 0 rfl _ _ ((unhide HRS) _ hf15) Try.underlying60 rfl Try.sizeRs ?_ | refine wpList_stN rfl 60 (.tmp 4) (.tmp 26) rfl _ _ rfl rfl (unhide HST) ?_)
  all_goals (refine bodyPost_ret (results_cellt rfl _ _ (w.heap.size + 1 + 1) 0 _ _ _ rfl rfl (unhide HB9) Try.underlying60 rfl Try.sizeRs) rfl ?_; exact ⟨_, rfl, (unhide HE).1, (unhide HE).2, fun g hg => .inl hg⟩)
set_option maxRecDepth 100000 in
set_option maxHeartbeats 4000000 in
theorem gtake_noneA (c got base : Nat) (v : Value) (l : List RC) (xs : List Value) (icl inu co : Nat) (a : AN) (w : World) (hm : MsX xs 3 icl inu co a) (h : OwC w base v l) (hl : l.length ≤ 4096) (hn : gnum c l.length a.cl a.nu = 0) : Calls Try.prog 22 #[.agg #[.int .u32 (c : Nat), v, .int .i64 (got : Nat)], .agg xs.toArray] w fun e w' => ∃ v', e = .returned (.tuple #[.agg #[.int .u32 (c : Nat), v', .int .i64 (got : Nat)], .int .i64 15]) ∧ OwC w' base v' l ∧ Fr (fun _ => False) w w' ∧ ∀ g, v'.ownBlock = some g → v.ownBlock = some g ∨ w.heap.size ≤ g := by
  obtain ⟨ao, cap, rfl⟩ := own_formX h
  obtain ⟨acl, anu, aco, arc, ave, afv, ahv⟩ := a
  obtain ⟨N, hN⟩ : ∃ N, l.length = N := ⟨_, rfl⟩
  have HO := hide h
  have HNN := hide hN
  rw [hN] at hl HO hn ⊢
  clear h hN
  obtain ⟨W1, hW1⟩ : ∃ W1, ((w.alloc (.cells #[.int .u32 (c : Nat), .slice ao N cap, .int .i64 (got : Nat)] 60)).alloc (.cells xs.toArray 49)).alloc (.cells #[.int .u32 0, .slice none 0 0, .int .i64 0] 60) = W1 := ⟨_, rfl⟩
  have hf1 : Fr (fun _ => False) w W1 := by rw [← hW1]; exact ((box1 w _).alloc _).alloc _
  have hb0 : W1.heap[w.heap.size]? = some (.cells #[.int .u32 (c : Nat), .slice ao N cap, .int .i64 (got : Nat)] 60) := by rw [← hW1]; exact (Below.heap_alloc _ _ _ (by simp; omega)).trans ((Below.heap_alloc _ _ _ (by simp)).trans (heap_alloc_new w _))
  have hb1 : W1.heap[w.heap.size + 1]? = some (.cells xs.toArray 49) := by
    rw [← hW1]
    refine (Below.heap_alloc _ _ _ (by simp)).trans ?_
    have := heap_alloc_new (w.alloc (.cells #[.int .u32 (c : Nat), .slice ao N cap, .int .i64 (got : Nat)] 60)) (.cells xs.toArray 49)
    rwa [World.size_alloc] at this
  have hb2 : W1.heap[w.heap.size + 1 + 1]? = some (.cells #[.int .u32 0, .slice none 0 0, .int .i64 0] 60) := by
    rw [← hW1]
    have := heap_alloc_new ((w.alloc (.cells #[.int .u32 (c : Nat), .slice ao N cap, .int .i64 (got : Nat)] 60)).alloc (.cells xs.toArray 49)) (.cells #[.int .u32 0, .slice none 0 0, .int .i64 0] 60)
    rwa [World.size_alloc, World.size_alloc] at this
  have hz1 : W1.heap.size = w.heap.size + 3 := by rw [← hW1]; simp
  have hz2 : w.heap.size + 1 < W1.heap.size := by omega
  have hz3 : w.heap.size < W1.heap.size := by omega
  have c0 : W1.cell? ⟨w.heap.size + 1, 0, none⟩ = some (.int .u8 3) := cell_of_blk hb1 (by simpa using hm.k)
  have c11 : W1.cell? ⟨w.heap.size + 1, 11, none⟩ = some (.int .u32 (icl : Nat)) := cell_of_blk hb1 (by simpa using hm.i1)
  have c12 : W1.cell? ⟨w.heap.size + 1, 12, none⟩ = some (.int .u32 (inu : Nat)) := cell_of_blk hb1 (by simpa using hm.i2)
  have c13 : W1.cell? ⟨w.heap.size + 1, 13, none⟩ = some (.int .u32 (acl : Nat)) := cell_of_blk hb1 (by simpa using hm.an 0 _ rfl)
  have c14 : W1.cell? ⟨w.heap.size + 1, 14, none⟩ = some (.int .u32 (anu : Nat)) := cell_of_blk hb1 (by simpa using hm.an 1 _ rfl)
  have HB := hide (And.intro hb0 (And.intro hb1 (And.intro hb2 (And.intro hf1 hz1))))
  have HRS : Hid (∀ W', Fr (fun _ => False) W1 W' → W'.rangeAt w.heap.size 0 [.int .u32 (c : Nat), .slice ao N cap, .int .i64 (got : Nat)]) := hide (fun W' hf => range_of_block ((hf.block _ (lt_of_block hb0) (fun h => h)).trans hb0))
  clear hb0 hb1 hb2 hf1 hz1
  go_enter Try.func22, Try.ntmps22
  simp only at hn
  go_wp2_with (refine wpList_load_mid rfl 60 (.tmp 2) rfl w.heap.size 0 rfl _ _ ((unhide HRS) _ (box1 W1 (.cells #[.int .u32 (acl : Nat), .int .u32 (anu : Nat)] 29))) Try.underlying60 rfl Try.sizeRs ?_)
  refine (gfind_any c ao N cap got acl anu _ hl).mono ?_
  rintro e w5 ⟨rfl, hf5⟩
  rw [hn]
  have hf15 : Fr (fun _ => False) W1 w5 := (box1 W1 (.cells #[.int .u32 (acl : Nat), .int .u32 (anu : Nat)] 29)).trans0 hf5
  clear hf5
  obtain ⟨W9, hst, hb9, hf9⟩ := st_all (P := Try.prog) (ty := 60) [.int .u32 0, .slice none 0 0, .int .i64 0] [.int .u32 (c : Nat), .slice ao N cap, .int .i64 (got : Nat)] (((hf15).block _ (lt_of_block (unhide HB).2.2.1) (fun h => h)).trans (unhide HB).2.2.1) rfl Try.sizeRs (fun u hu => by simp at hu; rcases hu with rfl | rfl | rfl <;> rfl)
  have HST := hide hst
  have HE : Hid (OwC W9 base (.slice ao N cap) l ∧ Fr (fun _ => False) w W9) := hide (by
    have hfw : Fr (fun _ => False) w W9 := ((unhide HB).2.2.2.1.trans0 hf15).trans hf9 (fun g hg e => by omega)
    exact ⟨(unhide HO).fr0 hfw, hfw⟩)
  have HB9 := hide (range_of_block hb9)
  clear hst hb9 hf9
  go_wp2_with (first | refine wpList_load_mid rfl 60 (.tmp 2) rfl w.heap.size 0 rfl _ _ ((unhide HRS) _ hf15) Try.underlying60 rfl Try.sizeRs ?_ | refine wpList_stN rfl 60 (.tmp 4) (.tmp 26) rfl _ _ rfl rfl (unhide HST) ?_)
  all_goals (refine bodyPost_ret (results_cellt rfl _ _ (w.heap.size + 1 + 1) 0 _ _ _ rfl rfl (unhide HB9) Try.underlying60 rfl Try.sizeRs) rfl ?_; exact ⟨_, rfl, (unhide HE).1, (unhide HE).2, fun g hg => .inl hg⟩)
end Go.Proofs.Ytkiepcdncegniaa

