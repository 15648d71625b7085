import Derived.Test.YtkiepcdncegniaaZbj
namespace Go.Proofs.Ytkiepcdncegniaa
open Go.RowKit Go.Maps

/-- What of a message Take looks at. -/
structure MsX (xs : List Value) (ki icl inu co : Nat) (a : AN) : Prop where
  k : xs[0]? = some (.int .u8 (ki : Nat))
  i1 : xs[11]? = some (.int .u32 (icl : Nat))
  i2 : xs[12]? = some (.int .u32 (inu : Nat))
  an : ∀ j v, a.cs[j]? = some v → xs[13 + j]? = some v
  c : xs[20]? = some (.int .u8 (co : Nat))
set_option maxRecDepth 100000 in
theorem stake_ans (d : Nat) (xs : List Value) (icl inu co : Nat) (a : AN) (hm : MsX xs 3 icl inu co a) (w : World) (R : Int → World → Prop)
    (hC : Calls Try.prog 27 #[.pointer (some ⟨d, 0, none⟩), .agg a.cs.toArray] (w.alloc (.cells xs.toArray 49)) fun e w' => ∃ r, e = .returned (.int .i64 r) ∧ R r w') :
    Calls Try.prog 14 #[.pointer (some ⟨d, 0, none⟩), .agg xs.toArray] w fun e w' => ∃ r, e = .returned (.int .i64 r) ∧ R r w' := by
  have hb := heap_alloc_new w (.cells xs.toArray 49)
  have c0 : (w.alloc (.cells xs.toArray 49)).cell? ⟨w.heap.size, 0, none⟩ = some (.int .u8 3) := cell_of_blk hb (by simpa using hm.k)
  have HR : Hid ((w.alloc (.cells xs.toArray 49)).rangeAt w.heap.size 13 a.cs) := hide (fun j v hv => cell_of_blk hb (by simpa using hm.an j v hv))
  have HC := hide hC
  clear hb hC hm
  go_enter Try.func14, Try.ntmps14
  go_wp2_with (refine wpList_load_mid rfl 44 (.tmp 10) rfl w.heap.size 13 rfl _ _ (unhide HR) Try.underlying44 rfl Try.sizeAn ?_)
  refine (unhide HC).mono ?_
  rintro e w1 ⟨r, rfl, hR⟩
  go_wp2_with fail
  go_ret
  exact ⟨r, rfl, hR⟩
set_option maxRecDepth 100000 in
theorem stake_busy (d : Nat) (xs : List Value) (icl inu co : Nat) (a : AN) (hm : MsX xs 4 icl inu co a) (hco : co < 256) (w : World) (R : Int → World → Prop)
    (hC : Calls Try.prog 28 #[.pointer (some ⟨d, 0, none⟩), .agg #[.int .u32 (icl : Nat), .int .u32 (inu : Nat)], .int .i64 (co : Nat)] (w.alloc (.cells xs.toArray 49)) fun e w' => ∃ r, e = .returned (.int .i64 r) ∧ R r w') :
    Calls Try.prog 14 #[.pointer (some ⟨d, 0, none⟩), .agg xs.toArray] w fun e w' => ∃ r, e = .returned (.int .i64 r) ∧ R r w' := by
  have hb := heap_alloc_new w (.cells xs.toArray 49)
  have c0 : (w.alloc (.cells xs.toArray 49)).cell? ⟨w.heap.size, 0, none⟩ = some (.int .u8 4) := cell_of_blk hb (by simpa using hm.k)
  have c1 : (w.alloc (.cells xs.toArray 49)).cell? ⟨w.heap.size, 11, none⟩ = some (.int .u32 (icl : Nat)) := cell_of_blk hb (by simpa using hm.i1)
  have c2 : (w.alloc (.cells xs.toArray 49)).cell? ⟨w.heap.size, 12, none⟩ = some (.int .u32 (inu : Nat)) := cell_of_blk hb (by simpa using hm.i2)
  have c3 : (w.alloc (.cells xs.toArray 49)).cell? ⟨w.heap.size, 20, none⟩ = some (.int .u8 (co : Nat)) := cell_of_blk hb (by simpa using hm.c)
  have HC := hide hC
  have hwr : wrap64 (co : Int) = (co : Int) := by unfold wrap64; omega
  clear hb hC hm
  go_enter Try.func14, Try.ntmps14
  go_wp2_with fail
  refine (unhide HC).mono ?_
  rintro e w1 ⟨r, rfl, hR⟩
  go_wp2_with fail
  go_ret
  exact ⟨r, rfl, hR⟩
set_option maxRecDepth 100000 in
theorem stake_no (d : Nat) (xs : List Value) (ki icl inu co : Nat) (a : AN) (hm : MsX xs ki icl inu co a) (h3 : ki ≠ 3) (h4 : ki ≠ 4) (w : World) :
    Calls Try.prog 14 #[.pointer (some ⟨d, 0, none⟩), .agg xs.toArray] w fun e w' => e = .returned (.int .i64 1) ∧ Fr (fun _ => False) w w' := by
  have hb := heap_alloc_new w (.cells xs.toArray 49)
  have c0 : (w.alloc (.cells xs.toArray 49)).cell? ⟨w.heap.size, 0, none⟩ = some (.int .u8 (ki : Nat)) := cell_of_blk hb (by simpa using hm.k)
  have e3 : ((ki : Int) == 3) = false := by simp; omega
  have e4 : ((ki : Int) == 4) = false := by simp; omega
  have e5 : ¬ (ki : Int) = 3 := by omega
  have e6 : ¬ (ki : Int) = 4 := by omega
  clear hb hm h3 h4
  go_enter Try.func14, Try.ntmps14
  go_wp2_with fail
  go_ret
  exact ⟨rfl, box1 w _⟩
end Go.Proofs.Ytkiepcdncegniaa
