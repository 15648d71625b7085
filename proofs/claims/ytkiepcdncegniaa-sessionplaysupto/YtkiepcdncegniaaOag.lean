import Derived.Test.YtkiepcdncegniaaOaf
namespace Go.Proofs.Ytkiepcdncegniaa
open Go.RowKit

/-- A row just made. -/
theorem range_new (W : World) (cs : List Value) (t : TypeId) (b : Nat) (hb : b = W.heap.size) : (W.alloc (.cells cs.toArray t)).rangeAt b 0 cs := by
  subst hb
  intro j v hv
  rw [World.cell?_alloc_at _ _ _ _ rfl, Nat.zero_add]
  show cs.toArray[j]? = some v
  rw [List.getElem?_toArray]
  exact hv
set_option maxHeartbeats 1000000 in
set_option maxRecDepth 100000 in
theorem unused_1 (cl nu ac rc ve wa ow : Nat) (rs : ByteArray) (xo : Option Addr) (n xc : Nat) (w : World) :
    Calls Try.prog 35 #[(RQ.mk cl nu ac 1 rc ve wa ow (.slice xo n xc) rs).v] w fun e w' => e = .returned (RQ.mk cl nu ac 1 rc ve 0 0 (.slice none 0 0) rs).v ∧ Fr (fun _ => False) w w' := by
  simp only [RQ.v]
  go_enter Try.func35, Try.ntmps35
  go_wp2_with fail
  refine bodyPost_ret (results_cell_mid rfl _ _ (w.heap.size + 1) 0 [.int .u32 (cl : Nat), .int .u32 (nu : Nat), .int .u32 (ac : Nat), .int .u8 (1 : Nat), .int .u32 (rc : Nat), .int .u32 (ve : Nat), .int .u32 (0 : Nat), .int .u32 (0 : Nat), .slice none 0 0, .string rs] _ rfl (range_new _ _ _ _ (by simp)) Try.underlying34 rfl (by kernel_rfl)) rfl ?_
  exact ⟨rfl, (box1 w _).trans (box1 _ _) (fun _ _ h => h)⟩
set_option maxHeartbeats 1000000 in
set_option maxRecDepth 100000 in
theorem unused_2 (cl nu ac rc ve wa ow : Nat) (rs : ByteArray) (xo : Option Addr) (n xc : Nat) (w : World) :
    Calls Try.prog 35 #[(RQ.mk cl nu ac 2 rc ve wa ow (.slice xo n xc) rs).v] w fun e w' => e = .returned (RQ.mk cl nu ac 2 0 0 wa ow (.slice none 0 0) rs).v ∧ Fr (fun _ => False) w w' := by
  simp only [RQ.v]
  go_enter Try.func35, Try.ntmps35
  go_wp2_with fail
  refine bodyPost_ret (results_cell_mid rfl _ _ (w.heap.size + 1) 0 [.int .u32 (cl : Nat), .int .u32 (nu : Nat), .int .u32 (ac : Nat), .int .u8 (2 : Nat), .int .u32 (0 : Nat), .int .u32 (0 : Nat), .int .u32 (wa : Nat), .int .u32 (ow : Nat), .slice none 0 0, .string rs] _ rfl (range_new _ _ _ _ (by simp)) Try.underlying34 rfl (by kernel_rfl)) rfl ?_
  exact ⟨rfl, (box1 w _).trans (box1 _ _) (fun _ _ h => h)⟩
set_option maxHeartbeats 1000000 in
set_option maxRecDepth 100000 in
theorem unused_3 (cl nu ac rc ve wa ow : Nat) (rs : ByteArray) (xo : Option Addr) (n xc : Nat) (w : World) :
    Calls Try.prog 35 #[(RQ.mk cl nu ac 3 rc ve wa ow (.slice xo n xc) rs).v] w fun e w' => e = .returned (RQ.mk cl nu ac 3 0 0 wa ow (.slice xo n xc) rs).v ∧ Fr (fun _ => False) w w' := by
  simp only [RQ.v]
  go_enter Try.func35, Try.ntmps35
  go_wp2_with fail
  refine bodyPost_ret (results_cell_mid rfl _ _ (w.heap.size + 1) 0 [.int .u32 (cl : Nat), .int .u32 (nu : Nat), .int .u32 (ac : Nat), .int .u8 (3 : Nat), .int .u32 (0 : Nat), .int .u32 (0 : Nat), .int .u32 (wa : Nat), .int .u32 (ow : Nat), .slice xo n xc, .string rs] _ rfl (range_new _ _ _ _ (by simp)) Try.underlying34 rfl (by kernel_rfl)) rfl ?_
  exact ⟨rfl, (box1 w _).trans (box1 _ _) (fun _ _ h => h)⟩
set_option maxHeartbeats 1000000 in
set_option maxRecDepth 100000 in
theorem unused_4 (cl nu ac rc ve wa ow : Nat) (rs : ByteArray) (xo : Option Addr) (n xc : Nat) (w : World) :
    Calls Try.prog 35 #[(RQ.mk cl nu ac 4 rc ve wa ow (.slice xo n xc) rs).v] w fun e w' => e = .returned (RQ.mk cl nu ac 4 0 0 wa ow (.slice xo n xc) rs).v ∧ Fr (fun _ => False) w w' := by
  simp only [RQ.v]
  go_enter Try.func35, Try.ntmps35
  go_wp2_with fail
  refine bodyPost_ret (results_cell_mid rfl _ _ (w.heap.size + 1) 0 [.int .u32 (cl : Nat), .int .u32 (nu : Nat), .int .u32 (ac : Nat), .int .u8 (4 : Nat), .int .u32 (0 : Nat), .int .u32 (0 : Nat), .int .u32 (wa : Nat), .int .u32 (ow : Nat), .slice xo n xc, .string rs] _ rfl (range_new _ _ _ _ (by simp)) Try.underlying34 rfl (by kernel_rfl)) rfl ?_
  exact ⟨rfl, (box1 w _).trans (box1 _ _) (fun _ _ h => h)⟩
set_option maxHeartbeats 1000000 in
set_option maxRecDepth 100000 in
theorem unused_5 (cl nu ac rc ve wa ow : Nat) (rs : ByteArray) (xo : Option Addr) (n xc : Nat) (w : World) :
    Calls Try.prog 35 #[(RQ.mk cl nu ac 5 rc ve wa ow (.slice xo n xc) rs).v] w fun e w' => e = .returned (RQ.mk cl nu ac 5 0 ve wa ow (.slice xo n xc) rs).v ∧ Fr (fun _ => False) w w' := by
  simp only [RQ.v]
  go_enter Try.func35, Try.ntmps35
  go_wp2_with fail
  refine bodyPost_ret (results_cell_mid rfl _ _ (w.heap.size + 1) 0 [.int .u32 (cl : Nat), .int .u32 (nu : Nat), .int .u32 (ac : Nat), .int .u8 (5 : Nat), .int .u32 (0 : Nat), .int .u32 (ve : Nat), .int .u32 (wa : Nat), .int .u32 (ow : Nat), .slice xo n xc, .string rs] _ rfl (range_new _ _ _ _ (by simp)) Try.underlying34 rfl (by kernel_rfl)) rfl ?_
  exact ⟨rfl, (box1 w _).trans (box1 _ _) (fun _ _ h => h)⟩
set_option maxHeartbeats 1000000 in
set_option maxRecDepth 100000 in
theorem unused_6 (cl nu ac rc ve wa ow : Nat) (rs : ByteArray) (xo : Option Addr) (n xc : Nat) (w : World) :
    Calls Try.prog 35 #[(RQ.mk cl nu ac 6 rc ve wa ow (.slice xo n xc) rs).v] w fun e w' => e = .returned (RQ.mk cl nu ac 6 0 0 wa ow (.slice xo n xc) rs).v ∧ Fr (fun _ => False) w w' := by
  simp only [RQ.v]
  go_enter Try.func35, Try.ntmps35
  go_wp2_with fail
  refine bodyPost_ret (results_cell_mid rfl _ _ (w.heap.size + 1) 0 [.int .u32 (cl : Nat), .int .u32 (nu : Nat), .int .u32 (ac : Nat), .int .u8 (6 : Nat), .int .u32 (0 : Nat), .int .u32 (0 : Nat), .int .u32 (wa : Nat), .int .u32 (ow : Nat), .slice xo n xc, .string rs] _ rfl (range_new _ _ _ _ (by simp)) Try.underlying34 rfl (by kernel_rfl)) rfl ?_
  exact ⟨rfl, (box1 w _).trans (box1 _ _) (fun _ _ h => h)⟩
set_option maxHeartbeats 1000000 in
set_option maxRecDepth 100000 in
theorem unused_7 (cl nu ac rc ve wa ow : Nat) (rs : ByteArray) (xo : Option Addr) (n xc : Nat) (w : World) :
    Calls Try.prog 35 #[(RQ.mk cl nu ac 7 rc ve wa ow (.slice xo n xc) rs).v] w fun e w' => e = .returned (RQ.mk cl nu ac 7 0 ve wa ow (.slice xo n xc) ⟨#[]⟩).v ∧ Fr (fun _ => False) w w' := by
  simp only [RQ.v]
  go_enter Try.func35, Try.ntmps35
  go_wp2_with fail
  refine bodyPost_ret (results_cell_mid rfl _ _ (w.heap.size + 1) 0 [.int .u32 (cl : Nat), .int .u32 (nu : Nat), .int .u32 (ac : Nat), .int .u8 (7 : Nat), .int .u32 (0 : Nat), .int .u32 (ve : Nat), .int .u32 (wa : Nat), .int .u32 (ow : Nat), .slice xo n xc, .string ⟨#[]⟩] _ rfl (range_new _ _ _ _ (by simp)) Try.underlying34 rfl (by kernel_rfl)) rfl ?_
  exact ⟨rfl, (box1 w _).trans (box1 _ _) (fun _ _ h => h)⟩
/-- Is a request empty but for who asks? -/
def RQ.emp (r : RQ) (n : Nat) : Bool := decide (r.rc = 0) && (decide (r.ve = 0) && (decide (r.wa = 0) && (decide (r.ow = 0) && (decide (n = 0) && decide (r.rs.size = 0)))))
set_option maxHeartbeats 4000000 in
set_option maxRecDepth 100000 in
theorem isEmpty_any (cl nu ac op rc ve wa ow : Nat) (rs : ByteArray) (xo : Option Addr) (n xc : Nat) (w : World) :
    Calls Try.prog 34 #[(RQ.mk cl nu ac op rc ve wa ow (.slice xo n xc) rs).v] w fun e w' => e = .returned (.bool ((RQ.mk cl nu ac op rc ve wa ow (.slice xo n xc) rs).emp n)) ∧ Fr (fun _ => False) w w' := by
  simp only [RQ.v, RQ.emp]
  by_cases h0 : rc = 0
  rotate_left
  · have e0 : ((rc : Int) == 0) = false := by rw [beq_eq_false_iff_ne]; omega
    rw [decide_eq_false h0]
    simp only [Bool.false_and]
    go_enter Try.func34, Try.ntmps34
    go_wp2_with fail
    go_ret
    exact ⟨rfl, box1 w _⟩
  subst h0
  simp only [decide_true, Bool.true_and]
  by_cases h1 : ve = 0
  rotate_left
  · have e1 : ((ve : Int) == 0) = false := by rw [beq_eq_false_iff_ne]; omega
    rw [decide_eq_false h1]
    simp only [Bool.false_and]
    go_enter Try.func34, Try.ntmps34
    go_wp2_with fail
    go_ret
    exact ⟨rfl, box1 w _⟩
  subst h1
  simp only [decide_true, Bool.true_and]
  by_cases h2 : wa = 0
  rotate_left
  · have e2 : ((wa : Int) == 0) = false := by rw [beq_eq_false_iff_ne]; omega
    rw [decide_eq_false h2]
    simp only [Bool.false_and]
    go_enter Try.func34, Try.ntmps34
    go_wp2_with fail
    go_ret
    exact ⟨rfl, box1 w _⟩
  subst h2
  simp only [decide_true, Bool.true_and]
  by_cases h3 : ow = 0
  rotate_left
  · have e3 : ((ow : Int) == 0) = false := by rw [beq_eq_false_iff_ne]; omega
    rw [decide_eq_false h3]
    simp only [Bool.false_and]
    go_enter Try.func34, Try.ntmps34
    go_wp2_with fail
    go_ret
    exact ⟨rfl, box1 w _⟩
  subst h3
  simp only [decide_true, Bool.true_and]
  by_cases h4 : n = 0
  rotate_left
  · have e4 : ((n : Int) == 0) = false := by rw [beq_eq_false_iff_ne]; omega
    rw [decide_eq_false h4]
    simp only [Bool.false_and]
    go_enter Try.func34, Try.ntmps34
    go_wp2_with fail
    go_ret
    exact ⟨rfl, box1 w _⟩
  subst h4
  simp only [decide_true, Bool.true_and]
  rw [← emp]
  go_enter Try.func34, Try.ntmps34
  go_wp2_with fail
  go_ret
  exact ⟨rfl, box1 w _⟩
end Go.Proofs.Ytkiepcdncegniaa
