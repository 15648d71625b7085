import Derived.Test.YtiknjghcjaaenaaGreatDoorKOas
namespace Go.Proofs.YtiknjghcjaaenaaGreatDoor
open Go.RowKit Go.Shelf
structure AN where
 cl : Nat
 nu : Nat
 co : Nat
 rc : Nat
 ve : Nat
 fv : Value
 hv : Value
def AN.cs (a : AN) : List Value := [.int .u32 (a.cl : Nat), .int .u32 (a.nu : Nat), .int .u8 (a.co : Nat), .int .u32 (a.rc : Nat), .int .u32 (a.ve : Nat), a.fv, a.hv]
def AN.v (a : AN) : Value := .agg a.cs.toArray
def AN.no (c : Nat) : AN := ⟨0, 0, c, 0, 0, .slice none 0 0, .slice none 0 0⟩
set_option maxRecDepth 100000 in
theorem refusal_any (c : Nat) (w : World) : Calls Tryz.prog 36 #[.int .u8 (c : Nat)] w fun e w' => e = .returned (AN.no c).v ∧ Fr (fun _ => False) w w' := by
 go_enter Tryz.func36, Tryz.ntmps36
 go_wp2_with fail
 refine bodyPost_ret (results_cell_mid rfl _ _ w.heap.size 0 (AN.no c).cs _ rfl (range_new _ _ _ _ rfl) Tryz.underlying45 rfl (by kernel_rfl)) rfl ?_
 exact ⟨rfl, box1 w _⟩
set_option maxHeartbeats 1000000 in
set_option maxRecDepth 100000 in
theorem sheet_any (g o : Nat) (wa ow : Nat) (sl : Bool) (gv : Value) (xo : Option Addr) (xn xc : Nat) (w : World) (hgv : gv = .slice xo xn xc) (c0 : w.cell? ⟨g, o, none⟩ = some (.int .u32 (wa : Nat))) (c1 : w.cell? ⟨g, o + 1, none⟩ = some (.int .u32 (ow : Nat))) (c2 : w.cell? ⟨g, o + 2, none⟩ = some (.bool sl)) (c3 : w.cell? ⟨g, o + 3, none⟩ = some gv) :
  Calls Tryz.prog 77 #[.pointer (some ⟨g, o, none⟩)] w fun e w' => e = .returned (.agg #[.int .u32 (wa : Nat), .int .u32 (ow : Nat), .bool sl, gv]) ∧ Fr (fun _ => False) w w' := by
 subst hgv
 have hgl : g < w.heap.size := lt_of_cell c0
 have hne : w.heap.size ≠ g := by omega
 go_enter Tryz.func77, Tryz.ntmps77
 go_wp2_with fail
 go_region_held3 (fun w' => w'.cell? ⟨g, o, none⟩ = some (.int .u32 (wa : Nat)) ∧ w'.cell? ⟨g, o + 1, none⟩ = some (.int .u32 (ow : Nat)) ∧ w'.cell? ⟨g, o + 2, none⟩ = some (.bool sl) ∧ w'.cell? ⟨g, o + 3, none⟩ = some (.slice xo xn xc)) (go_keep) (fail)
 all_goals
  go_wp2_with fail
  refine bodyPost_ret (results_cell_mid rfl _ _ w.heap.size 0 [.int .u32 (wa : Nat), .int .u32 (ow : Nat), .bool sl, .slice xo xn xc] _ rfl (fun j v hv => range_new w _ 127 _ rfl j v hv) Tryz.underlying127 rfl (by kernel_rfl)) rfl ?_
  exact ⟨rfl, (box1 w _).drew⟩
end Go.Proofs.YtiknjghcjaaenaaGreatDoor
