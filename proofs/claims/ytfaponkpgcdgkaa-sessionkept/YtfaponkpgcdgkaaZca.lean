import Derived.Test.YtfaponkpgcdgkaaZbr
import Derived.Laws.StructEq
namespace Go.Proofs.Ytfaponkpgcdgkaa
open Go.RowKit Go.Maps

theorem Try.held_id : Try.prog.stoodInHeld 29 = false := by kernel_rfl
theorem Try.fields_id : Try.prog.underlying 29 = some (.struct (Try.prog.fieldsOf 29)) := by kernel_rfl
theorem nat_eq (a b : Nat) : ((a : Int) == (b : Int)) = decide (a = b) := by
  by_cases h : a = b
  · subst h; simp
  · have : ¬ ((a : Int) = (b : Int)) := by omega
    simp [h, this]
theorem eql_id (a b c d : Nat) (w : World) : (binOp .eql 29 (.agg #[.int .u32 (a : Nat), .int .u32 (b : Nat)]) (.agg #[.int .u32 (c : Nat), .int .u32 (d : Nat)])).run Try.prog w = .ok (.bool (decide (a = c) && decide (b = d))) w := by
  rw [run_eql_struct, show (10000 : Nat) = 9999 + 1 from rfl, run_equalIn_agg _ 9999 _ _ _ Try.fields_id Try.held_id]
  by_cases h1 : a = c <;> by_cases h2 : b = d <;> simp [Program.fieldsOf, Try.underlying29, Op.eqFields, go_sem, h1, h2, nat_eq]
theorem neq_id (a b c d : Nat) (w : World) : (binOp .neq 29 (.agg #[.int .u32 (a : Nat), .int .u32 (b : Nat)]) (.agg #[.int .u32 (c : Nat), .int .u32 (d : Nat)])).run Try.prog w = .ok (.bool (!(decide (a = c) && decide (b = d)))) w := by
  rw [run_neq_struct, show (10000 : Nat) = 9999 + 1 from rfl, run_equalIn_agg _ 9999 _ _ _ Try.fields_id Try.held_id]
  by_cases h1 : a = c <;> by_cases h2 : b = d <;> simp [Program.fieldsOf, Try.underlying29, Op.eqFields, go_sem, h1, h2, nat_eq]
/-- What create tells. -/
def crR : RQ := ⟨0, 0, 1, 1, 0, 0, 7, 6, .slice none 0 0, ⟨#[]⟩⟩
set_option maxRecDepth 100000 in
theorem create_any (w : World) : Calls Try.prog 11 #[] w fun e w' => e = .returned crR.v ∧ Fr (fun _ => False) w w' := by
  go_enter Try.func11, Try.ntmps11
  go_wp2_with fail
  refine bodyPost_ret (results_cell_mid rfl _ _ w.heap.size 0 crR.cs _ rfl (range_of_block (t := 34) (heap_alloc_new w _)) Try.underlying34 rfl Try.sizeRq) rfl ?_
  exact ⟨rfl, box1 w _⟩
/-- What answered tells. -/
def ansA (c k r : Nat) : AN := ⟨c, k, 0, r, 1, .slice none 0 0, .slice none 0 0⟩
def ansM (c k r : Nat) : List Value := .int .u8 3 :: (zR ++ ([.int .u32 0, .int .u32 0] ++ ((ansA c k r).cs ++ (.int .u8 0 :: (zE ++ [.int .u32 0])))))
theorem ansM_x (c k r : Nat) : MsX (ansM c k r) 3 0 0 0 (ansA c k r) := ⟨rfl, rfl, rfl, fun j v hj => by
  have hl := (List.getElem?_eq_some_iff.1 hj).1
  have h7 : j < 7 := hl
  match j, h7 with
  | 0, _ => exact hj
  | 1, _ => exact hj
  | 2, _ => exact hj
  | 3, _ => exact hj
  | 4, _ => exact hj
  | 5, _ => exact hj
  | 6, _ => exact hj, rfl⟩
def zM : List Value := .int .u8 0 :: (zR ++ ([.int .u32 0, .int .u32 0] ++ (zA ++ (.int .u8 0 :: (zE ++ [.int .u32 0])))))
theorem ansM_one (c k r : Nat) : ∀ v ∈ ansM c k r, v.oneCell' = true := List.all_eq_true.1 (show List.all (ansM c k r) (fun v => v.oneCell') = true from rfl)
set_option maxRecDepth 100000 in
set_option maxHeartbeats 4000000 in
theorem answered_any (c k r : Nat) (w : World) : Calls Try.prog 16 #[.int .u32 (c : Nat), .int .u32 (k : Nat), .int .u32 (r : Nat)] w fun e w' => e = .returned (.agg (ansM c k r).toArray) ∧ Fr (fun _ => False) w w' := by
  have hb : ((w.alloc (.cells zM.toArray 49)).alloc (.cells #[.int .u32 (c : Nat), .int .u32 (k : Nat)] 29)).heap[w.heap.size]? = some (.cells zM.toArray 49) := (Below.heap_alloc _ _ _ (by simp)).trans (heap_alloc_new w _)
  obtain ⟨W8, hst, hb8, hf8⟩ := st_all (P := Try.prog) (ty := 49) zM (ansM c k r) hb rfl Try.sizeMs (ansM_one c k r)
  have hfin : Fr (fun _ => False) w W8 := ((box1 w _).alloc _).trans hf8 (fun g hg e => by omega)
  have HST := hide hst
  have HE := hide (And.intro (range_of_block hb8) hfin)
  clear hb hst hb8 hf8 hfin
  go_enter Try.func16, Try.ntmps16
  go_wp2_with (refine wpList_stN rfl 49 (.tmp 6) (.tmp 14) rfl _ _ rfl rfl (unhide HST) ?_)
  refine bodyPost_ret (results_cell_mid rfl _ _ w.heap.size 0 _ _ rfl (unhide HE).1 Try.underlying49 rfl Try.sizeMs) rfl ?_
  exact ⟨rfl, (unhide HE).2⟩
end Go.Proofs.Ytfaponkpgcdgkaa
