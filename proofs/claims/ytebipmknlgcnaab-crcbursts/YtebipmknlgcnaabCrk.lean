import Derived.Test.YtebipmknlgcnaabCrj
import Derived.Lib.SlBytesConst
namespace Go.Proofs.Ytebipmknlgcnaab
open Go.RowKit

theorem sum_any (x : Value) (l : List Nat) (w : World) (hx : Src w x l) (hl : l.length ≤ 140737488355328) :
    Calls Try.prog 6 #[x] w fun e w' => e = .returned (.int .u32 (Sm 0 l : Nat)) ∧ Fr (fun _ => False) w w' := by
  have HX := hide hx
  clear hx
  go_enter Try.func6, Try.ntmps6
  go_wp2_with fail
  refine (up_any 0 x l w (by decide) (unhide HX) hl).mono ?_
  rintro e w2 ⟨rfl, hF⟩
  have HF := hide hF
  clear hF
  go_wp2_with fail
  go_ret
  exact ⟨rfl, unhide HF⟩
/-- Bytes that the program's text has, in a new block. -/
theorem src_new (w : World) (l : List Nat) (cs : Array Value) (t : TypeId) (fz : Nat × Nat) (n : Nat) (hn : n = l.length) (h : cs = (cellsOf l).toArray) : Src (w.alloc (.cells cs t fz)) (.slice (some ⟨w.heap.size, 0, none⟩) n n) l := by
  subst hn h
  refine .inr (.inl ⟨_, 0, _, rfl, fun j v hv => ?_⟩)
  rw [Nat.zero_add, ← hv]
  simp only [World.alloc, World.cell?, Array.getElem?_push, if_true]
  simp
theorem sm_123 : Sm 0 [49, 50, 51, 52, 53, 54, 55, 56, 57] = 3808858755 := by decide +kernel
theorem sm_a : Sm 0 [97] = 3251651376 := by decide +kernel
set_option maxRecDepth 100000 in
theorem awake_any (w : World) : Calls Try.prog 5 #[] w fun e w' => e = .returned (.bool true) ∧ Fr (fun _ => False) w w' := by
  have hcv := fun (w : World) (C : Array Value) (n c : Nat) => Lib.run_convert_bytes_const (P := Try.prog) w 22 5 C n c Try.underlying22 Try.underlying5
  go_enter Try.func5, Try.ntmps5
  go_wp2_with fail
  refine (sum_any _ [49, 50, 51, 52, 53, 54, 55, 56, 57] _ ?_ (by decide)).mono ?_
  · exact src_new w _ _ _ _ _ rfl rfl
  rintro e w2 ⟨rfl, hF⟩
  rw [sm_123]
  have hF2 := ((Fr.refl (fun _ => False) w).alloc _).trans hF (fun _ _ h => h)
  have HF := hide hF2
  clear hF hF2
  go_wp2_with fail
  refine (sum_any _ [97] _ ?_ (by decide)).mono ?_
  · exact src_new w2 _ _ _ _ _ rfl rfl
  rintro e w3 ⟨rfl, hF⟩
  rw [sm_a]
  have hF2 := ((unhide HF).alloc _).trans hF (fun _ _ h => h)
  have HG := hide hF2
  clear hF hF2
  go_wp2_with fail
  go_ret
  exact ⟨rfl, unhide HG⟩
end Go.Proofs.Ytebipmknlgcnaab
