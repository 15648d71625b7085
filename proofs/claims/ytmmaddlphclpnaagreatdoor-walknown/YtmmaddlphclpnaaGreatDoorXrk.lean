import Derived.Test.YtmmaddlphclpnaaGreatDoorXrj
import Derived.Lib.SlBytesConst
namespace Go.Proofs.YtmmaddlphclpnaaGreatDoor
open Go.RowKit
set_option maxRecDepth 100000

theorem csum_any (x : Value) (l : List Nat) (w : World) (hx : Src w x l) (hl : l.length ≤ 140737488355328) :
    Calls Tryz.prog 108 #[x] w fun e w' => e = .returned (.int .u32 (Sm 0 l : Nat)) ∧ Fr (fun _ => False) w w' := by
  have HX := hide hx
  clear hx
  go_enter Tryz.func108, Tryz.ntmps108
  go_wp2_with fail
  refine (up_any 0 x l w (by decide) (unhide HX) hl).mono ?_
  rintro e w2 ⟨rfl, hF⟩
  have HF := hide hF
  clear hF
  go_wp2_with fail
  go_ret
  exact ⟨rfl, unhide HF⟩
/-- Bytes that the program's text has, in a new block. -/
theorem src_new (w : World) (l : List Nat) (cs : Array Value) (t : TypeId) (fz : Nat × Nat) (n : Nat) (hn : n = l.length) (h : cs = (cellsOf l).toArray) : Src (w.alloc (.cells cs t fz)) (.slice (some ⟨w.heap.size, 0, none⟩) n n) l := by
  subst hn h
  refine .inr (.inl ⟨_, 0, _, rfl, fun j v hv => ?_⟩)
  rw [Nat.zero_add, ← hv]
  simp only [World.alloc, World.cell?, Array.getElem?_push, if_true]
  simp
end Go.Proofs.YtmmaddlphclpnaaGreatDoor
