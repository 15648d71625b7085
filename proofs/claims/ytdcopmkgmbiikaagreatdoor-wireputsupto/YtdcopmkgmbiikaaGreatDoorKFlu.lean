import Derived.Test.YtdcopmkgmbiikaaGreatDoorKFlt
namespace Go.Proofs.YtdcopmkgmbiikaaGreatDoor
open Go.RowKit
def Wst.flt (s : Wst) (x : Nat) (er : Addr) : Wst := if quantB x = true then s.putB (be 4 x) else s.fail er
set_option maxRecDepth 100000 in
theorem wF32_any (b x : Nat) (F : Nat → Prop) (s : Wst) (er : Addr) (w : World) (hr : Rg w er) (h : W w b F s) (hx : x < 4294967296) (hl : s.l.length + 4 ≤ 140737488355328) :
  Calls Tryz.prog 187 #[.pointer (some ⟨b, 0, none⟩), .float .f32 x] w fun e w' => e = .returned (.tuple #[]) ∧ ∃ F', W w' b F' (s.flt x er) ∧ Ch w w' F F' := by
 have hb := h.lt b h.fb
 have hmf := mf
 have HG := hid hr
 clear hr
 by_cases hn : s.f = none
 ·have HN := hid hn
  by_cases hq : quantB x = true
  ·rw [Wst.flt, if_pos hq, Wst.putB, if_pos hn]
   clear hn
   go_enter Tryz.func187, Tryz.ntmps187
   go_wp2_with fail
   refine (att_ok (w := w) (be 4 x) h (uh HN) (box2 _ _ _) (enters Tryz.func205 (by kernel_rfl) (by kernel_rfl) _) (fun wk sv hk h2 f2 ho hF => wF32_clo b x ⟨w.heap.size + 1, 0, none⟩ ⟨w.heap.size, 0, none⟩ er sv s.l wk hx hq ((uh HG).fr0 ((box2 _ _ _).trans hk (fun _ _ h => h))) ((hk.cell (by simp) (fun h => h)).trans (by simp)) ((hk.cell (by simp <;> omega) (fun h => h)).trans (by simp)) h2 f2 ho hl)).mono ?_
   rintro e w' ⟨rfl, hq⟩
   go_wp2_with fail
   go_end0
   exact ⟨rfl, hq⟩
  ·have hq' : quantB x = false := by simpa using hq
   rw [Wst.flt, if_neg hq, Wst.fail, if_pos hn]
   clear hn hq
   go_enter Tryz.func187, Tryz.ntmps187
   go_wp2_with fail
   refine (att_bad (w := w) s.l.length er h (uh HN) (box2 _ _ _) (enters Tryz.func205 (by kernel_rfl) (by kernel_rfl) _) (fun wk hk hW => by
    obtain ⟨ao, cap, h2⟩ := hW.sv (uh HN)
    exact wF32_clo_bad b x ⟨w.heap.size + 1, 0, none⟩ ⟨w.heap.size, 0, none⟩ er s.nm ao s.l.length cap wk hx hq' ((uh HG).fr0 ((box2 _ _ _).trans hk (fun _ _ h => h))) ((hk.cell (by simp) (fun h => h)).trans (by simp)) ((hk.cell (by simp <;> omega) (fun h => h)).trans (by simp)) hW.c0 h2)).mono ?_
   rintro e w' ⟨rfl, hq⟩
   go_wp2_with fail
   go_end0
   exact ⟨rfl, hq⟩
 ·have HN := hid hn
  have e : s.flt x er = s := by simp [Wst.flt, Wst.putB, Wst.fail, hn]
  rw [e]
  clear hn e
  go_enter Tryz.func187, Tryz.ntmps187
  go_wp2_with fail
  refine (att_given (w := w) h (uh HN) (box2 _ _ _)).mono ?_
  rintro e w' ⟨rfl, hq⟩
  go_wp2_with fail
  go_end0
  exact ⟨rfl, hq⟩
end Go.Proofs.YtdcopmkgmbiikaaGreatDoor
