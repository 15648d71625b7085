import Derived.Test.YtiknjghcjaaenaaGreatDoorKObe
namespace Go.Proofs.YtiknjghcjaaenaaGreatDoor
open Go.RowKit Go.Shelf
theorem CB.setVe {w W : World} {B : Nat} {r : RQ} (h : CB w W B r) (n : Nat) : CB w (W.setCell ⟨B, 5, none⟩ (.int .u32 (n : Nat))) B { r with ve := n } :=
 ⟨heap_setCell_same W B 5 r.cs _ _ h.r, (heap_setCell_other W ⟨B, 5, none⟩ (B + 1) _ (by show B + 1 ≠ B; omega)).trans h.a, h.f.setCell (.inr (by have := h.n; show _ ≤ B; omega)) _, h.n⟩
theorem Tryz.nf1 (a : Addr) (n c : Nat) (w : World) : (binOp .eql 39 (.slice (some a) n c) (.slice none 0 0)).run Tryz.prog w = .ok (.bool false) w := by kernel_rfl
theorem Tryz.nf0 (n c : Nat) (w : World) : (binOp .eql 39 (.slice none n c) (.slice none 0 0)).run Tryz.prog w = .ok (.bool true) w := by kernel_rfl
set_option maxRecDepth 100000 in
theorem fclone_any (x : Value) (l : List F5) (w : World) (hx : FdC w w.heap.size x l) (hl : l.length ≤ 1000) :
  Calls Tryz.prog 53 #[x] w fun e w' => ∃ v, e = .returned v ∧ OwF w' w.heap.size v l ∧ Fr (fun _ => False) w w' := by
 obtain ⟨xo, xc, rfl⟩ := hx.f.form
 cases xo with
 | none =>
  have h0 : l.length = 0 := by
   have h1 := hx.c _ _ _ rfl
   have h2 := hx.z _ _ rfl
   omega
  obtain rfl := List.length_eq_zero_iff.1 h0
  have n0 := Tryz.nf0
  clear hx h0
  go_enter Tryz.func53, Tryz.ntmps53
  go_wp2_with fail
  go_ret
  exact ⟨_, rfl, World.ownsRow_nil _ _ _ _, Fr.refl _ _⟩
 | some a =>
  have hx1 : FdC (w.alloc (.cells #[] 55)) w.heap.size (.slice (some a) l.length xc) l := hx.frS ((box1 w _).mono (fun _ _ h => h.elim))
  obtain ⟨ao, cap, w2, hr, ho, hf⟩ := app_flds (w.alloc (.cells #[] 55)) w.heap.size (.slice (some ⟨w.heap.size, 0, none⟩) 0 0) _ [] l (World.ownsRow_made w #[] 0 (Nat.le_refl _) (Nat.zero_le _) rfl) (by simp) hx1 (by simp; omega)
  have HR := hide hr
  have HA := hide (And.intro ho hf)
  clear hr ho hf hx hx1
  have n1 := Tryz.nf1
  go_enter Tryz.func53, Tryz.ntmps53
  go_wp2_with (at_builtin; refine wpList_app rfl _ _ 39 39 rfl _ _ _ rfl rfl (unhide HR) ?_)
  go_ret
  obtain ⟨ho, hf⟩ := unhide HA
  exact ⟨_, rfl, by simpa using ho, (box1 w _).absorb hf (fun i hi => by simp [Value.ownBlock] at hi; omega)⟩
end Go.Proofs.YtiknjghcjaaenaaGreatDoor
