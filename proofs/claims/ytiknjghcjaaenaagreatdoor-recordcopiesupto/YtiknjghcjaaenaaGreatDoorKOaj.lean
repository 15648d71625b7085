import Derived.Test.YtiknjghcjaaenaaGreatDoorKOai
namespace Go.Proofs.YtiknjghcjaaenaaGreatDoor
open Go.RowKit Go.Shelf
theorem FB.so {w W : World} {b : Nat} {f : F5} (h : FB w W b f) : W.cell? ⟨b, 0, none⟩ = some (.string f.n) ∧ W.cell? ⟨b, 2, none⟩ = some (.string f.t) ∧ W.frozen? ⟨b, 0, none⟩ = false ∧ W.frozen? ⟨b, 2, none⟩ = false ∧ FB w W b f :=
 ⟨h.cells.1, h.cells.2.2.1, h.cells.2.2.2.2.2 0, h.cells.2.2.2.2.2 2, h⟩
def fld0 : F5 := ⟨⟨#[]⟩, 0, ⟨#[]⟩, 0, 0⟩
theorem FB.other {w W : World} {b i : Nat} {f : F5} (h : FB w W b f) {c : Nat} (hc : c ≠ b) (hn : w.heap.size ≤ c) (v : Value) : FB w (W.setCell ⟨c, i, none⟩ v) b f :=
 ⟨by rw [← h.blk]; exact Below.heap_setCell _ _ _ _ (fun e => hc e.symm), h.fr.setCell (.inr hn) _, h.nw⟩
set_option maxHeartbeats 2000000 in
set_option maxRecDepth 100000 in
theorem ownCopy_any (f : F5) (w : World) (hn : f.n.size ≤ 281474976710656) (ht : f.t.size ≤ 281474976710656) :
  Calls Tryz.prog 93 #[f.val] w fun e w' => e = .returned f.val ∧ Fr (fun _ => False) w w' := by
 have HN := hide (fun W => sclone_any f.n W hn)
 have HT := hide (fun W => sclone_any f.t W ht)
 obtain ⟨W1, hW1⟩ : ∃ W1, W1 = (w.alloc (.cells f.cs 55)).alloc (.cells #[.string ⟨#[]⟩, .int .u8 0, .string ⟨#[]⟩, .float .f32 0, .int .u8 0] 55) := ⟨_, rfl⟩
 have h1 : FB w W1 w.heap.size f := by
  have h0 : FB w (w.alloc (.cells f.cs 55)) w.heap.size f := ⟨Array.getElem?_push_size, box1 w _, Nat.le_refl _⟩
  rw [hW1]
  exact h0.step (box1 _ _)
 have h1' : FB w W1 (w.heap.size + 1) fld0 := by
  have e : (w.alloc (.cells f.cs 55)).heap.size = w.heap.size + 1 := by simp
  rw [hW1, ← e]
  exact ⟨Array.getElem?_push_size, (box1 w _).trans (box1 _ _) (fun _ _ h => h), by rw [e]; omega⟩
 have H1 := hide h1
 have K1 := hide h1'
 clear h1 h1' hn ht
 simp only [F5.val, F5.cs] at *
 go_enter Tryz.func93, Tryz.ntmps93
 go_wp2_with fail
 rw [← hW1]
 clear hW1
 go_region_held3 (fun w' => w'.cell? ⟨w.heap.size, 0, none⟩ = some (.string f.n) ∧ w'.cell? ⟨w.heap.size, 2, none⟩ = some (.string f.t) ∧ w'.frozen? ⟨w.heap.size, 0, none⟩ = false ∧ w'.frozen? ⟨w.heap.size, 2, none⟩ = false ∧ FB w w' w.heap.size f)
  (first | exact ((unhide H1).step (Fr.refl _ _).drew).so | exact (unhide H2).so | exact (unhide H3).so | exact (unhide H3).set0.so | exact (unhide H3).set2.so | exact (unhide H3).set0.set2.so | exact (unhide H3).set2.set0.so)
  (first
   | (go_at_call 104; refine ((unhide HN) _).mono ?_; rintro e w2 ⟨rfl, hf2⟩; have H2 := hide (((unhide H1).step (Fr.refl _ _).drew).step hf2); have K2 := hide (((unhide K1).step (Fr.refl _ _).drew).step hf2); clear hf2)
   | (go_at_call 104; refine ((unhide HT) _).mono ?_; rintro e w3 ⟨rfl, hf3⟩; have H3 := hide ((unhide H2).step hf3); have K3 := hide ((unhide K2).step hf3); clear hf3))
 have h4 := (unhide H3).set0.set2
 have k4 : FB w ((w3.setCell ⟨w.heap.size, 0, none⟩ (.string f.n)).setCell ⟨w.heap.size, 2, none⟩ (.string f.t)) (w.heap.size + 1) fld0 := ((unhide K3).other (by omega) (Nat.le_refl _) _).other (by omega) (Nat.le_refl _) _
 generalize (w3.setCell ⟨w.heap.size, 0, none⟩ (.string f.n)).setCell ⟨w.heap.size, 2, none⟩ (.string f.t) = W4 at h4 k4 ⊢
 obtain ⟨c0, c1, c2, c3, c4, cz⟩ := h4.cells
 obtain ⟨e0, e1, e2, e3, e4, ez⟩ := k4.cells
 have HF := hide h4.fr
 have z0 := ez 0
 have z1 := ez 1
 have z2 := ez 2
 have z3 := ez 3
 have z4 := ez 4
 clear h4 k4 cz ez H1 K1 H2 K2 H3 K3 HN HT
 go_wp2_with fail
 (try simp only [Exit.inBlock, Exit.then])
 refine bodyPost_ret (results_cell_mid rfl _ _ (w.heap.size + 1) 0 [.string f.n, .int .u8 (f.k : Nat), .string f.t, .float .f32 f.v, .int .u8 (f.u : Nat)] _ rfl ?_ Tryz.underlying55 rfl (by kernel_rfl)) rfl ?_
 ·intro j v hv
  rcases j with _ | _ | _ | _ | _ | j
  ·simp at hv; subst hv; go_simp
  ·simp at hv; subst hv; go_simp
  ·simp at hv; subst hv; go_simp
  ·simp at hv; subst hv; go_simp
  ·simp at hv; subst hv; go_simp
  ·simp at hv
 ·exact ⟨rfl, (((((unhide HF).setCell (.inr (by simp)) _).setCell (.inr (by simp)) _).setCell (.inr (by simp)) _).setCell (.inr (by simp)) _).setCell (.inr (by simp)) _⟩
end Go.Proofs.YtiknjghcjaaenaaGreatDoor
