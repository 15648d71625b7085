import Derived.Test.YtiknjghcjaaenaaGreatDoorKOcc
namespace Go.Proofs.YtiknjghcjaaenaaGreatDoor
open Go.RowKit Go.Shelf
theorem Tryz.infoVe : (Tryz.prog.info? 110).map (fun i => (i.zero, i.size, i.bytes)) = some (some (.agg #[.int .u32 0, .int .u32 0, .slice none 0 0, .bool false]), 4, 40) := by kernel_rfl
theorem app_version (w : World) (x : Nat) (v : Value) (n : Nat) (xs : List Value) (a b c d : Value) (h : w.ownsRow 0 110 4 v n xs) (hn : n ≤ 1000000) (hx : w.heap[x]? = some (.cells #[a, b, c, d] 110)) (h1 : ∀ u ∈ [a, b, c, d], u.oneCell' = true) :
  ∃ ao cap w', (Builtin.append_ #[85, 85] 85 #[v, .slice (some ⟨x, 0, none⟩) 1 1]).run Tryz.prog w = .ok (.slice ao (n + 1) cap) w' ∧ w'.ownsRow 0 110 4 (.slice ao (n + 1) cap) (n + 1) (xs ++ [a, b, c, d]) ∧ Fr (fun g => v.ownBlock = some g) w w' ∧
   ∀ g, (Value.slice ao (n + 1) cap).ownBlock = some g → v.ownBlock = some g ∨ w.heap.size ≤ g := by
 obtain ⟨i0, hi, hz0, hz1, hz2⟩ := info_parts Tryz.infoVe
 obtain ⟨v', w', hr, h2, h3, _, h5⟩ := run_append_own_at (P := Tryz.prog) (w := w) 0 85 85 110 i0 (.agg #[.int .u32 0, .int .u32 0, .slice none 0 0, .bool false]) 4 40 Tryz.underlying85 hi hz0 hz1 hz2 rfl (by decide) v n xs h ⟨x, 0, none⟩ 1 1 [a, b, c, d] rfl (fun j u hu => by
  rw [addr_add, Nat.zero_add]
  simp only [World.cell?, hx]
  simpa using hu) h1 (by simp only [maxLen]; omega) (by omega) (Nat.zero_le _)
 obtain ⟨ao, cap, rfl⟩ := own_formX h2
 refine ⟨ao, cap, w', hr, h2, (Fr.refl _ _).grown h3 (fun g hg => .inl hg), fun g hg => ?_⟩
 rcases h5 with e | e
 ·rw [e] at hg; exact .inl hg
 ·rw [e] at hg; cases hg; exact .inr (Nat.le_refl _)
theorem amend_end {w w2 Wd w4 W8 : World} {b : Nat} {s : RM} {q : RW} {M : Nat → Prop} {r : RQ} {i : Nat} {c : CM} {g cap place : Nat} {F' : List F5} {fv nv : Value} (h : RsAt w b s q M) (hc : s.C[i]? = some c) (hcv : q.cv = .slice (some ⟨g, 0, none⟩) s.C.length cap) (h2 : CB w w2 w.heap.size r) (ho : OwF w2 w.heap.size fv F')
  (hWd : Wd = w2.drew.alloc (.cells #[.int .u32 (r.ac : Nat), .int .u32 (place : Nat), fv, .bool false] 110))
  (r4 : w4.ownsRow 0 110 4 nv (c.V.length + 1) (vcells (q.fv i) 0 c.V ++ [.int .u32 (r.ac : Nat), .int .u32 (place : Nat), fv, .bool false])) (f4 : Fr (fun k => (q.vv i).ownBlock = some k) Wd w4) (n4 : ∀ k, nv.ownBlock = some k → (q.vv i).ownBlock = some k ∨ Wd.heap.size ≤ k)
  (h8 : Fr (fun k => k = g ∨ k = w.heap.size + 1) w4 W8) (hch : W8.ownsRow 0 87 5 q.cv s.C.length ((ccells q 0 s.C).set (i * 5 + 4) nv)) :
  RsTo w W8 b s ⟨s.S, s.C.set i ⟨c.wa, c.ow, c.sl, c.G, c.V ++ [⟨r.ac, place, F', false⟩]⟩⟩ q M := by
 have hg : q.cv.ownBlock = some g := by rw [hcv]; rfl
 have hgl : g < w.heap.size := h.lt g (h.mc g hg)
 have hs2 : w.heap.size + 1 < w2.heap.size := lt_of_block h2.a
 have f2d : Fr (fun _ => False) w2 Wd := by rw [hWd]; exact (Fr.refl _ _).drew.alloc _
 have f0d : Fr (fun _ => False) w Wd := h2.f.trans f2d (fun _ _ h => h)
 have f04 : Fr (fun k => (q.vv i).ownBlock = some k) w w4 := (f0d.mono (fun _ _ h => h.elim)).trans f4 (fun _ _ h => h)
 have f07 : Fr (fun k => q.cv.ownBlock = some k ∨ (q.vv i).ownBlock = some k) w W8 := (f04.mono (fun _ _ h => .inr h)).trans h8 (fun k hk hx => by
  rcases hx with rfl | hx
  ·exact .inl hg
  ·omega)
 have f08 : Fr (fun k => q.cv.ownBlock = some k ∨ (q.gv i).ownBlock = some k ∨ (q.vv i).ownBlock = some k) w W8 := f07.mono (fun k _ hk => hk.imp id .inr)
 have hvl : ∀ k, (q.vv i).ownBlock = some k → k < w.heap.size := fun k hk => h.lt k (h.mv i c hc k hk)
 have hsd := f0d.size
 have hsd2 := f2d.size
 have hve : W8.ownsRow 0 110 4 nv (c.V.length + 1) (vcells (q.fv i) 0 c.V ++ [.int .u32 (r.ac : Nat), .int .u32 (place : Nat), fv, .bool false]) := ownsRow_of_block r4 (fun k hk => h8.block k (r4.lt k hk).2 (fun hx => by
  rcases hx with rfl | hx
  ·rcases n4 k hk with h1 | h1
   ·exact own_ne (h.ve i c hc) h.ch (by decide) k h1 hg
   ·omega
  ·rcases n4 k hk with h1 | h1
   ·have := hvl k h1; omega
   ·omega))
 have hgr : W8.ownsRow 0 31 1 (q.gv i) c.G.length (ncells c.G) := ownsRow_of_block (h.gr i c hc) (fun k hk => f07.block k (h.lt k (h.mg i c hc k hk)) (fun hx => by
  rcases hx with hx | hx
  ·exact own_ne (h.gr i c hc) h.ch (by decide) k hk hx
  ·exact own_ne (h.gr i c hc) (h.ve i c hc) (by decide) k hk hx))
 have hod : OwF Wd w.heap.size fv F' := OwF.fr ho f2d (fun _ _ h => h)
 have hoF : OwF W8 w.heap.size fv F' := by
  refine ownsRow_of_block hod (fun k hk => ?_)
  have h1 := (hod.lt k hk).1
  have h3 := (hod.lt k hk).2
  have e4 := f4.block k h3 (fun hx => by have := hvl k hx; omega)
  rw [← e4]
  refine h8.block k (Nat.lt_of_lt_of_le h3 f4.size) (fun hx => ?_)
  rcases hx with hx | hx
  ·omega
  ·subst hx
   exact blk_ne hod ((f2d.block _ hs2 (fun h => h)).trans h2.a) (by decide) hk
 have hSM : ∀ k, (q.cv.ownBlock = some k ∨ (q.gv i).ownBlock = some k ∨ (q.vv i).ownBlock = some k) → M k := fun k hk => by
  rcases hk with hk | hk | hk
  ·exact h.mc k hk
  ·exact h.mg i c hc k hk
  ·exact h.mv i c hc k hk
 have hnv : ∀ k, nv.ownBlock = some k → (q.vv i).ownBlock = some k ∨ w.heap.size ≤ k := fun k hk => (n4 k hk).imp id (fun h => by omega)
 have hMM : ∀ k, (M k ∨ (q.gv i).ownBlock = some k ∨ nv.ownBlock = some k) → M k ∨ w.heap.size ≤ k := fun k hk => by
  rcases hk with hk | hk | hk
  ·exact .inl hk
  ·exact .inl (h.mg i c hc k hk)
  ·rcases hnv k hk with h1 | h1
   ·exact .inl (h.mv i c hc k h1)
   ·exact .inr h1
 have ev : vcells (fun j => if j = c.V.length then fv else q.fv i j) 0 (c.V ++ [⟨r.ac, place, F', false⟩]) = vcells (q.fv i) 0 c.V ++ [.int .u32 (r.ac : Nat), .int .u32 (place : Nat), fv, .bool false] := by
  rw [vcells_app, vcells_off (q.fv i) _ c.V 0 (fun j _ hj => if_neg (by omega)), Nat.zero_add, if_pos rfl]
 have hput := h.put hc ⟨c.wa, c.ow, c.sl, c.G, c.V ++ [⟨r.ac, place, F', false⟩]⟩ (q.gv i) nv (fun j => if j = c.V.length then fv else q.fv i j) f08 (by rw [cput_v (q := q) (c' := CM.mk c.wa c.ow c.sl c.G (c.V ++ [VM.mk r.ac place F' false])) hc rfl rfl rfl]; exact hch) hgr (by rw [ev, List.length_append, List.length_singleton]; exact hve) (fun j u hu => by
  by_cases hj : j = c.V.length
  ·subst hj
   rw [List.getElem?_append_right (Nat.le_refl _), Nat.sub_self] at hu
   simp at hu
   subst hu
   rw [if_pos rfl]
   refine hoF.fdm (fun k hk hM => ?_)
   have h1 := (hoF.lt k hk).1
   rcases hM with hM | hM | hM
   ·have := h.lt k hM; omega
   ·have := h.lt k (h.mg i c hc k hM); omega
   ·exact own_ne hoF hve (by decide) k hk hM
  ·rw [if_neg hj]
   have hj2 : j < c.V.length := by
    have := (List.getElem?_eq_some_iff.1 hu).1
    simp at this
    omega
   rw [List.getElem?_append_left hj2] at hu
   exact (h.fl i c j u hc hu).more f08 hSM hMM) (fun k hk => .inl hk) hnv
 refine ⟨_, _, hput, hMM, fun k hk => (RW.uses_put hc _ _ _ _ hk).elim .inl (fun ⟨j, u, hu, o, n, m, e, h0⟩ => ?_), f08.mono (fun k _ hk => hSM k hk)⟩
 change (if j = c.V.length then fv else q.fv i j) = _ at e
 by_cases hj : j = c.V.length
 ·rw [if_pos hj] at e
  exact .inr (hoF.lt k (by rw [e]; rfl)).1
 ·rw [if_neg hj] at e
  have hj2 : j < c.V.length := by
   have := (List.getElem?_eq_some_iff.1 hu).1
   simp at this
   omega
  rw [List.getElem?_append_left hj2] at hu
  exact .inl (.inr ⟨i, c, j, u, hc, hu, o, n, m, e, h0⟩)
end Go.Proofs.YtiknjghcjaaenaaGreatDoor
