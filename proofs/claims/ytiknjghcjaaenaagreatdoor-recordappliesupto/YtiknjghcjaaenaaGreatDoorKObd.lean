import Derived.Test.YtiknjghcjaaenaaGreatDoorKOcb
namespace Go.Proofs.YtiknjghcjaaenaaGreatDoor
open Go.RowKit Go.Shelf
set_option maxRecDepth 100000 in
theorem vredact_any (g o : Nat) (x : Value) (xo : Option Addr) (xn xc : Nat) (d : Bool) (w : World) (hx : x = .slice xo xn xc) (c2 : w.cell? ⟨g, o + 2, none⟩ = some x) (c3 : w.cell? ⟨g, o + 3, none⟩ = some (.bool d)) (z2 : w.frozen? ⟨g, o + 2, none⟩ = false) (z3 : w.frozen? ⟨g, o + 3, none⟩ = false) :
  Calls Tryz.prog 82 #[.pointer (some ⟨g, o, none⟩)] w fun e w' => e = .returned (.tuple #[]) ∧ w' = (w.setCell ⟨g, o + 2, none⟩ (.slice none 0 0)).setCell ⟨g, o + 3, none⟩ (.bool true) := by
 subst hx
 go_enter Tryz.func82, Tryz.ntmps82
 go_wp2_with fail
 go_end0
 exact ⟨rfl, rfl⟩
theorem redact_end {w w2 W8 : World} {b : Nat} {s : RM} {q : RW} {M : Nat → Prop} {r : RQ} {i j : Nat} {c : CM} {v : VM} {vg vc : Nat} (h : RsAt w b s q M) (hc : s.C[i]? = some c) (hv : c.V[j]? = some v) (hvv : q.vv i = .slice (some ⟨vg, 0, none⟩) c.V.length vc) (h2 : CB w w2 w.heap.size r)
  (h8 : Fr (fun k => k = w.heap.size + 1) ((w2.setCell ⟨vg, j * 4 + 2, none⟩ (.slice none 0 0)).setCell ⟨vg, j * 4 + 3, none⟩ (.bool true)) W8) :
  RsTo w W8 b s ⟨s.S, s.C.set i ⟨c.wa, c.ow, c.sl, c.G, c.V.set j ⟨v.au, v.ev, [], true⟩⟩⟩ q M := by
 have hj : j < c.V.length := (List.getElem?_eq_some_iff.1 hv).1
 have hg : (q.vv i).ownBlock = some vg := by rw [hvv]; rfl
 have hgl : vg < w.heap.size := h.lt vg (h.mv i c hc vg hg)
 have f28 : Fr (fun k => k = vg ∨ k = w.heap.size + 1) w2 W8 := by
  have h0 := Fr.refl (fun k => k = vg ∨ k = w.heap.size + 1) w2
  have h1 := h0.setCell (p := ⟨vg, j * 4 + 2, none⟩) (.inl (.inl rfl)) (.slice none 0 0)
  have h3 := h1.setCell (p := ⟨vg, j * 4 + 3, none⟩) (.inl (.inl rfl)) (.bool true)
  exact h3.trans h8 (fun _ _ h => .inr h)
 have f08 : Fr (fun k => q.cv.ownBlock = some k ∨ (q.gv i).ownBlock = some k ∨ (q.vv i).ownBlock = some k) w W8 := (h2.f.mono (fun _ _ h => h.elim)).trans f28 (fun k hk hx => by
  rcases hx with rfl | hx
  ·exact .inr (.inr hg)
  ·omega)
 have hr2 := (h.fr h2.f).ve i c hc
 have hr3 := own_set (own_set hr2 hvv (j * 4 + 2) (.slice none 0 0)) hvv (j * 4 + 3) (.bool true)
 have hve : W8.ownsRow 0 110 4 (q.vv i) c.V.length (((vcells (q.fv i) 0 c.V).set (j * 4 + 2) (.slice none 0 0)).set (j * 4 + 3) (.bool true)) := ownsRow_of_block hr3 (fun k hk => h8.block k (hr3.lt k hk).2 (fun hx => by
  rw [hg] at hk; cases hk; omega))
 have hkeep : ∀ {e size n : Nat} {v : Value} {xs : List Value}, w.ownsRow 0 e size v n xs → e ≠ 110 → W8.ownsRow 0 e size v n xs := fun {e size n v xs} hr he => ownsRow_of_block hr (fun k hk => by
  have h1 := (hr.lt k hk).2
  rw [f28.block k (Nat.lt_of_lt_of_le h1 h2.f.size) (fun hx => by
   rcases hx with rfl | hx
   ·exact own_ne hr (h.ve i c hc) he k hk hg
   ·omega)]
  exact h2.f.block k h1 (fun h => h))
 have hSM : ∀ k, (q.cv.ownBlock = some k ∨ (q.gv i).ownBlock = some k ∨ (q.vv i).ownBlock = some k) → M k := fun k hk => by
  rcases hk with hk | hk | hk
  ·exact h.mc k hk
  ·exact h.mg i c hc k hk
  ·exact h.mv i c hc k hk
 have hMM : ∀ k, (M k ∨ (q.gv i).ownBlock = some k ∨ (q.vv i).ownBlock = some k) → M k ∨ w.heap.size ≤ k := fun k hk => by
  rcases hk with hk | hk | hk
  ·exact .inl hk
  ·exact .inl (h.mg i c hc k hk)
  ·exact .inl (h.mv i c hc k hk)
 obtain ⟨a0, a1, a2, a3⟩ := vcells_at (q.fv i) c.V 0 j v hv
 have ev : vcells (fun k => if k = j then .slice none 0 0 else q.fv i k) 0 (c.V.set j ⟨v.au, v.ev, [], true⟩) = ((vcells (q.fv i) 0 c.V).set (j * 4 + 2) (.slice none 0 0)).set (j * 4 + 3) (.bool true) := by
  have e := vcells_put (q.fv i) (.slice none 0 0) ⟨v.au, v.ev, [], true⟩ c.V 0 j hj
  rw [Nat.zero_add] at e
  rw [e, set_id a0, set_id a1]
 have hput := h.put hc ⟨c.wa, c.ow, c.sl, c.G, c.V.set j ⟨v.au, v.ev, [], true⟩⟩ (q.gv i) (q.vv i) (fun k => if k = j then .slice none 0 0 else q.fv i k) f08 (by rw [cput_0 (c' := ⟨c.wa, c.ow, c.sl, c.G, c.V.set j ⟨v.au, v.ev, [], true⟩⟩) hc rfl rfl rfl]; exact hkeep h.ch (by decide)) (hkeep (h.gr i c hc) (by decide)) (by rw [ev, List.length_set]; exact hve) (fun k u hu => by
  by_cases hkj : k = j
  ·subst hkj
   rw [List.getElem?_set_self hj] at hu
   cases hu
   rw [if_pos rfl]
   exact ⟨fds_nil _, fun g o n c e h0 => (by cases e), fun xo n c e => (by cases e; exact Nat.le_refl _), fun n c e => (by cases e; rfl)⟩
  ·rw [List.getElem?_set_ne (fun e => hkj e.symm)] at hu
   rw [if_neg hkj]
   exact (h.fl i c k u hc hu).more f08 hSM hMM) (fun k hk => .inl hk) (fun k hk => .inl hk)
 refine ⟨_, _, hput, hMM, fun k hk => (RW.uses_put hc _ _ _ _ hk).elim .inl (fun ⟨jj, u, hu, o, n, m, e, h0⟩ => ?_), f08.mono (fun k _ hk => hSM k hk)⟩
 by_cases hj : jj = j
 ·subst hj
  change (if jj = jj then Value.slice none 0 0 else q.fv i jj) = _ at e
  rw [if_pos rfl] at e
  cases e
 ·change (if jj = j then Value.slice none 0 0 else q.fv i jj) = _ at e
  rw [if_neg hj] at e
  rw [List.getElem?_set_ne (fun e => hj e.symm)] at hu
  exact .inl (.inr ⟨i, c, jj, u, hc, hu, o, n, m, e, h0⟩)
end Go.Proofs.YtiknjghcjaaenaaGreatDoor
