import Derived.Test.YtiknjghcjaaenaaGreatDoorKOaz
namespace Go.Proofs.YtiknjghcjaaenaaGreatDoor
open Go.RowKit Go.Shelf
theorem own_us {w : World} {base : Nat} {v : Value} {l : List Nat} (h : w.ownsRow base 31 1 v l.length (ncells l)) : Us w v l := by
 rcases Nat.eq_zero_or_pos l.length with h0 | h0
 ·obtain rfl := List.length_eq_zero_iff.1 h0
  obtain ⟨ao, cap, rfl⟩ := own_formX h
  exact .inl ⟨ao, cap, rfl, rfl⟩
 ·obtain ⟨g, cap, rfl, _, _⟩ := h.form h0
  refine .inr ⟨g, 0, cap, rfl, fun j hj => ?_⟩
  rw [Nat.zero_add, h.cellAt j (by omega)]
  simp [ncells, hj]
def qm (p : P3) (c : CM) (rs : ByteArray) : QM := ⟨.slice none 0 0, p, c.wa, c.ow, c.sl, .slice none 0 0, .slice none 0 0, rs⟩
def rdCode (S : List P3) (ac : Nat) (c : CM) : Nat := ansv S ac fun p => if rdF (qm p c ByteArray.empty) c.G then 0 else whyRd (qm p c ByteArray.empty)
def hiCode (S : List P3) (ac : Nat) (c : CM) : Nat := ansv S ac fun p => if hiF (qm p c ByteArray.empty) c.G then 0 else whyRd (qm p c ByteArray.empty)
def reCode (S : List P3) (ac : Nat) (c : CM) : Nat := ansv S ac fun p => if reF (qm p c ByteArray.empty) then 0 else 5
def seCode (S : List P3) (ac : Nat) (c : CM) : Nat := ansv S ac fun p => if seF (qm p c ByteArray.empty) then 0 else 5
def amCode (S : List P3) (ac : Nat) (c : CM) (F : List F5) : Nat := ansv S ac fun p => if amF (qm p c ByteArray.empty) c.G F then 0 else whyAm (qm p c ByteArray.empty) c.G
def brCode (S : List P3) (ac : Nat) (c : CM) (rs : ByteArray) : Nat := ansv S ac fun p => if brF (qm p c rs) then 0 else 5
theorem cput {q : RW} {C : List CM} {i : Nat} {c c' : CM} (hc : C[i]? = some c) (hw : c'.wa = c.wa) (ho : c'.ow = c.ow) (g v : Value) (f : Nat → Value) : ccells (q.put i g v f) 0 (C.set i c') = (((ccells q 0 C).set (i * 5 + 2) (.bool c'.sl)).set (i * 5 + 3) g).set (i * 5 + 4) v := by
 have hi : i < C.length := (List.getElem?_eq_some_iff.1 hc).1
 obtain ⟨h0, h1, h2, h3, h4⟩ := ccells_at q C 0 i c hc
 have e := ccells_put q g v f c' C 0 i hi
 rw [Nat.zero_add] at e
 rw [e, hw, ho, set_id h0, set_id h1]
theorem cput_sg {q : RW} {C : List CM} {i : Nat} {c c' : CM} (hc : C[i]? = some c) (hw : c'.wa = c.wa) (ho : c'.ow = c.ow) (g : Value) (f : Nat → Value) : ccells (q.put i g (q.vv i) f) 0 (C.set i c') = ((ccells q 0 C).set (i * 5 + 2) (.bool c'.sl)).set (i * 5 + 3) g := by
 obtain ⟨h0, h1, h2, h3, h4⟩ := ccells_at q C 0 i c hc
 rw [Nat.zero_add] at h4
 rw [cput hc hw ho]
 refine set_id ?_
 rw [List.getElem?_set_ne (by omega), List.getElem?_set_ne (by omega)]
 exact h4
theorem cput_g {q : RW} {C : List CM} {i : Nat} {c c' : CM} (hc : C[i]? = some c) (hw : c'.wa = c.wa) (ho : c'.ow = c.ow) (hs : c'.sl = c.sl) (g : Value) (f : Nat → Value) : ccells (q.put i g (q.vv i) f) 0 (C.set i c') = (ccells q 0 C).set (i * 5 + 3) g := by
 obtain ⟨h0, h1, h2, h3, h4⟩ := ccells_at q C 0 i c hc
 rw [cput_sg hc hw ho, hs, set_id h2]
theorem cput_v {q : RW} {C : List CM} {i : Nat} {c c' : CM} (hc : C[i]? = some c) (hw : c'.wa = c.wa) (ho : c'.ow = c.ow) (hs : c'.sl = c.sl) (v : Value) (f : Nat → Value) : ccells (q.put i (q.gv i) v f) 0 (C.set i c') = (ccells q 0 C).set (i * 5 + 4) v := by
 obtain ⟨h0, h1, h2, h3, h4⟩ := ccells_at q C 0 i c hc
 rw [Nat.zero_add] at h3
 rw [cput hc hw ho, hs, set_id h2, set_id h3]
theorem cput_0 {q : RW} {C : List CM} {i : Nat} {c c' : CM} (hc : C[i]? = some c) (hw : c'.wa = c.wa) (ho : c'.ow = c.ow) (hs : c'.sl = c.sl) (f : Nat → Value) : ccells (q.put i (q.gv i) (q.vv i) f) 0 (C.set i c') = ccells q 0 C := by
 obtain ⟨h0, h1, h2, h3, h4⟩ := ccells_at q C 0 i c hc
 rw [Nat.zero_add] at h4
 rw [cput_v hc hw ho hs, set_id h4]
theorem own_set {w : World} {base e size n g cap : Nat} {xs : List Value} {v : Value} (h : w.ownsRow base e size v n xs) (hv : v = .slice (some ⟨g, 0, none⟩) n cap) (j : Nat) (u : Value) : (w.setCell ⟨g, j, none⟩ u).ownsRow base e size v n (xs.set j u) := by
 subst hv
 exact (h.stored j u).1
theorem seal_end {w w2 W8 : World} {b : Nat} {s : RM} {q : RW} {M : Nat → Prop} {r : RQ} {i : Nat} {c : CM} {g cap : Nat} {sl : Bool} (h : RsAt w b s q M) (hc : s.C[i]? = some c) (hcv : q.cv = .slice (some ⟨g, 0, none⟩) s.C.length cap) (h2 : CB w w2 w.heap.size r)
  (h8 : Fr (fun k => k = w.heap.size + 1) ((w2.setCell ⟨g, i * 5 + 2, none⟩ (.bool sl)).setCell ⟨g, i * 5 + 3, none⟩ (.slice none 0 0)) W8) :
  RsTo w W8 b s ⟨s.S, s.C.set i ⟨c.wa, c.ow, sl, [], c.V⟩⟩ q M := by
 have hg : q.cv.ownBlock = some g := by rw [hcv]; rfl
 have hgl : g < w.heap.size := h.lt g (h.mc g hg)
 have f28 : Fr (fun k => k = g ∨ k = w.heap.size + 1) w2 W8 := by
  have h0 := Fr.refl (fun k => k = g ∨ k = w.heap.size + 1) w2
  have h1 := h0.setCell (p := ⟨g, i * 5 + 2, none⟩) (.inl (.inl rfl)) (.bool sl)
  have h3 := h1.setCell (p := ⟨g, i * 5 + 3, none⟩) (.inl (.inl rfl)) (.slice none 0 0)
  exact h3.trans h8 (fun _ _ h => .inr h)
 have f08 : Fr (fun k => q.cv.ownBlock = some k ∨ (q.gv i).ownBlock = some k ∨ (q.vv i).ownBlock = some k) w W8 := (h2.f.mono (fun _ _ h => h.elim)).trans f28 (fun k hk hx => by
  rcases hx with rfl | hx
  ·exact .inl hg
  ·omega)
 have hr2 := (h.fr h2.f).ch
 have hr3 := own_set (own_set hr2 hcv (i * 5 + 2) (.bool sl)) hcv (i * 5 + 3) (.slice none 0 0)
 have hch : W8.ownsRow 0 87 5 q.cv s.C.length (((ccells q 0 s.C).set (i * 5 + 2) (.bool sl)).set (i * 5 + 3) (.slice none 0 0)) := ownsRow_of_block hr3 (fun k hk => h8.block k (hr3.lt k hk).2 (fun hx => by
  rw [hg] at hk; cases hk; omega))
 have hve : W8.ownsRow 0 110 4 (q.vv i) c.V.length (vcells (q.fv i) 0 c.V) := ownsRow_of_block ((h.fr h2.f).ve i c hc) (fun k hk => f28.block k ((h.fr h2.f).lt k (h.mv i c hc k hk)) (fun hx => by
  rcases hx with rfl | hx
  ·exact own_ne (h.ve i c hc) h.ch (by decide) k hk hg
  ·have := h.lt k (h.mv i c hc k hk); omega))
 have hSM : ∀ k, (q.cv.ownBlock = some k ∨ (q.gv i).ownBlock = some k ∨ (q.vv i).ownBlock = some k) → M k := fun k hk => by
  rcases hk with hk | hk | hk
  ·exact h.mc k hk
  ·exact h.mg i c hc k hk
  ·exact h.mv i c hc k hk
 have hMM : ∀ k, (M k ∨ (Value.slice none 0 0).ownBlock = some k ∨ (q.vv i).ownBlock = some k) → M k ∨ w.heap.size ≤ k := fun k hk => by
  rcases hk with hk | hk | hk
  ·exact .inl hk
  ·cases hk
  ·exact .inl (h.mv i c hc k hk)
 have hput := h.put hc ⟨c.wa, c.ow, sl, [], c.V⟩ (.slice none 0 0) (q.vv i) (q.fv i) f08 (by rw [cput_sg (c' := ⟨c.wa, c.ow, sl, [], c.V⟩) hc rfl rfl]; exact hch) (World.ownsRow_nil _ _ _ _) hve (fun j v hv => (h.fl i c j v hc hv).more f08 hSM hMM) (fun k hk => by cases hk) (fun k hk => .inl hk)
 exact ⟨_, _, hput, hMM, fun k hk => (RW.uses_put hc _ _ _ _ hk).elim .inl (fun ⟨j, u, hu, ho⟩ => .inl (.inr ⟨i, c, j, u, hc, hu, ho⟩)), f08.mono (fun k _ hk => hSM k hk)⟩
end Go.Proofs.YtiknjghcjaaenaaGreatDoor
