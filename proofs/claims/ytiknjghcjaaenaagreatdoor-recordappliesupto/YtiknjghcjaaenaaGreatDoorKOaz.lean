import Derived.Test.YtiknjghcjaaenaaGreatDoorKOba
namespace Go.Proofs.YtiknjghcjaaenaaGreatDoor
open Go.RowKit Go.Shelf
theorem blk4 {w : World} {g e : Nat} {a b c d : Value} (h : w.heap[g]? = some (.cells #[a, b, c, d] e)) : (w.cell? ⟨g, 0, none⟩ = some a ∧ w.cell? ⟨g, 1, none⟩ = some b ∧ w.cell? ⟨g, 2, none⟩ = some c ∧ w.cell? ⟨g, 3, none⟩ = some d) ∧ (w.frozen? ⟨g, 0, none⟩ = false ∧ w.frozen? ⟨g, 1, none⟩ = false ∧ w.frozen? ⟨g, 2, none⟩ = false ∧ w.frozen? ⟨g, 3, none⟩ = false) := by
  refine ⟨⟨?_, ?_, ?_, ?_⟩, ?_, ?_, ?_, ?_⟩ <;> first | (simp only [World.cell?, h]; rfl) | (simp [World.frozen?, h])
theorem CB.put {w W : World} {B g i : Nat} {r : RQ} {v : Value} (h : CB w W B r) (hg : B + 1 < g) : CB w (W.setCell ⟨g, i, none⟩ v) B r :=
  ⟨(heap_setCell_other W ⟨g, i, none⟩ B v (by show B ≠ g; omega)).trans h.r, (heap_setCell_other W ⟨g, i, none⟩ (B + 1) v (by show B + 1 ≠ g; omega)).trans h.a, h.f.setCell (.inr (by have := h.n; show _ ≤ g; omega)) _, h.n⟩
theorem OwF.fdm {w : World} {base : Nat} {v : Value} {l : List F5} {M : Nat → Prop} (h : OwF w base v l) (hM : ∀ g, v.ownBlock = some g → ¬ M g) : FdM w M v l := by
  refine ⟨h.fds, fun g o n c e _ => hM g (by rw [e]; rfl), fun xo n c e => ?_, fun n c e => ?_⟩
  · rcases h.2 with ⟨h1, _⟩ | ⟨g, cap, cur, h1, _, _, h2, _⟩
    · rw [h1] at e; cases e; exact Nat.le_refl _
    · rw [h1] at e; cases e; exact h2
  · rcases h.2 with ⟨h1, _⟩ | ⟨g, cap, cur, h1, _, _, h2, _⟩
    · rw [h1] at e; cases e; rfl
    · rw [h1] at e; cases e
theorem set4_fr (w : World) (g : Nat) (a b c d : Value) : Fr (fun k => k = g) w ((((w.setCell ⟨g, 0, none⟩ a).setCell ⟨g, 1, none⟩ b).setCell ⟨g, 2, none⟩ c).setCell ⟨g, 3, none⟩ d) := by
  have h0 := Fr.refl (fun k => k = g) w
  have h1 := h0.setCell (p := ⟨g, 0, none⟩) (.inl rfl) a
  have h2 := h1.setCell (p := ⟨g, 1, none⟩) (.inl rfl) b
  have h3 := h2.setCell (p := ⟨g, 2, none⟩) (.inl rfl) c
  exact h3.setCell (p := ⟨g, 3, none⟩) (.inl rfl) d
theorem ansc {W : World} {g : Nat} (hb : W.heap[g]? = some (.cells (AN.no 0).cs.toArray 45)) : W.cell? ⟨g, 0, none⟩ = some (.int .u32 0) ∧ W.cell? ⟨g, 1, none⟩ = some (.int .u32 0) ∧ W.cell? ⟨g, 2, none⟩ = some (.int .u8 0) ∧ W.cell? ⟨g, 3, none⟩ = some (.int .u32 0) ∧ W.cell? ⟨g, 4, none⟩ = some (.int .u32 0) ∧ W.cell? ⟨g, 5, none⟩ = some (.slice none 0 0) ∧ W.cell? ⟨g, 6, none⟩ = some (.slice none 0 0) ∧ (W.frozen? ⟨g, 0, none⟩ = false ∧ W.frozen? ⟨g, 1, none⟩ = false ∧ W.frozen? ⟨g, 2, none⟩ = false ∧ W.frozen? ⟨g, 3, none⟩ = false ∧ W.frozen? ⟨g, 4, none⟩ = false ∧ W.frozen? ⟨g, 5, none⟩ = false ∧ W.frozen? ⟨g, 6, none⟩ = false) := by
  refine ⟨?_, ?_, ?_, ?_, ?_, ?_, ?_, ?_, ?_, ?_, ?_, ?_, ?_, ?_⟩ <;> first | (simp only [World.cell?, hb]; rfl) | (simp [World.frozen?, hb])
theorem set7_fr (w : World) (g : Nat) (a0 a1 a2 a3 a4 a5 a6 : Value) : Fr (fun k => k = g) w (((((((w.setCell ⟨g, 0, none⟩ a0).setCell ⟨g, 1, none⟩ a1).setCell ⟨g, 2, none⟩ a2).setCell ⟨g, 3, none⟩ a3).setCell ⟨g, 4, none⟩ a4).setCell ⟨g, 5, none⟩ a5).setCell ⟨g, 6, none⟩ a6) := by
  have h4 := set4_fr w g a0 a1 a2 a3
  have h5 := h4.setCell (p := ⟨g, 4, none⟩) (.inl rfl) a4
  have h6 := h5.setCell (p := ⟨g, 5, none⟩) (.inl rfl) a5
  exact h6.setCell (p := ⟨g, 6, none⟩) (.inl rfl) a6
theorem create_end {w W6 Wb w4 W8 : World} {b : Nat} {s : RM} {q : RW} {M : Nat → Prop} {r : RQ} {F : List F5} {place : Nat} {fv nv : Value} (h : RsAt w b s q M) (h6 : CB w W6 w.heap.size r) (ho : OwF W6 w.heap.size fv F)
    (hWb : Wb = (W6.drew.alloc (.cells #[.int .u32 (r.ac : Nat), .int .u32 (place : Nat), fv, .bool false] 110)).alloc (.cells #[.int .u32 (r.wa : Nat), .int .u32 (r.ow : Nat), .bool false, .slice none 0 0, .slice (some ⟨W6.heap.size, 0, none⟩) 1 1] 87))
    (h4o : w4.ownsRow 0 87 5 nv (s.C.length + 1) (ccells q 0 s.C ++ [.int .u32 (r.wa : Nat), .int .u32 (r.ow : Nat), .bool false, .slice none 0 0, .slice (some ⟨W6.heap.size, 0, none⟩) 1 1])) (h4f : Fr (fun g => q.cv.ownBlock = some g) Wb w4) (h4b : ∀ g, nv.ownBlock = some g → q.cv.ownBlock = some g ∨ Wb.heap.size ≤ g)
    (h8 : Fr (fun k => k = b ∨ k = w.heap.size + 1) w4 W8) (hb8 : W8.heap[b]? = some (.cells #[q.sv, nv] 66)) :
    RsTo w W8 b s ⟨s.S, s.C ++ [⟨r.wa, r.ow, false, [], [⟨r.ac, place, F, false⟩]⟩]⟩ q M := by
  have f6b : Fr (fun _ => False) W6 Wb := by rw [hWb]; exact ((Fr.refl _ _).drew.alloc _).alloc _
  have f0b : Fr (fun _ => False) w Wb := h6.f.trans f6b (fun _ _ h => h)
  have hbl := h.lt b h.mb
  have hcl : ∀ g, q.cv.ownBlock = some g → g < w.heap.size := fun g hg => h.lt g (h.mc g hg)
  have f04 : Fr (fun g => q.cv.ownBlock = some g) w w4 := (f0b.mono (fun _ _ h => h.elim)).trans h4f (fun _ _ h => h)
  have f08 : Fr (fun k => q.cv.ownBlock = some k ∨ k = b) w W8 := (f04.mono (fun _ _ h => .inl h)).trans h8 (fun i hi h => by
    rcases h with h | h
    · exact .inr h
    · omega)
  have b4 : w4.heap[b]? = some (.cells #[q.sv, q.cv] 66) := (f04.block b hbl (blk_ne h.ch h.blk (by decide))).trans h.blk
  have a6 : w.heap.size + 1 < W6.heap.size := lt_of_block h6.a
  have ab := (f6b.block _ a6 (fun h => h)).trans h6.a
  have hsz := f6b.size
  have a4 := (h4f.block (w.heap.size + 1) (by omega) (fun hk => by have := hcl _ hk; omega)).trans ab
  have keep : ∀ {base e size n : Nat} {v : Value} {xs : List Value}, Wb.ownsRow base e size v n xs → w.heap.size ≤ base → e ≠ 45 → W8.ownsRow base e size v n xs := fun {base e size n v xs} hr hbs he => by
    refine ownsRow_of_block hr (fun g hg => ?_)
    have h1 := (hr.lt g hg).1
    have h2 := (hr.lt g hg).2
    have e4 := h4f.block g h2 (fun hk => by have := hcl _ hk; omega)
    rw [← e4]
    refine h8.block g (Nat.lt_of_lt_of_le h2 h4f.size) (fun hk => ?_)
    rcases hk with hk | hk
    · omega
    · subst hk
      exact blk_ne hr ab he hg
  have hve0 : Wb.ownsRow w.heap.size 110 4 (.slice (some ⟨W6.heap.size, 0, none⟩) 1 1) 1 [.int .u32 (r.ac : Nat), .int .u32 (place : Nat), fv, .bool false] := by
    rw [hWb]
    exact (World.ownsRow_lit (W6.drew) #[.int .u32 (r.ac : Nat), .int .u32 (place : Nat), fv, .bool false] 1 h6.f.size (by simp [maxLen]) rfl).alloc _
  have hve := keep hve0 (Nat.le_refl _) (by decide)
  have hoB : OwF Wb w.heap.size fv F := OwF.fr ho f6b (fun _ _ h => h)
  have hoF : OwF W8 w.heap.size fv F := keep hoB (Nat.le_refl _) (by decide)
  have hch : W8.ownsRow 0 87 5 nv (s.C.length + 1) (ccells q 0 s.C ++ [.int .u32 (r.wa : Nat), .int .u32 (r.ow : Nat), .bool false, .slice none 0 0, .slice (some ⟨W6.heap.size, 0, none⟩) 1 1]) := ownsRow_of_block h4o (fun g hg => h8.block g (h4o.lt g hg).2 (fun hk => by
    rcases hk with hk | hk
    · subst hk; exact blk_ne h4o b4 (by decide) hg
    · subst hk; exact blk_ne h4o a4 (by decide) hg))
  have hnv : ∀ k, nv.ownBlock = some k → q.cv.ownBlock = some k ∨ w.heap.size ≤ k := fun k hk => (h4b k hk).imp id (fun h1 => Nat.le_trans f0b.size h1)
  have hvv : ∀ k, (Value.slice (some ⟨W6.heap.size, 0, none⟩) 1 1).ownBlock = some k → w.heap.size ≤ k := fun k hk => by cases hk; exact h6.f.size
  have hadd := h.add (w' := W8) ⟨r.wa, r.ow, false, [], [⟨r.ac, place, F, false⟩]⟩ nv (.slice (some ⟨W6.heap.size, 0, none⟩) 1 1) (fun _ => fv) rfl f08 hb8
    (by
      rw [ccells_app, Nat.zero_add, ccells_off q s.C.length _ _ _ s.C 0 (.inr (by omega)), List.length_append, List.length_singleton]
      simp only [RW.put, if_true]
      exact hch)
    (ownsRow_base hve (Nat.zero_le _)) (fun j v hv => by
      rcases j with _ | j
      · simp at hv
        subst hv
        refine hoF.fdm (fun g hg hM => ?_)
        have h1 := (hoF.lt g hg).1
        rcases hM with hM | hM | hM
        · have := h.lt g hM; omega
        · exact own_ne hoF hch (by decide) g hg hM
        · exact own_ne hoF hve (by decide) g hg hM
      · simp at hv) hnv hvv
  refine ⟨_, _, hadd, fun k hk => ?_, fun k hk => (RW.uses_add _ _ _ _ hk).imp id (fun ⟨_, _, _, _, _, _, e, _⟩ => (hoF.lt k (by rw [show fv = _ from e]; rfl)).1), f08.mono (fun k _ hk => ?_)⟩
  · rcases hk with hk | hk | hk
    · exact .inl hk
    · rcases hnv k hk with h1 | h1
      · exact .inl (h.mc k h1)
      · exact .inr h1
    · exact .inr (hvv k hk)
  · rcases hk with hk | rfl
    · exact h.mc k hk
    · exact h.mb
set_option maxHeartbeats 4000000 in
set_option maxRecDepth 100000 in
theorem create_ok (b : Nat) (s : RM) (q : RW) (M : Nat → Prop) (r : RQ) (F : List F5) (place : Nat) (w : World) (h : RsAt w b s q M) (hF : Fds w r.fv F) (hl : F.length ≤ 1000) (hs : ∀ f ∈ F, FOk f) (hS : s.S.length ≤ 140737488355328) (hc : crCode s.S r.ac r.wa r.ow = 0) (hn : s.C.length < 256) :
    Calls Tryz.prog 57 #[.pointer (some ⟨b, 0, none⟩), r.v, .int .u32 (place : Nat)] w fun e w' => e = .returned (AN.v ⟨0, 0, 0, s.C.length + 1, 1, .slice none 0 0, .slice none 0 0⟩) ∧ RsTo w w' b s ⟨s.S, s.C ++ [⟨r.wa, r.ow, false, [], [⟨r.ac, place, F, false⟩]⟩]⟩ q M := by
  obtain ⟨W1, hW1⟩ : ∃ W1, W1 = (w.alloc (.cells r.cs 41)).alloc (.cells #[.int .u32 0, .int .u32 0, .int .u8 0, .int .u32 0, .int .u32 0, .slice none 0 0, .slice none 0 0] 45) := ⟨_, rfl⟩
  have hCB : CB w W1 w.heap.size r := by rw [hW1]; exact CB.new w r
  have HP : Hid (∀ W, Fr (fun _ => False) w W → Calls Tryz.prog 70 #[q.sv, .int .u32 (r.ac : Nat), .int .u32 (r.wa : Nat), .int .u32 (r.ow : Nat)] W fun e w' => e = .returned (.int .u8 ((crCode s.S r.ac r.wa r.ow : Nat) : Int)) ∧ Fr (fun _ => False) W w') := fun W hW => pcreate_any q.sv s.S r.ac r.wa r.ow W ((h.fr hW).st) hS
  rw [hc] at HP
  have HO : Hid (∀ W, Fr (fun _ => False) w W → Calls Tryz.prog 71 #[r.fv] W fun e w' => ∃ v, e = .returned v ∧ OwF w' W.heap.size v F ∧ Fr (fun _ => False) W w') := fun W hW => ownCopies_any r.fv F W (hF.fr hW) hl hs
  obtain ⟨xo, xc, hfv⟩ := hF.form
  obtain ⟨so, sc, hse⟩ := h.st.form
  have HSt : Hid (∀ W, Fr (fun _ => False) w W → W.cell? ⟨b, 0, none⟩ = some (.slice so s.S.length sc)) := fun W hW => by rw [← hse]; exact (h.fr hW).cells.1
  obtain ⟨co, cc, hce⟩ := own_formX h.ch
  have HCh : Hid (∀ W, Fr (fun _ => False) w W → W.cell? ⟨b, 1, none⟩ = some (.slice co s.C.length cc) ∧ W.frozen? ⟨b, 1, none⟩ = false) := fun W hW => by rw [← hce]; exact ⟨(h.fr hW).cells.2.1, (h.fr hW).cells.2.2 1⟩
  rw [hse] at HP
  have HC := hide hCB
  have HS : Hid (∀ W, CB w W w.heap.size r → W.cell? ⟨b, 0, none⟩ = some (.slice so s.S.length sc) ∧ W.cell? ⟨w.heap.size, 2, none⟩ = some (.int .u32 (r.ac : Nat)) ∧ W.cell? ⟨w.heap.size, 6, none⟩ = some (.int .u32 (r.wa : Nat)) ∧ W.cell? ⟨w.heap.size, 7, none⟩ = some (.int .u32 (r.ow : Nat))) := fun W hW => ⟨(unhide HSt) W hW.f, hW.cells.2.2.1, hW.cells.2.2.2.2.2.2.1, hW.cells.2.2.2.2.2.2.2.1⟩
  have HS6 : Hid (∀ W, CB w W w.heap.size r → W.cell? ⟨w.heap.size, 2, none⟩ = some (.int .u32 (r.ac : Nat)) ∧ W.cell? ⟨w.heap.size, 8, none⟩ = some (.slice xo F.length xc)) := fun W hW => ⟨hW.cells.2.2.1, by rw [← hfv]; exact hW.cells.2.2.2.2.2.2.2.2.1⟩
  have HH := hide h
  simp only [RQ.v, RQ.cs] at *
  rw [hfv] at hW1 HO ⊢
  have hn' : ¬ ((s.C.length : Nat) : Int) ≥ 256 := by omega
  clear hCB h hse hF
  go_enter Tryz.func57, Tryz.ntmps57
  go_wp2_with fail
  rw [← hW1]
  clear hW1
  go_region_held3 (fun W => W.cell? ⟨b, 0, none⟩ = some (.slice so s.S.length sc) ∧ W.cell? ⟨w.heap.size, 2, none⟩ = some (.int .u32 (r.ac : Nat)) ∧ W.cell? ⟨w.heap.size, 6, none⟩ = some (.int .u32 (r.wa : Nat)) ∧ W.cell? ⟨w.heap.size, 7, none⟩ = some (.int .u32 (r.ow : Nat)))
    (first | exact (unhide HS) _ ((unhide HC).step (Fr.refl _ _).drew) | exact (unhide HS) _ (unhide H2))
    (first | (go_at_call 70; refine ((unhide HP) _ ((unhide HC).step (Fr.refl _ _).drew).f).mono ?_; rintro e w2 ⟨rfl, hf2⟩; have H2 := hide (((unhide HC).step (Fr.refl _ _).drew).step hf2); clear hf2))
  all_goals
    have c1 := ((unhide HCh) _ (unhide H2).f).1
    clear HP HS HSt HC
    go_wp2_with fail
    clear c1
    have HW2 : Hid (w.heap.size + 1 < w2.heap.size) := lt_of_block (unhide H2).a
    go_region_held3 (fun W => W.cell? ⟨w.heap.size, 2, none⟩ = some (.int .u32 (r.ac : Nat)) ∧ W.cell? ⟨w.heap.size, 8, none⟩ = some (.slice xo F.length xc))
      (first | exact (unhide HS6) _ ((unhide H2).step (Fr.refl _ _).drew) | exact (unhide HS6) _ ((unhide H2).step ((Fr.refl _ _).drew.alloc _)) | exact (unhide HS6) _ (unhide H3).1 | exact (unhide HS6) _ ((unhide H3).1.step ((Fr.refl _ _).alloc _)) | exact (unhide HS6) _ (((((unhide H3).1.put (unhide HW2)).put (unhide HW2)).put (unhide HW2)).put (unhide HW2)) | exact (unhide HS6) _ ((((((unhide H3).1.step ((Fr.refl _ _).alloc _)).put (unhide HW3)).put (unhide HW3)).put (unhide HW3)).put (unhide HW3)))
      (first | (go_at_call 71; refine ((unhide HO) _ ((unhide H2).step (Fr.refl _ _).drew).f).mono ?_; rintro e w3 ⟨v, rfl, ho3, hf3⟩; have H3 := hide (And.intro (((unhide H2).step (Fr.refl _ _).drew).step hf3) ho3); obtain ⟨ao, cap, rfl⟩ := own_formX ho3; have HW3 : Hid (w.heap.size + 1 < w3.heap.size) := lt_of_block (unhide H3).1.a; clear hf3 ho3) | (go_at_call 71; refine ((unhide HO) _ ((unhide H2).step ((Fr.refl _ _).drew.alloc _)).f).mono ?_; rintro e w3 ⟨v, rfl, ho3, hf3⟩; have H3 := hide (And.intro (((unhide H2).step ((Fr.refl _ _).drew.alloc _)).step hf3) ho3); obtain ⟨ao, cap, rfl⟩ := own_formX ho3; have hb3 : w3.heap[w2.heap.size]? = some (.cells #[.int .u32 0, .int .u32 0, .slice none 0 0, .bool false] 110) := (hf3.block _ (by simp) (fun h => h)).trans (Array.getElem?_push_size (xs := (w2.drew).heap)); obtain ⟨⟨y0, y1, y2, y3⟩, u0, u1, u2, u3⟩ := blk4 hb3; have H3b := hide hb3; clear hf3 ho3 hb3))
  all_goals
    first
    | (generalize hvb : w3.heap.size = vb
       generalize hW6 : w3.alloc (.cells #[.int .u32 (r.ac : Nat), .int .u32 (place : Nat), .slice ao F.length cap, .bool false] 110) = W6
       have H6 : Hid (CB w W6 w.heap.size r ∧ OwF W6 w.heap.size (.slice ao F.length cap) F ∧ W6.heap[vb]? = some (.cells #[.int .u32 (r.ac : Nat), .int .u32 (place : Nat), .slice ao F.length cap, .bool false] 110) ∧ w.heap.size + 1 < vb) := by
         subst hvb hW6
         exact ⟨(unhide H3).1.step ((Fr.refl _ _).alloc _), OwF.fr (ownsRow_base (unhide H3).2 (unhide H2).f.size) ((Fr.refl (fun _ => False) _).alloc _) (fun _ _ h => h), Array.getElem?_push_size, unhide HW3⟩
       clear hvb hW6 H3 HW3 HW2 H2 HO HS6)
    | (generalize hvb : w2.heap.size = vb
       generalize hW6 : (((w3.setCell ⟨vb, 0, none⟩ (.int .u32 (r.ac : Nat))).setCell ⟨vb, 1, none⟩ (.int .u32 (place : Nat))).setCell ⟨vb, 2, none⟩ (.slice ao F.length cap)).setCell ⟨vb, 3, none⟩ (.bool false) = W6
       have H6 : Hid (CB w W6 w.heap.size r ∧ OwF W6 w.heap.size (.slice ao F.length cap) F ∧ W6.heap[vb]? = some (.cells #[.int .u32 (r.ac : Nat), .int .u32 (place : Nat), .slice ao F.length cap, .bool false] 110) ∧ w.heap.size + 1 < vb) := by
         subst hvb hW6
         refine ⟨((((unhide H3).1.put (unhide HW2)).put (unhide HW2)).put (unhide HW2)).put (unhide HW2), ?_, ?_, unhide HW2⟩
         · have h0 := ownsRow_base (unhide H3).2 (Nat.le_trans (unhide H2).f.size (by simp))
           refine OwF.fr h0 (set4_fr w3 w2.heap.size _ _ _ _) (fun g hg hk => ?_)
           subst hk
           exact blk_ne (unhide H3).2 (unhide H3b) (by decide) hg
         · exact heap_setCell_same _ _ _ _ _ _ (heap_setCell_same _ _ _ _ _ _ (heap_setCell_same _ _ _ _ _ _ (heap_setCell_same _ _ _ _ _ _ (unhide H3b))))
       clear hvb hW6 H3 H3b HW2 H2 HO HS6 y0 y1 y2 y3 u0 u1 u2 u3)
  all_goals
    have hbl : b < w.heap.size := (unhide HH).lt b (unhide HH).mb
    have hsz6 : w.heap.size + 1 < W6.heap.size := lt_of_block (unhide H6).1.a
    obtain ⟨Wb, hWb⟩ : ∃ Wb, Wb = (W6.drew.alloc (.cells #[.int .u32 (r.ac : Nat), .int .u32 (place : Nat), .slice ao F.length cap, .bool false] 110)).alloc (.cells #[.int .u32 (r.wa : Nat), .int .u32 (r.ow : Nat), .bool false, .slice none 0 0, .slice (some ⟨W6.heap.size, 0, none⟩) 1 1] 87) := ⟨_, rfl⟩
    have f6b : Fr (fun _ => False) W6 Wb := by rw [hWb]; exact ((Fr.refl _ _).drew.alloc _).alloc _
    have hrow : Wb.ownsRow 0 87 5 (.slice co s.C.length cc) s.C.length (ccells q 0 s.C) := by rw [← hce]; exact ((unhide HH).fr ((unhide H6).1.f.trans f6b (fun _ _ h => h))).ch
    obtain ⟨ao2, cap2, w4, hr4, ho4, hf4, hbk4⟩ := app_chart Wb (W6.heap.size + 1) (.slice co s.C.length cc) s.C.length (ccells q 0 s.C) (.int .u32 (r.wa : Nat)) (.int .u32 (r.ow : Nat)) (.bool false) (.slice none 0 0) (.slice (some ⟨W6.heap.size, 0, none⟩) 1 1) hrow (by omega) (by
      rw [hWb, show W6.heap.size + 1 = (W6.drew.alloc (.cells #[.int .u32 (r.ac : Nat), .int .u32 (place : Nat), .slice ao F.length cap, .bool false] 110)).heap.size by simp]
      exact Array.getElem?_push_size) (fun u hu => by simp at hu; rcases hu with rfl | rfl | rfl | rfl | rfl <;> rfl)
    have hcl : ∀ g, q.cv.ownBlock = some g → g < w.heap.size := fun g hg => (unhide HH).lt g ((unhide HH).mc g hg)
    rw [← hce] at hf4 hbk4
    have HF4 : Hid (Fr (fun k => k < w.heap.size) W6 w4) := (f6b.mono (fun _ _ h => h.elim)).trans hf4 (fun k _ hk => hcl k hk)
    have HFIN : Hid (∀ W8, Fr (fun k => k = b ∨ k = w.heap.size + 1) w4 W8 → W8.heap[b]? = some (.cells #[q.sv, .slice ao2 (s.C.length + 1) cap2] 66) → RsTo w W8 b s ⟨s.S, s.C ++ [⟨r.wa, r.ow, false, [], [⟨r.ac, place, F, false⟩]⟩]⟩ q M) := fun W8 h8 hb8 => create_end (unhide HH) (unhide H6).1 (unhide H6).2.1 hWb ho4 hf4 hbk4 h8 hb8
    have b4 : w4.heap[b]? = some (.cells #[q.sv, q.cv] 66) := by
      have e1 := ((unhide H6).1.f.trans f6b (fun _ _ h => h)).block b hbl (fun h => h)
      exact ((hf4.block b (Nat.lt_of_lt_of_le hbl ((unhide H6).1.f.trans f6b (fun _ _ h => h)).size) (fun hk => blk_ne (unhide HH).ch (unhide HH).blk (by decide) hk)).trans e1).trans (unhide HH).blk
    have a4 : w4.heap[w.heap.size + 1]? = some (.cells (AN.no 0).cs.toArray 45) := ((unhide HF4).block _ hsz6 (by omega)).trans (unhide H6).1.a
    have HS7 : Hid (∀ W, Fr (fun k => k < w.heap.size) W6 W → W.cell? ⟨w.heap.size, 6, none⟩ = some (.int .u32 (r.wa : Nat)) ∧ W.cell? ⟨w.heap.size, 7, none⟩ = some (.int .u32 (r.ow : Nat)) ∧ W.cell? ⟨vb, 0, none⟩ = some (.int .u32 (r.ac : Nat)) ∧ W.cell? ⟨vb, 1, none⟩ = some (.int .u32 (place : Nat)) ∧ W.cell? ⟨vb, 2, none⟩ = some (.slice ao F.length cap) ∧ W.cell? ⟨vb, 3, none⟩ = some (.bool false)) := fun W hW => by
      have e1 := (hW.block w.heap.size (by omega) (by omega)).trans (unhide H6).1.r
      have e2 := (hW.block vb (lt_of_block (unhide H6).2.2.1) (by have := (unhide H6).2.2.2; omega)).trans (unhide H6).2.2.1
      refine ⟨?_, ?_, (blk4 e2).1.1, (blk4 e2).1.2.1, (blk4 e2).1.2.2.1, (blk4 e2).1.2.2.2⟩ <;> (simp only [World.cell?, e1]; rfl)
    have c4 : w4.cell? ⟨b, 1, none⟩ = some (.slice co s.C.length cc) := by rw [← hce]; simp [World.cell?, b4]
    have z4 : w4.frozen? ⟨b, 1, none⟩ = false := by simp [World.frozen?, b4]
    have HS8 : Hid (∀ W, Fr (fun _ => False) W6 W → W.cell? ⟨b, 1, none⟩ = some (.slice co s.C.length cc) ∧ W.cell? ⟨w.heap.size, 6, none⟩ = some (.int .u32 (r.wa : Nat)) ∧ W.cell? ⟨w.heap.size, 7, none⟩ = some (.int .u32 (r.ow : Nat)) ∧ W.cell? ⟨vb, 0, none⟩ = some (.int .u32 (r.ac : Nat)) ∧ W.cell? ⟨vb, 1, none⟩ = some (.int .u32 (place : Nat)) ∧ W.cell? ⟨vb, 2, none⟩ = some (.slice ao F.length cap) ∧ W.cell? ⟨vb, 3, none⟩ = some (.bool false)) := fun W hW => ⟨((unhide HCh) W ((unhide H6).1.f.trans hW (fun _ _ h => h))).1, (unhide HS7) W (hW.mono (fun _ _ h => h.elim))⟩
    have HS9 := hide (And.intro c4 ((unhide HS7) w4 (unhide HF4)))
    have HB4 := hide b4
    have HA4 := hide a4
    have HR4 := hide hr4
    have HBL := hide hbl
    clear b4 a4 hr4 ho4 hf4 hbk4 hrow f6b hcl hfv hsz6 HCh HS7 c4 z4 hbl
    rw [hWb] at HR4
    clear hWb
    go_wp2_with fail
    refine wp_region_last (n := 16) (m := 16) (S := (fun W => W.cell? ⟨b, 1, none⟩ = some (.slice co s.C.length cc) ∧ W.cell? ⟨w.heap.size, 6, none⟩ = some (.int .u32 (r.wa : Nat)) ∧ W.cell? ⟨w.heap.size, 7, none⟩ = some (.int .u32 (r.ow : Nat)) ∧ W.cell? ⟨vb, 0, none⟩ = some (.int .u32 (r.ac : Nat)) ∧ W.cell? ⟨vb, 1, none⟩ = some (.int .u32 (place : Nat)) ∧ W.cell? ⟨vb, 2, none⟩ = some (.slice ao F.length cap) ∧ W.cell? ⟨vb, 3, none⟩ = some (.bool false))) (by kernel_rfl) rfl rfl rfl (by kernel_rfl) (by kernel_rfl) ((unhide HS8) _ (Fr.refl _ _).drew) (fun hHeld => ?_)
    refine wtk2 (i := 0) rfl hHeld ?_
    simp only [Act.put, nrm]
    refine wtk2 (i := 1) rfl hHeld ?_
    simp only [Act.put, nrm]
    refine wtk2 (i := 2) rfl hHeld ?_
    simp only [Act.put, nrm]
    refine wtk2 (i := 3) rfl hHeld ?_
    simp only [Act.put, nrm]
    refine wtk2 (i := 4) rfl hHeld ?_
    simp only [Act.put, nrm]
    refine wtk2 (i := 5) rfl hHeld ?_
    simp only [Act.put, nrm]
    refine wtk2 (i := 6) rfl hHeld ?_
    simp only [Act.put, nrm]
    refine wtk2 (i := 7) rfl hHeld ?_
    simp only [Act.put, nrm]
    refine wtk2 (i := 8) rfl hHeld ?_
    simp only [Act.put, nrm]
    refine wtk2 (i := 9) rfl hHeld ?_
    simp only [Act.put, nrm]
    refine wpAnyH_ready (rs := [10]) (by kernel_rfl) (by simp) (AllReadyH.cons rfl (fun K hK => ?_) AllReadyH.nil)
    go_simp
    refine hK.out _ _ ((unhide HS8) _ ((Fr.refl _ _).drew.alloc _)) (fun hHeld => ?_)
    clear hK K
    refine wtk2 (i := 11) rfl hHeld ?_
    simp only [Act.put, nrm]
    refine wpAnyH_ready (rs := [12]) (by kernel_rfl) (by simp) (AllReadyH.cons rfl (fun K hK => ?_) AllReadyH.nil)
    go_simp
    refine hK.out _ _ ((unhide HS8) _ (((Fr.refl _ _).drew.alloc _).alloc _)) (fun hHeld => ?_)
    clear hK K
    refine wpAnyH_ready (rs := [13]) (by kernel_rfl) (by simp) (AllReadyH.cons rfl (fun K hK => ?_) AllReadyH.nil)
    refine step_app rfl (.tmp 44) (.tmp 52) 64 64 rfl _ _ _ (by simp [Act.eval]) (by simp [Act.eval]) (unhide HR4) ?_
    refine hK.out _ _ (unhide HS9) (fun hHeld => ?_)
    clear hK K
    simp only [Act.put, nrm]
    refine wtk2 (i := 14) rfl hHeld ?_
    simp only [Act.put, nrm]
    refine wtk2 (i := 15) rfl hHeld ?_
    simp only [Act.put, nrm]
    refine wpAnyH_done (by kernel_rfl) ?_ _
    have c4 := (unhide HS9).1
    have z4 : w4.frozen? ⟨b, 1, none⟩ = false := by simp [World.frozen?, unhide HB4]
    simp only [lastQ]
    go_simp
    generalize hW7 : w4.setCell ⟨b, 1, none⟩ (.slice ao2 (s.C.length + 1) cap2) = W7
    have b7 : W7.heap[b]? = some (.cells #[q.sv, .slice ao2 (s.C.length + 1) cap2] 66) := by rw [← hW7]; exact heap_setCell_same w4 b 1 #[q.sv, q.cv] _ _ (unhide HB4)
    have a7 : W7.heap[w.heap.size + 1]? = some (.cells (AN.no 0).cs.toArray 45) := by rw [← hW7]; exact (heap_setCell_other w4 ⟨b, 1, none⟩ _ _ (by have := unhide HBL; show w.heap.size + 1 ≠ b; omega)).trans (unhide HA4)
    have HF7 : Hid (Fr (fun k => k = b ∨ k = w.heap.size + 1) w4 W7) := by rw [← hW7]; exact (Fr.refl _ _).setCell (.inl (.inl rfl)) _
    have c7 : W7.cell? ⟨b, 1, none⟩ = some (.slice ao2 (s.C.length + 1) cap2) := by simp [World.cell?, b7]
    obtain ⟨e0, e1, e2, e3, e4, e5, e6, y0, y1, y2, y3, y4, y5, y6⟩ := ansc a7
    have HB7 := hide b7
    obtain ⟨N, hN⟩ : ∃ N, N = s.C.length + 1 := ⟨_, rfl⟩
    have hwr : IntKind.u32.wrap (N : Int) = (N : Int) := by rw [IntKind.wrap_u32]; omega
    have HN := hide hN
    rw [← hN] at c7 ⊢
    clear hW7 b7 a7 hHeld HS8 HS9 HB4 HA4 HR4 c4 z4 H6 HF4 hN
    go_wp2_with fail
    refine bodyPost_ret (results_cell_mid rfl _ _ (w.heap.size + 1) 0 [.int .u32 0, .int .u32 0, .int .u8 0, .int .u32 (N : Nat), .int .u32 1, .slice none 0 0, .slice none 0 0] _ rfl ?_ Tryz.underlying45 rfl (by kernel_rfl)) rfl ?_
    · intro j v hv
      rcases j with _ | _ | _ | _ | _ | _ | _ | j
      · simp at hv; subst hv; go_simp
      · simp at hv; subst hv; go_simp
      · simp at hv; subst hv; go_simp
      · simp at hv; subst hv; go_simp
      · simp at hv; subst hv; go_simp
      · simp at hv; subst hv; go_simp
      · simp at hv; subst hv; go_simp
      · simp at hv
    · refine ⟨by rw [unhide HN]; rfl, ?_⟩
      have hbl := unhide HBL
      have f78 := set7_fr W7 (w.heap.size + 1) (.int .u32 0) (.int .u32 0) (.int .u8 0) (.int .u32 (N : Nat)) (.int .u32 1) (.slice none 0 0) (.slice none 0 0)
      exact (unhide HFIN) _ ((unhide HF7).trans f78 (fun _ _ h => .inr h)) ((f78.block b (lt_of_block (unhide HB7)) (by omega)).trans (unhide HB7))
end Go.Proofs.YtiknjghcjaaenaaGreatDoor
