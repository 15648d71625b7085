import Derived.Test.YtciblhmmpamjoaaGreatDoorObo
namespace Go.Proofs.YtciblhmmpamjoaaGreatDoor
open Go.RowKit Go.Shelf

/-- What holds at history's loop: k versions are told. -/
structure HI (w wr : World) (r : RQ) (c : CM) (z k : Nat) (hv : Value) : Prop where
  cb : CB w wr w.heap.size r
  zb : wr.heap[z]? = some (.cells #[.int .u32 0, .int .u32 0, .int .u8 0, .int .u32 (r.rc : Nat), .int .u32 (c.V.length : Nat), .slice none 0 0, hv] 47)
  o : OwS wr (z + 1) hv ((c.V.take k).map VM.sum)
  n : w.heap.size + 1 < z
theorem HI.step {w wr W : World} {r : RQ} {c : CM} {z k : Nat} {hv : Value} (h : HI w wr r c z k hv) (hf : Fr (fun _ => False) wr W) : HI w W r c z k hv :=
  ⟨h.cb.step hf, (hf.block z (lt_of_block h.zb) (fun h => h)).trans h.zb, ownsRow_of_block h.o (fun g hg => hf.block g (h.o.lt g hg).2 (fun h => h)), h.n⟩
theorem HI.next {w Wd w7 : World} {r : RQ} {c : CM} {z k : Nat} {hv nv : Value} {v : VM} (h : HI w Wd r c z k hv) (hf : Fr (fun g => hv.ownBlock = some g) Wd w7) (ho : OwS w7 (z + 1) nv ((c.V.take k).map VM.sum ++ [v.sum])) (hk : c.V[k]? = some v) :
    w7.cell? ⟨z, 6, none⟩ = some hv ∧ w7.frozen? ⟨z, 6, none⟩ = false ∧ HI w (w7.setCell ⟨z, 6, none⟩ nv) r c z (k + 1) nv := by
  have hno : ∀ g, g ≤ z → ¬ hv.ownBlock = some g := fun g hg e => by have := (h.o.lt g e).1; omega
  have hn := h.n
  have hsz := h.cb.n
  have z7 := (hf.block z (lt_of_block h.zb) (hno z (Nat.le_refl _))).trans h.zb
  have r7 := (hf.block w.heap.size (lt_of_block h.cb.r) (hno _ (by omega))).trans h.cb.r
  have a7 := (hf.block (w.heap.size + 1) (lt_of_block h.cb.a) (hno _ (by omega))).trans h.cb.a
  refine ⟨by simp only [World.cell?, z7]; rfl, by simp [World.frozen?, z7], ⟨⟨(heap_setCell_other w7 ⟨z, 6, none⟩ _ nv (by show w.heap.size ≠ z; omega)).trans r7, (heap_setCell_other w7 ⟨z, 6, none⟩ _ nv (by show w.heap.size + 1 ≠ z; omega)).trans a7, (h.cb.f.absorb hf (fun i hi => by have := (h.o.lt i hi).1; omega)).setCell (.inr (by show w.heap.size ≤ z; omega)) _, Nat.le_refl _⟩, heap_setCell_same w7 z 6 _ _ nv z7, ?_, hn⟩⟩
  have e : (c.V.take (k + 1)).map VM.sum = (c.V.take k).map VM.sum ++ [v.sum] := by rw [List.take_add_one, hk]; simp
  rw [e]
  exact ownsRow_of_block ho (fun g hg => heap_setCell_other w7 ⟨z, 6, none⟩ g nv (by have := (ho.lt g hg).1; show g ≠ z; omega))
theorem HI.end_ {w wr W8 : World} {r : RQ} {c : CM} {z : Nat} {hv : Value} (h : HI w wr r c z c.V.length hv) (h8 : Fr (fun k => k = w.heap.size + 1) wr W8) (b : Nat) (s : RM) (q : RW) (M : Nat → Prop) : OpD w b s q M (s, ⟨0, r.rc, c.V.length, [], c.V.map VM.sum⟩) (.slice none 0 0) hv W8 := by
  have hn := h.n
  have ho := h.o
  rw [List.take_length] at ho
  exact .inl ⟨rfl, h.cb.f.absorb h8 (fun i hi => by omega), World.ownsRow_nil _ _ _ _, ownsRow_base (ownsRow_of_block ho (fun g hg => h8.block g (ho.lt g hg).2 (fun hk => by have := (ho.lt g hg).1; omega))) (by omega)⟩
set_option linter.unusedSimpArgs false in
set_option maxHeartbeats 4000000 in
set_option maxRecDepth 100000 in
/-- history. -/
theorem history_any (b : Nat) (s : RM) (q : RW) (M : Nat → Prop) (r : RQ) (xo : Option Addr) (xn xc : Nat) (place i : Nat) (c : CM) (w : World) (h : RsAt w b s q M) (hfv : r.fv = .slice xo xn xc) (hS : s.S.length ≤ 140737488355328) (hl : s.C.length ≤ 256) (hc : s.C[i]? = some c) (hrc : r.rc = i + 1) (hG : c.G.length ≤ 140737488355328) (hV : c.V.length ≤ 64) (hVF : ∀ v ∈ c.V, v.F.length ≤ 1000) :
    Calls Tryz.prog 100 #[.pointer (some ⟨b, 0, none⟩), r.v, .int .u32 (place : Nat)] w fun e w' => OpPost w b s q M 0 0 (s.history r c) e w' := by
  obtain ⟨W1, hW1⟩ : ∃ W1, W1 = (w.alloc (.cells r.cs 27)).alloc (.cells #[.int .u32 0, .int .u32 0, .int .u8 0, .int .u32 0, .int .u32 0, .slice none 0 0, .slice none 0 0] 47) := ⟨_, rfl⟩
  have hCB : CB w W1 w.heap.size r := by rw [hW1]; exact CB.new w r
  obtain ⟨g, ccap, hcv, _⟩ := h.chart hc
  obtain ⟨so, sc, hse⟩ := h.st.form
  obtain ⟨go, gc, hge⟩ := own_formX (h.gr i c hc)
  have HCt : Hid (∀ W, Fr (fun _ => False) w W → Calls Tryz.prog 115 #[.pointer (some ⟨b, 0, none⟩), .int .u32 (r.rc : Nat)] W fun e w' => e = .returned (.pointer (some ⟨g, i * 5, none⟩)) ∧ w' = W) := fun W hW => by rw [hrc]; exact chart_any b i c s q M W (h.fr hW) hc hl g ccap hcv
  have HSh : Hid (∀ W, Fr (fun _ => False) w W → Calls Tryz.prog 120 #[.pointer (some ⟨g, i * 5, none⟩)] W fun e w' => e = .returned (.agg #[.int .u32 (c.wa : Nat), .int .u32 (c.ow : Nat), .bool c.sl, .slice go c.G.length gc]) ∧ Fr (fun _ => False) W w') := fun W hW => by
    obtain ⟨g2, cc2, hcv2, k0, k1, k2, k3, k4, kz⟩ := (h.fr hW).chart hc
    rw [hcv] at hcv2
    cases hcv2
    rw [← hge]
    exact sheet_any g (i * 5) c.wa c.ow c.sl (q.gv i) go c.G.length gc W hge k0 k1 k2 k3
  have HP : Hid (∀ W, Fr (fun _ => False) w W → Calls Tryz.prog 126 #[.slice so s.S.length sc, .agg #[.int .u32 (c.wa : Nat), .int .u32 (c.ow : Nat), .bool c.sl, .slice go c.G.length gc], .int .u32 (r.ac : Nat)] W fun e w' => e = .returned (.int .u8 ((hiCode s.S r.ac c : Nat) : Int)) ∧ Fr (fun _ => False) W w') := fun W hW => by
    rw [← hse, ← hge]
    exact phistory_any q.sv s.S c.wa c.ow c.sl (q.gv i) c.G r.ac W ((h.fr hW).st) hS (own_us ((h.fr hW).gr i c hc)) hG
  have HSt : Hid (∀ W, Fr (fun _ => False) w W → W.cell? ⟨b, 0, none⟩ = some (.slice so s.S.length sc)) := fun W hW => by rw [← hse]; exact (h.fr hW).cells.1
  have HC := hide hCB
  have HH := hide h
  have HS : Hid (∀ W, CB w W w.heap.size r → W.cell? ⟨b, 0, none⟩ = some (.slice so s.S.length sc) ∧ W.cell? ⟨w.heap.size, 2, none⟩ = some (.int .u32 (r.ac : Nat))) := fun W hW => ⟨(unhide HSt) W hW.f, hW.cells.2.2.1⟩
  have HR4 : Hid (∀ W, CB w W w.heap.size r → W.cell? ⟨w.heap.size, 4, none⟩ = some (.int .u32 (r.rc : Nat)) ∧ W.cell? ⟨w.heap.size, 5, none⟩ = some (.int .u32 (r.ve : Nat)) ∧ W.cell? ⟨w.heap.size, 2, none⟩ = some (.int .u32 (r.ac : Nat))) := fun W hW => ⟨hW.cells.2.2.2.2.1, hW.cells.2.2.2.2.2.1, hW.cells.2.2.1⟩
  have HRf : Hid (∀ (cd : Nat) W, Calls Tryz.prog 62 #[.int .u8 (cd : Nat)] W fun e w' => e = .returned (.agg #[.int .u32 0, .int .u32 0, .int .u8 (cd : Nat), .int .u32 0, .int .u32 0, .slice none 0 0, .slice none 0 0]) ∧ Fr (fun _ => False) W w') := fun cd W => refusal_any cd W
  have HE0 : Hid (hiCode s.S r.ac c ≠ 0 → s.history r c = (s, RA.no (hiCode s.S r.ac c))) := fun h => by simp [RM.history, h]
  have HE1 : Hid (hiCode s.S r.ac c = 0 → s.history r c = (s, ⟨0, r.rc, c.V.length, [], c.V.map VM.sum⟩)) := fun h => by simp [RM.history, h]
  generalize s.history r c = X at *
  generalize hiCode s.S r.ac c = code at *
  obtain ⟨vo, vc, hve0⟩ := own_formX (h.ve i c hc)
  have HV4 : Hid (∀ W, Fr (fun _ => False) w W → W.cell? ⟨g, i * 5 + 4, none⟩ = some (.slice vo c.V.length vc)) := fun W hW => by
    obtain ⟨g2, cc2, hcv2, k0, k1, k2, k3, k4, kz⟩ := (h.fr hW).chart hc
    rw [hcv] at hcv2
    cases hcv2
    rw [← hve0]
    exact k4
  have HLa : Hid (∀ W, Fr (fun _ => False) w W → Calls Tryz.prog 117 #[.pointer (some ⟨g, i * 5, none⟩)] W fun e w' => e = .returned (.int .u32 (c.V.length : Nat)) ∧ w' = W) := fun W hW => last_any g (i * 5) c.V.length vo vc W ((unhide HV4) W hW) (by omega)
  have HVk : Hid (∀ k v, c.V[k]? = some v → ∃ vg xo2 xc2, vo = some ⟨vg, 0, none⟩ ∧ v.F.length ≤ 1000 ∧ vg < w.heap.size ∧ ∀ W, Fr (fun _ => False) w W → W.cell? ⟨vg, k * 4, none⟩ = some (.int .u32 (v.au : Nat)) ∧ W.cell? ⟨vg, k * 4 + 1, none⟩ = some (.int .u32 (v.ev : Nat)) ∧ W.cell? ⟨vg, k * 4 + 2, none⟩ = some (.slice xo2 v.F.length xc2) ∧ W.cell? ⟨vg, k * 4 + 3, none⟩ = some (.bool v.rd)) := fun k v hv => by
    obtain ⟨vg, cc2, e1, _⟩ := h.version hc hv
    obtain ⟨xo2, xc2, ex⟩ := (h.fl i c k v hc hv).f.form
    have e2 := hve0
    rw [e1] at e2
    cases e2
    refine ⟨vg, xo2, xc2, rfl, hVF v (List.mem_of_getElem? hv), h.lt vg (h.mv i c hc vg (by rw [e1]; rfl)), fun W hW => ?_⟩
    obtain ⟨vg3, cc3, e3, k0, k1, k2, k3, kz⟩ := (h.fr hW).version hc hv
    rw [e1] at e3
    cases e3
    rw [← ex]
    exact ⟨k0, k1, k2, k3⟩
  clear hve0 hVF
  obtain ⟨d3, d4, _⟩ := (unhide HR4) _ (unhide HC)
  simp only [RQ.v, RQ.cs] at *
  rw [hfv] at hW1 ⊢
  clear hCB h hse hge hc hrc hG
  go_enter Tryz.func100, Tryz.ntmps100
  go_wp2_with fail
  rw [← hW1]
  clear hW1
  go_wp2_with fail
  refine ((unhide HCt) _ (unhide HC).f).mono ?_
  rintro e w' ⟨rfl, rfl⟩
  clear d3 d4
  go_wp2_with fail
  go_region_held3 (fun W => W.cell? ⟨b, 0, none⟩ = some (.slice so s.S.length sc) ∧ W.cell? ⟨w.heap.size, 2, none⟩ = some (.int .u32 (r.ac : Nat)))
    (first | exact (unhide HS) _ ((unhide HC).step (Fr.refl _ _).drew) | exact (unhide HS) _ (unhide H1) | exact (unhide HS) _ (unhide H2))
    (first
      | (go_at_call 120; refine ((unhide HSh) _ ((unhide HC).step (Fr.refl _ _).drew).f).mono ?_; rintro e w1 ⟨rfl, hf1⟩; have H1 := hide (((unhide HC).step (Fr.refl _ _).drew).step hf1); clear hf1)
      | (go_at_call 126; refine ((unhide HP) _ (unhide H1).f).mono ?_; rintro e w2 ⟨rfl, hf2⟩; have H2 := hide ((unhide H1).step hf2); clear hf2))
  all_goals
    clear HP HS HSt HC HCt HSh H1
    by_cases hz : code = 0
    · subst hz
      have HX := hide ((unhide HE1) (by trivial))
      have HS5 : Hid (∀ W, CB w W w.heap.size r → W.cell? ⟨w.heap.size, 4, none⟩ = some (.int .u32 (r.rc : Nat))) := fun W hW => ((unhide HR4) W hW).1
      clear HE0 HE1 HRf HR4
      obtain ⟨W5, hst5, hb5, hf5⟩ := ans_put (W := w2.drew.alloc (.cells #[.int .u32 0, .int .u32 0, .int .u8 0, .int .u32 0, .int .u32 0, .slice none 0 0, .slice none 0 0] 47)) (g := w2.heap.size) Array.getElem?_push_size (.int .u32 0) (.int .u32 0) (.int .u8 0) (.int .u32 (r.rc : Nat)) (.int .u32 (c.V.length : Nat)) (.slice none 0 0) (.slice none 0 0) (fun u hu => by simp at hu; rcases hu with rfl | rfl | rfl | rfl | rfl | rfl | rfl <;> rfl)
      have HST := hide hst5
      have hsz2 : w.heap.size + 1 < w2.heap.size := lt_of_block (unhide H2).a
      have f25 : Fr (fun _ => False) w2 W5 := ((Fr.refl (fun _ => False) w2).drew.alloc _).absorb hf5 (fun i hi => by omega)
      obtain ⟨z, hzz⟩ : ∃ z, z = w2.heap.size := ⟨_, rfl⟩
      have HI0 : Hid (HI w W5 r c z 0 (.slice none 0 0)) := by
        rw [hzz]
        exact ⟨(unhide H2).step f25, hb5, World.ownsRow_nil _ _ _ _, hsz2⟩
      clear hst5 hb5 hf5 hsz2 f25
      go_wp2_with fail
      refine wp_region_last (n := 6) (m := 6) (S := (fun W => W.cell? ⟨w.heap.size, 4, none⟩ = some (.int .u32 (r.rc : Nat)))) (by kernel_rfl) rfl rfl rfl (by kernel_rfl) (by kernel_rfl) ((unhide HS5) _ ((unhide H2).step (Fr.refl _ _).drew)) (fun hHeld => ?_)
      refine wpAnyH_take (i := 0) (v := ?_) rfl (by kernel_rfl) (by kernel_rfl) (by kernel_rfl) (fun _ _ _ h => h) (Or.inl ⟨by rfl, ?_⟩) hHeld ?_
      rotate_left
      · intro w hSw; (try dsimp only at hSw); go_simp; (try with_reducible rfl)
      (try simp only [Act.put, List.getElem_toArray, List.getElem_cons_zero, List.getElem_cons_succ, List.setIfInBounds_toArray, List.set_cons_zero, List.set_cons_succ])
      refine wpAnyH_take (i := 1) (v := ?_) rfl (by kernel_rfl) (by kernel_rfl) (by kernel_rfl) (fun _ _ _ h => h) (Or.inl ⟨by rfl, ?_⟩) hHeld ?_
      rotate_left
      · intro w hSw; (try dsimp only at hSw); go_simp; (try with_reducible rfl)
      (try simp only [Act.put, List.getElem_toArray, List.getElem_cons_zero, List.getElem_cons_succ, List.setIfInBounds_toArray, List.set_cons_zero, List.set_cons_succ])
      refine wpAnyH_take (i := 2) (v := ?_) rfl (by kernel_rfl) (by kernel_rfl) (by kernel_rfl) (fun _ _ _ h => h) (Or.inl ⟨by rfl, ?_⟩) hHeld ?_
      rotate_left
      · intro w hSw; (try dsimp only at hSw); go_simp; (try with_reducible rfl)
      (try simp only [Act.put, List.getElem_toArray, List.getElem_cons_zero, List.getElem_cons_succ, List.setIfInBounds_toArray, List.set_cons_zero, List.set_cons_succ])
      refine wpAnyH_ready (rs := [3, 5]) (by kernel_rfl) (by simp) (AllReadyH.cons rfl (fun K hK => ?_) (AllReadyH.cons rfl (fun K hK => ?_) AllReadyH.nil))
      focus
        go_simp
        refine ((unhide HLa) _ (((unhide H2).step (Fr.refl _ _).drew)).f).mono ?_
        rintro e w' ⟨rfl, hw⟩
        obtain rfl := hw.symm
        clear hw
        go_simp
        refine hK.out _ _ ((unhide HS5) _ ((unhide H2).step (Fr.refl _ _).drew)) (fun hHeld => ?_)
        clear hK K
        (try simp only [Act.put, List.getElem_toArray, List.getElem_cons_zero, List.getElem_cons_succ, List.setIfInBounds_toArray, List.set_cons_zero, List.set_cons_succ])
        refine wpAnyH_take (i := 4) (v := ?_) rfl (by kernel_rfl) (by kernel_rfl) (by kernel_rfl) (fun _ _ _ h => h) (Or.inl ⟨by rfl, ?_⟩) hHeld ?_
        rotate_left
        · intro w hSw; (try dsimp only at hSw); go_simp; (try with_reducible rfl)
        (try simp only [Act.put, List.getElem_toArray, List.getElem_cons_zero, List.getElem_cons_succ, List.setIfInBounds_toArray, List.set_cons_zero, List.set_cons_succ])
        refine wpAnyH_ready (rs := [5]) (by kernel_rfl) (by simp) (AllReadyH.cons rfl (fun K hK => ?_) AllReadyH.nil)
        go_simp
        refine hK.out _ _ ((unhide HS5) _ ((unhide H2).step ((Fr.refl _ _).drew.alloc _))) (fun hHeld => ?_)
        clear hK K
        (try simp only [Act.put, List.getElem_toArray, List.getElem_cons_zero, List.getElem_cons_succ, List.setIfInBounds_toArray, List.set_cons_zero, List.set_cons_succ])
        refine wpAnyH_done (by kernel_rfl) ?_ _
        simp only [lastQ]
        refine wp_stN 47 (.tmp 9) (.tmp 33) rfl _ _ (by simp [Act.eval]) (by simp [Act.eval]) (unhide HST) ?_
        (try simp only [Act.put, List.getElem_toArray, List.getElem_cons_zero, List.getElem_cons_succ, List.setIfInBounds_toArray, List.set_cons_zero, List.set_cons_succ])
      rotate_left
      focus
        go_simp
        refine hK.out _ _ ((unhide HS5) _ ((unhide H2).step ((Fr.refl _ _).drew.alloc _))) (fun hHeld => ?_)
        clear hK K
        (try simp only [Act.put, List.getElem_toArray, List.getElem_cons_zero, List.getElem_cons_succ, List.setIfInBounds_toArray, List.set_cons_zero, List.set_cons_succ])
        refine wpAnyH_ready (rs := [3]) (by kernel_rfl) (by simp) (AllReadyH.cons rfl (fun K hK => ?_) AllReadyH.nil)
        go_simp
        refine ((unhide HLa) _ (((unhide H2).step ((Fr.refl _ _).drew.alloc _))).f).mono ?_
        rintro e w' ⟨rfl, hw⟩
        obtain rfl := hw.symm
        clear hw
        go_simp
        refine hK.out _ _ ((unhide HS5) _ ((unhide H2).step ((Fr.refl _ _).drew.alloc _))) (fun hHeld => ?_)
        clear hK K
        (try simp only [Act.put, List.getElem_toArray, List.getElem_cons_zero, List.getElem_cons_succ, List.setIfInBounds_toArray, List.set_cons_zero, List.set_cons_succ])
        refine wpAnyH_take (i := 4) (v := ?_) rfl (by kernel_rfl) (by kernel_rfl) (by kernel_rfl) (fun _ _ _ h => h) (Or.inl ⟨by rfl, ?_⟩) hHeld ?_
        rotate_left
        · intro w hSw; (try dsimp only at hSw); go_simp; (try with_reducible rfl)
        (try simp only [Act.put, List.getElem_toArray, List.getElem_cons_zero, List.getElem_cons_succ, List.setIfInBounds_toArray, List.set_cons_zero, List.set_cons_succ])
        refine wpAnyH_done (by kernel_rfl) ?_ _
        simp only [lastQ]
        refine wp_stN 47 (.tmp 9) (.tmp 33) rfl _ _ (by simp [Act.eval]) (by simp [Act.eval]) (unhide HST) ?_
        (try simp only [Act.put, List.getElem_toArray, List.getElem_cons_zero, List.getElem_cons_succ, List.setIfInBounds_toArray, List.set_cons_zero, List.set_cons_succ])
      all_goals
        have hv4 := (unhide HV4) _ (unhide HI0).cb.f
        rw [← hzz]
        clear HST HS5 HLa hzz
        go_wp2_with fail
        go_loopw [39] (fun kv wr => ∃ k : Nat, k ≤ c.V.length ∧ kv = .int .i64 (k : Nat) ∧ ∃ hv, HI w wr r c z k hv) (fun kv _ => c.V.length - (intOf kv).toNat)
        case atStart => exact ⟨0, Nat.zero_le _, rfl, _, unhide HI0⟩
        case round =>
          obtain ⟨k, hk, rfl, hv, hi⟩ := hrel
          have HIk := hide hi
          by_cases hlt : k < c.V.length
          · obtain ⟨v, hvk⟩ : ∃ v, c.V[k]? = some v := ⟨c.V[k], List.getElem?_eq_getElem hlt⟩
            obtain ⟨vg, xo2, xc2, rfl, hfl, hvgl, hcells⟩ := (unhide HVk) k v hvk
            obtain ⟨v0, v1, v2, v3⟩ := hcells _ hi.cb.f
            have HVK := hide hvk
            have hkl : (k : Int) < (c.V.length : Int) := by omega
            obtain ⟨W8, hW8⟩ : ∃ W8, W8 = wr.alloc (.cells #[.int .u32 (v.au : Nat), .int .u32 (v.ev : Nat), .slice xo2 v.F.length xc2, .bool v.rd] 163) := ⟨_, rfl⟩
            obtain ⟨zb, hzb⟩ : ∃ zb, zb = wr.heap.size := ⟨_, rfl⟩
            obtain ⟨ho4, hc4, hhv⟩ := own_formX hi.o
            obtain ⟨nk, hnk⟩ : ∃ nk, nk = ((c.V.take k).map VM.sum).length := ⟨_, rfl⟩
            rw [← hnk] at hhv
            have HI8 : Hid (HI w W8 r c z k (.slice ho4 nk hc4)) := by rw [hW8, ← hhv]; exact hi.step (box1 wr _)
            have HB8 : Hid (W8.heap[zb]? = some (.cells #[.int .u32 (v.au : Nat), .int .u32 (v.ev : Nat), .slice xo2 v.F.length xc2, .bool v.rd] 163)) := by rw [hW8, hzb]; exact Array.getElem?_push_size
            have HS9 : Hid (∀ W, Fr (fun _ => False) W8 W → W.cell? ⟨z, 6, none⟩ = some (.slice ho4 nk hc4) ∧ W.cell? ⟨zb, 0, none⟩ = some (.int .u32 (v.au : Nat)) ∧ W.cell? ⟨zb, 1, none⟩ = some (.int .u32 (v.ev : Nat)) ∧ W.cell? ⟨zb, 2, none⟩ = some (.slice xo2 v.F.length xc2) ∧ W.cell? ⟨zb, 3, none⟩ = some (.bool v.rd)) := fun W hW => by
              have e2 := (hW.block zb (lt_of_block (unhide HB8)) (fun h => h)).trans (unhide HB8)
              exact ⟨(blk7 ((unhide HI8).step hW).zb).2.2.2.2.2.2, (blk4 e2).1.1, (blk4 e2).1.2.1, (blk4 e2).1.2.2.1, (blk4 e2).1.2.2.2⟩
            have HSm : Hid (∀ W, Calls Tryz.prog 127 #[.agg #[.int .u32 (v.au : Nat), .int .u32 (v.ev : Nat), .slice xo2 v.F.length xc2, .bool v.rd]] W fun e w' => e = .returned (.agg #[.int .u32 (v.au : Nat), .int .u32 (v.ev : Nat), .int .u32 (v.F.length : Nat), .bool v.rd]) ∧ Fr (fun _ => False) W w') := fun W => summary_any v.au v.ev v.rd xo2 v.F.length xc2 W hfl
            have HAP : Hid (∀ w3, Fr (fun _ => False) W8 w3 → ∃ ao7 cap7 w7, (Builtin.append_ #[45, 45] 45 #[.slice ho4 nk hc4, .slice (some ⟨w3.heap.size, 0, none⟩) 1 1]).run Tryz.prog (w3.alloc (.cells #[.int .u32 (v.au : Nat), .int .u32 (v.ev : Nat), .int .u32 (v.F.length : Nat), .bool v.rd] 99)) = .ok (.slice ao7 (nk + 1) cap7) w7 ∧ (w7.cell? ⟨z, 6, none⟩ = some (.slice ho4 nk hc4) ∧ w7.cell? ⟨zb, 0, none⟩ = some (.int .u32 (v.au : Nat)) ∧ w7.cell? ⟨zb, 1, none⟩ = some (.int .u32 (v.ev : Nat)) ∧ w7.cell? ⟨zb, 2, none⟩ = some (.slice xo2 v.F.length xc2) ∧ w7.cell? ⟨zb, 3, none⟩ = some (.bool v.rd)) ∧ w7.frozen? ⟨z, 6, none⟩ = false ∧ HI w (w7.setCell ⟨z, 6, none⟩ (.slice ao7 (nk + 1) cap7)) r c z (k + 1) (.slice ao7 (nk + 1) cap7)) := fun w3 hw3 => by
              have hd := ((unhide HI8).step hw3).step (box1 w3 (.cells #[.int .u32 (v.au : Nat), .int .u32 (v.ev : Nat), .int .u32 (v.F.length : Nat), .bool v.rd] 99))
              have hl : ((c.V.take k).map VM.sum).length ≤ 1000000 := by simp; omega
              have hzl := lt_of_block hd.zb
              obtain ⟨ao7, cap7, w7, hr7, ho7, hf7⟩ := app_sum _ (z + 1) w3.heap.size (.slice ho4 nk hc4) _ v.sum hd.o (by omega) hl Array.getElem?_push_size
              rw [← hnk] at hr7 ho7
              obtain ⟨c7, z7, hi7⟩ := hd.next hf7 ho7 (unhide HVK)
              have e2 := ((hw3.trans (box1 w3 (.cells #[.int .u32 (v.au : Nat), .int .u32 (v.ev : Nat), .int .u32 (v.F.length : Nat), .bool v.rd] 99)) (fun _ _ h => h)).block zb (lt_of_block (unhide HB8)) (fun h => h)).trans (unhide HB8)
              have e7 := (hf7.block zb (lt_of_block e2) (fun hx => blk_ne hd.o e2 (by decide) hx)).trans e2
              exact ⟨ao7, cap7, w7, hr7, ⟨c7, (blk4 e7).1.1, (blk4 e7).1.2.1, (blk4 e7).1.2.2.1, (blk4 e7).1.2.2.2⟩, z7, hi7⟩
            clear hi hvk hcells hhv hnk hfl HI0 hv4 HIk
            go_wp2_with fail
            rw [← hW8, ← hzb]
            clear hW8 hzb v0 v1 v2 v3
            refine wp_region_last (n := 7) (m := 7) (S := (fun W => W.cell? ⟨z, 6, none⟩ = some (.slice ho4 nk hc4) ∧ W.cell? ⟨zb, 0, none⟩ = some (.int .u32 (v.au : Nat)) ∧ W.cell? ⟨zb, 1, none⟩ = some (.int .u32 (v.ev : Nat)) ∧ W.cell? ⟨zb, 2, none⟩ = some (.slice xo2 v.F.length xc2) ∧ W.cell? ⟨zb, 3, none⟩ = some (.bool v.rd))) (by kernel_rfl) rfl rfl rfl (by kernel_rfl) (by kernel_rfl) ((unhide HS9) _ (Fr.refl _ _).drew) (fun hHeld => ?_)
            refine wpAnyH_take (i := 0) (v := ?_) rfl (by kernel_rfl) (by kernel_rfl) (by kernel_rfl) (fun _ _ _ h => h) (Or.inl ⟨by rfl, ?_⟩) hHeld ?_
            rotate_left
            · intro w hSw; (try dsimp only at hSw); go_simp; (try with_reducible rfl)
            (try simp only [Act.put, List.getElem_toArray, List.getElem_cons_zero, List.getElem_cons_succ, List.setIfInBounds_toArray, List.set_cons_zero, List.set_cons_succ])
            refine wpAnyH_take (i := 1) (v := ?_) rfl (by kernel_rfl) (by kernel_rfl) (by kernel_rfl) (fun _ _ _ h => h) (Or.inl ⟨by rfl, ?_⟩) hHeld ?_
            rotate_left
            · intro w hSw; (try dsimp only at hSw); go_simp; (try with_reducible rfl)
            (try simp only [Act.put, List.getElem_toArray, List.getElem_cons_zero, List.getElem_cons_succ, List.setIfInBounds_toArray, List.set_cons_zero, List.set_cons_succ])
            refine wpAnyH_take (i := 2) (v := ?_) rfl (by kernel_rfl) (by kernel_rfl) (by kernel_rfl) (fun _ _ _ h => h) (Or.inl ⟨by rfl, ?_⟩) hHeld ?_
            rotate_left
            · intro w hSw; (try dsimp only at hSw); go_simp; (try with_reducible rfl)
            (try simp only [Act.put, List.getElem_toArray, List.getElem_cons_zero, List.getElem_cons_succ, List.setIfInBounds_toArray, List.set_cons_zero, List.set_cons_succ])
            refine wpAnyH_ready (rs := [3]) (by kernel_rfl) (by simp) (AllReadyH.cons rfl (fun K hK => ?_) AllReadyH.nil)
            go_simp
            refine ((unhide HSm) _).mono ?_
            rintro e w3 ⟨rfl, hf3⟩
            have H3 := hide ((Fr.refl (fun _ => False) W8).drew.trans hf3 (fun _ _ h => h))
            clear hf3
            obtain ⟨ao7, cap7, w7, hr7, hs7, z7, hi7⟩ := (unhide HAP) w3 (unhide H3)
            have HR7 := hide hr7
            have HS7 := hide hs7
            have HI7 := hide hi7
            clear hr7 hs7 hi7
            go_simp
            refine hK.out _ _ ((unhide HS9) _ (unhide H3)) (fun hHeld => ?_)
            clear hK K
            (try simp only [Act.put, List.getElem_toArray, List.getElem_cons_zero, List.getElem_cons_succ, List.setIfInBounds_toArray, List.set_cons_zero, List.set_cons_succ])
            refine wpAnyH_ready (rs := [4]) (by kernel_rfl) (by simp) (AllReadyH.cons rfl (fun K hK => ?_) AllReadyH.nil)
            go_simp
            refine hK.out _ _ ((unhide HS9) _ ((unhide H3).trans (box1 w3 _) (fun _ _ h => h))) (fun hHeld => ?_)
            clear hK K
            (try simp only [Act.put, List.getElem_toArray, List.getElem_cons_zero, List.getElem_cons_succ, List.setIfInBounds_toArray, List.set_cons_zero, List.set_cons_succ])
            refine wpAnyH_ready (rs := [5]) (by kernel_rfl) (by simp) (AllReadyH.cons rfl (fun K hK => ?_) AllReadyH.nil)
            refine step_app rfl (.tmp 44) (.tmp 47) 45 45 rfl _ _ _ (by simp [Act.eval]) (by simp [Act.eval]) (unhide HR7) ?_
            refine hK.out _ _ (unhide HS7) (fun hHeld => ?_)
            clear hK K
            (try simp only [Act.put, List.getElem_toArray, List.getElem_cons_zero, List.getElem_cons_succ, List.setIfInBounds_toArray, List.set_cons_zero, List.set_cons_succ])
            refine wpAnyH_take (i := 6) (v := ?_) rfl (by kernel_rfl) (by kernel_rfl) (by kernel_rfl) (fun _ _ _ h => h) (Or.inl ⟨by rfl, ?_⟩) hHeld ?_
            rotate_left
            · intro w hSw; (try dsimp only at hSw); go_simp; (try with_reducible rfl)
            (try simp only [Act.put, List.getElem_toArray, List.getElem_cons_zero, List.getElem_cons_succ, List.setIfInBounds_toArray, List.set_cons_zero, List.set_cons_succ])
            refine wpAnyH_done (by kernel_rfl) ?_ _
            have c7 := (unhide HS7).1
            simp only [lastQ]
            go_simp
            go_wp2_with fail
            go_roundw
            case rel => exact ⟨k + 1, hlt, by go_num, _, unhide HI7⟩
            case measure => simp [intOf]; omega
          · obtain rfl : k = c.V.length := by omega
            obtain ⟨c0, c1, c2, c3, c4, c5, c6⟩ := blk7 hi.zb
            obtain ⟨e0, e1, e2, e3, e4, e5, e6, y0, y1, y2, y3, y4, y5, y6⟩ := hi.cb.ans
            obtain ⟨ho4, hc4, rfl⟩ := own_formX hi.o
            obtain ⟨nk, hnk⟩ : ∃ nk, nk = ((c.V.take c.V.length).map VM.sum).length := ⟨_, rfl⟩
            rw [← hnk] at c6 HIk
            clear hi hnk HI0 hv4 HVk HV4
            go_wp2_with fail
            refine bodyPost_ret (results_cell_mid rfl _ _ (w.heap.size + 1) 0 [.int .u32 0, .int .u32 0, .int .u8 0, .int .u32 (r.rc : Nat), .int .u32 (c.V.length : Nat), .slice none 0 0, .slice ho4 nk hc4] _ rfl ?_ Tryz.underlying47 rfl (by kernel_rfl)) rfl ?_
            · intro j v hv
              rcases j with _ | _ | _ | _ | _ | _ | _ | j
              · simp at hv; subst hv; go_simp
              · simp at hv; subst hv; go_simp
              · simp at hv; subst hv; go_simp
              · simp at hv; subst hv; go_simp
              · simp at hv; subst hv; go_simp
              · simp at hv; subst hv; go_simp
              · simp at hv; subst hv; go_simp
              · simp at hv
            · rw [unhide HX]; exact ⟨_, _, rfl, (unhide HIk).end_ (set7_fr _ _ _ _ _ _ _ _ _) _ _ _ _⟩
    · have hc' : ((code : Int) != 0) = true := by rw [bne_iff_ne]; omega
      have HX := hide ((unhide HE0) hz)
      clear HR4 HE0 HE1
      go_wp2_with fail
      refine ((unhide HRf) code _).mono ?_
      rintro e w3 ⟨rfl, hf3⟩
      have h3 := (unhide H2).step hf3
      obtain ⟨e0, e1, e2, e3, e4, e5, e6, z0, z1, z2, z3, z4, z5, z6⟩ := h3.ans
      have H3 := hide h3.f
      clear h3 hf3
      go_wp2_with fail
      (try simp only [Exit.inBlock, Exit.then])
      refine bodyPost_ret (results_cell_mid rfl _ _ (w.heap.size + 1) 0 [.int .u32 0, .int .u32 0, .int .u8 ((code : Nat) : Int), .int .u32 0, .int .u32 0, .slice none 0 0, .slice none 0 0] _ rfl ?_ Tryz.underlying47 rfl (by kernel_rfl)) rfl ?_
      · intro j v hv
        rcases j with _ | _ | _ | _ | _ | _ | _ | j
        · simp at hv; subst hv; go_simp
        · simp at hv; subst hv; go_simp
        · simp at hv; subst hv; go_simp
        · simp at hv; subst hv; go_simp
        · simp at hv; subst hv; go_simp
        · simp at hv; subst hv; go_simp
        · simp at hv; subst hv; go_simp
        · simp at hv
      · rw [unhide HX]; refine OpPost.no rfl ?_
        repeat refine Fr.setCell ?_ (.inr (by simp)) _
        exact unhide H3
end Go.Proofs.YtciblhmmpamjoaaGreatDoor
