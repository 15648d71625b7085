import Derived.Test.YtfaponkpgcdgkaaZbq
namespace Go.Proofs.Ytfaponkpgcdgkaa
open Go.RowKit Go.Maps

theorem left_cells {w : World} {base g cap n : Nat} {ks : List Nat} {c : Nat} (h : w.ownsRow base 29 2 (.slice (some ⟨g, 0, none⟩) n cap) n (icells (ks.map fun k => (c, k)))) {j k : Nat} (hk : ks[j]? = some k) : w.cell? ⟨g, 2 * j, none⟩ = some (.int .u32 (c : Nat)) ∧ w.cell? ⟨g, 2 * j + 1, none⟩ = some (.int .u32 (k : Nat)) := by
  have hl := (List.getElem?_eq_some_iff.1 hk).1
  have hn : n * 2 = ks.length * 2 := by have := h.1; rw [icells_len, List.length_map] at this; omega
  have hkk : (ks.map fun k => (c, k))[j]? = some (c, k) := by simp [hk]
  have e : ∀ i, i < 2 → (icells (ks.map fun k => (c, k)))[2 * j + i]? = (icell (c, k))[i]? := fun i hi => by
    rw [icells_get _ _ (by simp; omega)]
    have e1 : (2 * j + i) / 2 = j := by omega
    have e2 : (2 * j + i) % 2 = i := by omega
    rw [e1, e2, getElem!_pos (ks.map fun k => (c, k)) j (by simpa using hl)]
    have e3 : (ks.map fun k => (c, k))[j]'(by simpa using hl) = (c, k) := (List.getElem?_eq_some_iff.1 hkk).2
    rw [e3]
    match i, hi with
    | 0, _ => rfl
    | 1, _ => rfl
  exact ⟨(h.cellAt (2 * j) (by omega)).trans (by have := e 0 (by omega); simpa [icell] using this), (h.cellAt (2 * j + 1) (by omega)).trans (by have := e 1 (by omega); simpa [icell] using this)⟩
theorem fieldRq (x0 x1 x2 x3 x4 x5 x6 x7 x8 x9 x10 x11 : Value) (w : World) : (Instr.field 89 (.agg #[x0, x1, x2, x3, x4, x5, x6, x7, x8, x9, x10, x11]) 0).run Try.prog w = .ok (.agg #[x0, x1, x2, x3, x4, x5, x6, x7, x8, x9]) w := by kernel_rfl
/-- What holds at Out's label, whatever Waiting told. -/
def OutK (w : World) (d c : Nat) (cs : List SC) (a : Act) (wr : World) : Prop := ∃ W2 g cap, Fr (fun _ => False) w W2 ∧ ((wl cs).length = 0 ∨ W2.ownsRow w.heap.size 29 2 (.slice (some ⟨g, 0, none⟩) (wl cs).length cap) (wl cs).length (icells ((wl cs).map fun k => (c, k)))) ∧ OutJ W2 d c g cap cs a wr
set_option maxRecDepth 100000 in
set_option maxHeartbeats 8000000 in
/-- Out. -/
theorem sout_any (d mw ma c : Nat) (cs : List SC) (dn : List Nat) (dv : Value) (T : Nat → Prop) (w : World) (h : SsAt w d mw ma c cs dn dv T) :
    Calls Try.prog 13 #[.pointer (some ⟨d, 0, none⟩)] w fun e w' => ∃ hv tv, e = .returned (.tuple #[hv, tv]) ∧ ∃ W2 R, Fr (fun _ => False) w W2 ∧ OutI W2 w' c cs (wl cs).length hv tv R := by
  have HC := hide (swaiting_any d mw ma c cs dn dv T w h)
  have HX := hide h
  clear h
  go_enter Try.func13, Try.ntmps13
  go_wp2_with fail
  refine wp_scope1d 0 (OutK w d c cs) muO rfl ?_ ?_
  · go_wp2_with fail
    refine (unhide HC).mono ?_
    rintro e W2 ⟨v, rfl, hrow, hf2⟩
    have hlen : ((wl cs).map fun k => (c, k)).length = (wl cs).length := by simp
    unfold OwI at hrow
    rw [hlen] at hrow
    have HR := hide (And.intro hrow hf2)
    clear hrow hf2 HC
    go_wp2_with fail
    have hrow := (unhide HR).1
    have hO : OutI W2 W2 c cs 0 (.slice none 0 0) (.slice none 0 0) [] := ⟨Fr.refl _ _, World.ownsRow_nil _ _ _ _, by rw [List.take_zero]; exact World.ownsRow_nil _ _ _ _, (fun g hg => by cases hg), rfl, (fun i r hi => by simp at hi)⟩
    rcases hrow.2 with ⟨e1, e2⟩ | ⟨g, cap, cur, e1, _⟩
    · exact ⟨W2, 0, 0, (unhide HR).2, .inl e2, 0, _, _, v, [], _, _, _, _, _, _, _, _, _, _, _, _, _, _, _, _, _, _, _, _, _, _, _, _, _, _, _, _, _, _, _, rfl, by omega, hO, .inr ⟨by omega, none, 0, e1⟩⟩
    · refine ⟨W2, g, cap, (unhide HR).2, .inr (by rw [← e1]; exact hrow), 0, _, _, v, [], _, _, _, _, _, _, _, _, _, _, _, _, _, _, _, _, _, _, _, _, _, _, _, _, _, _, _, _, _, _, _, rfl, by omega, hO, ?_⟩
      by_cases h0 : (wl cs).length = 0
      · exact .inr ⟨by omega, some ⟨g, 0, none⟩, cap, by rw [e1, h0]⟩
      · exact .inl ⟨by omega, by rw [e1]; simp⟩
  · clear HC
    intro a wr hJ
    obtain ⟨W2, g, cap, hf2, hrow, j, hv, tv, lv, R, u1, u5, u6, u7, u8, u9, u10, u11, u12, u13, u14, u15, u16, u17, u18, u19, u20, u21, u22, u23, u24, u25, u26, u27, u28, u29, u30, u31, u32, u33, u34, rfl, hj, hO, hL⟩ := hJ
    generalize hMM : muO { tmps := _, defers := _ } wr = M
    have hM : (wl cs).length - j = M := by rw [← hMM, ← hL.len]; rfl
    clear hMM
    dsimp only
    rcases hL with ⟨hlt, rfl⟩ | ⟨rfl, lo, lc, rfl⟩
    · obtain ⟨k, hk⟩ : ∃ k, (wl cs)[j]? = some k := ⟨_, List.getElem?_eq_getElem hlt⟩
      have hrw := hrow.resolve_left (by omega)
      have hrr : wr.ownsRow w.heap.size 29 2 (.slice (some ⟨g, 0, none⟩) (wl cs).length cap) (wl cs).length (icells ((wl cs).map fun k => (c, k))) := ownsRow_of_block hrw (fun x hx => hO.fr.block x (hrw.lt x hx).2 (fun h => h))
      obtain ⟨c0, c1⟩ := left_cells hrr hk
      have hcap : (wl cs).length ≤ cap := by
        rcases hrr.2 with ⟨e, _⟩ | ⟨g', cap', cur, e, _, _, h3, _⟩
        · cases e
        · simp only [Value.slice.injEq] at e; omega
      have hkm := (wl_mem cs k).1 (List.mem_of_getElem? hk)
      obtain ⟨i, q, hki, hq, hd⟩ : ∃ i q, k = i + 1 ∧ cs[i]? = some q ∧ q.d = none := by
        unfold fW at hkm
        split at hkm
        · cases hkm
        · rename_i hk0
          cases hq : cs[k - 1]? with
          | none => rw [hq] at hkm; cases hkm
          | some q =>
            rw [hq] at hkm
            refine ⟨k - 1, q, by omega, hq, ?_⟩
            cases hd : q.d with
            | none => rfl
            | some x => simp [hd] at hkm
      have hfw : Fr (fun _ => False) w wr := hf2.trans0 hO.fr
      have hs := (unhide HX).fr0 hfw
      have hq' : cs[k - 1]? = some q := by rw [hki]; exact hq
      have hQO := (hs.qs q (List.mem_of_getElem? hq)).wt hd
      have HL : Hid (∀ W', Fr (fun _ => False) wr W' → (Instr.lookup 83 (.map (some mw)) (.agg #[.int .u32 (c : Nat), .int .u32 (k : Nat)]) false).run Try.prog W' = .ok (.agg #[.int .u32 (q.r.cl : Nat), .int .u32 (q.r.nu : Nat), .int .u32 (q.r.ac : Nat), .int .u8 (q.r.op : Nat), .int .u32 (q.r.rc : Nat), .int .u32 (q.r.ve : Nat), .int .u32 (q.r.wa : Nat), .int .u32 (q.r.ow : Nat), q.r.fv, .string q.r.rs, .int .i64 q.la, .int .i64 (q.n : Nat)]) W') := hide (fun W' hf => by
        have := (hs.look_w hq hd W' hf).2
        rw [← hki] at this
        exact this)
      have hcd := hs.cells.2.1
      have hdl := lt_of_cell hcd
      have HF := hide (And.intro hf2 (And.intro hrow (And.intro hO (And.intro hk (And.intro hq' (And.intro hQO (And.intro hM hlt)))))))
      have HCD := hide hcd
      have hgl : g < wr.heap.size := lt_of_cell c0
      obtain ⟨vo, vc, rfl⟩ := own_formX hO.h
      obtain ⟨to_, tc, rfl⟩ := own_formX hO.t
      obtain ⟨D, hD⟩ : ∃ D, (wl cs).length - j = D + 1 := ⟨(wl cs).length - j - 1, by omega⟩
      obtain ⟨E, hE⟩ : ∃ E, cap - j = E + 1 := ⟨cap - j - 1, by omega⟩
      have HDE := hide (And.intro hD (And.intro hE hcap))
      rw [hD, hE]
      have n1 : ¬ ((D : Int) + 1 = 0) := by omega
      have hjw : (0 : Int) ≤ 0 := by omega
      clear hf2 hrow hO hk hq hq' hd hQO hM hlt hrw hrr hcap hkm hki hfw hs hcd hD hE hj
      go_wp2_with fail
      obtain ⟨W3, hW3⟩ : ∃ W3, wr.alloc (.cells #[.int .u32 (c : Nat), .int .u32 (k : Nat)] 29) = W3 := ⟨_, rfl⟩
      have hf3 : Fr (fun _ => False) wr W3 := by rw [← hW3]; exact box1 wr _
      have hb3 : W3.heap[wr.heap.size]? = some (.cells #[.int .u32 (c : Nat), .int .u32 (k : Nat)] 29) := by rw [← hW3]; exact heap_alloc_new wr _
      rw [hW3]
      clear hW3
      have HS5 : Hid (∀ W', Fr (fun _ => False) W3 W' → W'.cell? ⟨d, 1, none⟩ = some (.map (some mw)) ∧ W'.cell? ⟨wr.heap.size, 0, none⟩ = some (.int .u32 (c : Nat)) ∧ W'.cell? ⟨wr.heap.size, 1, none⟩ = some (.int .u32 (k : Nat)) ∧ (Instr.lookup 83 (.map (some mw)) (.agg #[.int .u32 (c : Nat), .int .u32 (k : Nat)]) false).run Try.prog W' = .ok (.agg #[.int .u32 (q.r.cl : Nat), .int .u32 (q.r.nu : Nat), .int .u32 (q.r.ac : Nat), .int .u8 (q.r.op : Nat), .int .u32 (q.r.rc : Nat), .int .u32 (q.r.ve : Nat), .int .u32 (q.r.wa : Nat), .int .u32 (q.r.ow : Nat), q.r.fv, .string q.r.rs, .int .i64 q.la, .int .i64 (q.n : Nat)]) W') := hide (fun W' hf => by
        have hb := (hf.block _ (lt_of_block hb3) (fun h => h)).trans hb3
        exact ⟨((hf3.trans0 hf).cell (p := ⟨d, 1, none⟩) hdl (fun h => h)).trans (unhide HCD), cell_of_blk hb rfl, cell_of_blk hb rfl, (unhide HL) W' (hf3.trans0 hf)⟩)
      have HG3 := hide (And.intro hf3 hb3)
      clear hf3 hb3 c0 c1
      refine wp_region_held_drew (S := (fun W => W.cell? ⟨d, 1, none⟩ = some (.map (some mw)) ∧ W.cell? ⟨wr.heap.size, 0, none⟩ = some (.int .u32 (c : Nat)) ∧ W.cell? ⟨wr.heap.size, 1, none⟩ = some (.int .u32 (k : Nat)) ∧ (Instr.lookup 83 (.map (some mw)) (.agg #[.int .u32 (c : Nat), .int .u32 (k : Nat)]) false).run Try.prog W = .ok (.agg #[.int .u32 (q.r.cl : Nat), .int .u32 (q.r.nu : Nat), .int .u32 (q.r.ac : Nat), .int .u8 (q.r.op : Nat), .int .u32 (q.r.rc : Nat), .int .u32 (q.r.ve : Nat), .int .u32 (q.r.wa : Nat), .int .u32 (q.r.ow : Nat), q.r.fv, .string q.r.rs, .int .i64 q.la, .int .i64 (q.n : Nat)]) W)) (by kernel_rfl) ((unhide HS5) _ (Fr.refl _ _).drew) (fun hHeld => ?_)
      have hfq := fieldRq
      refine wtk2 (i := 0) rfl hHeld ?_
      (try simp only [Act.put, nrm])
      refine wtk2 (i := 1) rfl hHeld ?_
      (try simp only [Act.put, nrm])
      refine wtk2 (i := 2) rfl hHeld ?_
      (try simp only [Act.put, nrm])
      refine wtk2 (i := 3) rfl hHeld ?_
      (try simp only [Act.put, nrm])
      refine wtk2 (i := 4) rfl hHeld ?_
      (try simp only [Act.put, nrm])
      refine wtk2 (i := 5) rfl hHeld ?_
      (try simp only [Act.put, nrm])
      refine wtk2 (i := 6) rfl hHeld ?_
      (try simp only [Act.put, nrm])
      refine wtk2 (i := 7) rfl hHeld ?_
      (try simp only [Act.put, nrm])
      clear hfq
      refine wpAnyH_ready (rs := [8]) (by kernel_rfl) (by simp) (AllReadyH.cons rfl (fun K hK => ?_) AllReadyH.nil)
      have HOA := hide (ownReq_any q.r q.F.length (fcells q.F) W3.drew (own_rd ((unhide HF).2.2.2.2.2.1.fr (S := fun _ => False) ((unhide HG3).1.drew) (fun _ _ h => h)).o (fcells_one _)) (unhide HF).2.2.2.2.2.1.l)
      go_simp
      refine (unhide HOA).mono ?_
      rintro e W4 ⟨v, rfl, hF4, hf4⟩
      clear HOA
      have hov := own_one hF4
      have hf34 : Fr (fun _ => False) W3 W4 := (Fr.refl _ _).drew.trans0 hf4
      have hfr4 : Fr (fun _ => False) wr W4 := (unhide HG3).1.trans0 hf34
      have hF4' : OwF W4 wr.heap.size v q.F := ownsRow_base hF4 (unhide HG3).1.size
      have hhv : W4.ownsRow W2.heap.size 49 35 (.slice vo j vc) j (R.flatMap hmsg) := ownsRow_of_block (unhide HF).2.2.1.h (fun x hx => hfr4.block x ((unhide HF).2.2.1.h.lt x hx).2 (fun h => h))
      have hbb : W2.heap.size ≤ W4.heap.size := Nat.le_trans (unhide HF).2.2.1.fr.size hfr4.size
      have hj4 : j ≤ 100000 := by have h1 := (unhide HF).2.2.2.2.2.2.2; have h2 := wl_len cs; have h3 := (unhide HX).len; omega
      obtain ⟨ao5, cap5, W5, hap5, ho5, hf5, ht5⟩ := app_ms W4 W2.heap.size j (.slice vo j vc) (R.flatMap hmsg) (hmsg (q.r.re v)) rfl (hmsg_one _ hov) hhv hbb hj4
      have hap5' : (Builtin.append_ #[39, 39] 39 #[.slice vo j vc, .slice (some ⟨W4.heap.size, 0, none⟩) 1 1]).run Try.prog (W4.alloc (.cells #[.int .u8 1, .int .u32 (q.r.cl : Nat), .int .u32 (q.r.nu : Nat), .int .u32 (q.r.ac : Nat), .int .u8 (q.r.op : Nat), .int .u32 (q.r.rc : Nat), .int .u32 (q.r.ve : Nat), .int .u32 (q.r.wa : Nat), .int .u32 (q.r.ow : Nat), v, .string q.r.rs, .int .u32 0, .int .u32 0, .int .u32 0, .int .u32 0, .int .u8 0, .int .u32 0, .int .u32 0, .slice none 0 0, .slice none 0 0, .int .u8 0, .int .u32 0, .int .u32 0, .int .u32 0, .int .u32 0, .int .u8 0, .int .u32 0, .int .u32 0, .int .u32 0, .int .u32 0, .slice none 0 0, .string ⟨#[]⟩, .int .u8 0, .slice none 0 0, .int .u32 0] 49)) = .ok (.slice ao5 (j + 1) cap5) W5 := hap5
      have hb5 : W5.heap[wr.heap.size]? = some (.cells #[.int .u32 (c : Nat), .int .u32 (k : Nat)] 29) := by
        have hb4 := (hf34.block _ (lt_of_block (unhide HG3).2) (fun h => h)).trans (unhide HG3).2
        refine (hf5.block _ (lt_of_block hb4) (fun e => ?_)).trans hb4
        have := ((unhide HF).2.2.1.h.lt _ e).2
        omega
      have hcd5 : W5.cell? ⟨d, 1, none⟩ = some (.map (some mw)) := by
        have h4 := (hfr4.cell (p := ⟨d, 1, none⟩) hdl (fun h => h)).trans (unhide HCD)
        refine (hf5.cell (p := ⟨d, 1, none⟩) (lt_of_cell h4) (fun e => ?_)).trans h4
        obtain ⟨cur, hc⟩ := own_blk (unhide HF).2.2.1.h e
        have hbd := ((unhide HX).fr0 ((unhide HF).1.trans0 (unhide HF).2.2.1.fr)).blk
        rw [hbd] at hc
        simp at hc
      have hlk5 : (Instr.lookup 83 (.map (some mw)) (.agg #[.int .u32 (c : Nat), .int .u32 (k : Nat)]) false).run Try.prog W5 = .ok (.agg #[.int .u32 (q.r.cl : Nat), .int .u32 (q.r.nu : Nat), .int .u32 (q.r.ac : Nat), .int .u8 (q.r.op : Nat), .int .u32 (q.r.rc : Nat), .int .u32 (q.r.ve : Nat), .int .u32 (q.r.wa : Nat), .int .u32 (q.r.ow : Nat), q.r.fv, .string q.r.rs, .int .i64 q.la, .int .i64 (q.n : Nat)]) W5 := by
        have hs5 := ((unhide HX).fr0 ((unhide HF).1.trans0 ((unhide HF).2.2.1.fr.trans0 hfr4))).wm
        obtain ⟨e1, c1, hb1⟩ := hs5.blk
        have hne : ¬ (Value.slice vo j vc).ownBlock = some mw := fun e => by
          obtain ⟨cur, hc⟩ := own_blk hhv e
          rw [hb1] at hc
          cases hc
        have hk5 := hs5.keep (w' := W5) (hf5.block mw (lt_of_block hb1) hne)
        obtain ⟨i, q2, hki, hq2, hd2⟩ : ∃ i q2, k = i + 1 ∧ cs[i]? = some q2 ∧ q2.d = none := by
          have hkm := (wl_mem cs k).1 (List.mem_of_getElem? (unhide HF).2.2.2.1)
          unfold fW at hkm
          split at hkm
          · cases hkm
          · rename_i hk0
            cases hq : cs[k - 1]? with
            | none => rw [hq] at hkm; cases hkm
            | some q2 =>
              rw [hq] at hkm
              refine ⟨k - 1, q2, by omega, hq, ?_⟩
              cases hd : q2.d with
              | none => rfl
              | some x => simp [hd] at hkm
        have hqq : q2 = q := by
          have := (unhide HF).2.2.2.2.1
          rw [hki, Nat.add_sub_cancel, hq2] at this
          exact Option.some.inj this
        subst hqq
        have hc16 := (unhide HX).c16
        have hln := (unhide HX).len
        have hil := (List.getElem?_eq_some_iff.1 hq2).1
        have := (hk5.look_yes (by omega) Try.underlying83 (Try.zeroValue89 W5) (k := k) (by omega) (by rw [hki]; exact fW_at hq2 hd2)).2
        exact this
      have HAP5 := hide hap5'
      have H5 := hide (And.intro ho5 (And.intro hf5 (And.intro ht5 (And.intro hfr4 (And.intro hF4' (And.intro hbb (And.intro hj4 hb5)))))))
      have HS55 := hide (And.intro hcd5 (And.intro (cell_of_blk hb5 rfl : W5.cell? ⟨wr.heap.size, 0, none⟩ = some (.int .u32 (c : Nat))) (And.intro (cell_of_blk hb5 rfl : W5.cell? ⟨wr.heap.size, 1, none⟩ = some (.int .u32 (k : Nat))) hlk5)))
      clear hap5 hap5' ho5 hf5 ht5 hfr4 hF4' hbb hj4 hb5 hcd5 hlk5 hhv hF4 hf4
      simp only [RQ.v]
      try dsimp only
      refine hK.out _ _ ((unhide HS5) _ hf34) (fun hHeld => ?_)
      clear hK K
      (try simp only [Act.put, nrm])
      refine wtk2 (i := 9) rfl hHeld ?_
      (try simp only [Act.put, nrm])
      refine wpAnyH_ready (rs := [10]) (by kernel_rfl) (by simp) (AllReadyH.cons rfl (fun K hK => ?_) AllReadyH.nil)
      go_simp
      refine hK.out _ _ ((unhide HS5) _ (hf34.alloc _)) (fun hHeld => ?_)
      clear hK K
      (try simp only [Act.put, nrm])
      clear hf34
      refine wpAnyH_ready (rs := [11]) (by kernel_rfl) (by simp) (AllReadyH.cons rfl (fun K hK => ?_) AllReadyH.nil)
      refine step_app rfl (.tmp 16) (.tmp 26) 39 39 rfl _ _ _ (by simp [Act.eval]) (by simp [Act.eval]) (unhide HAP5) ?_
      refine hK.out _ _ (unhide HS55) (fun hHeld => ?_)
      clear hK K
      (try simp only [Act.put, nrm])
      refine wtk2 (i := 12) rfl hHeld ?_
      (try simp only [Act.put, nrm])
      refine wpAnyH_done (by kernel_rfl) ?_ _
      clear hHeld HS5 HAP5 HL hov
      have e0 := (unhide HS55).2.1
      have e1 := (unhide HS55).2.2.1
      clear HS55
      have h5 := unhide H5
      have htv : W5.ownsRow W2.heap.size 49 35 (.slice to_ j tc) j (((wl cs).take j).flatMap (tmsg c)) := by
        have h4 := ownsRow_of_block (w' := W4) (unhide HF).2.2.1.t (fun x hx => h5.2.2.2.1.block x ((unhide HF).2.2.1.t.lt x hx).2 (fun h => h))
        exact ownsRow_of_block h4 (fun x hx => h5.2.1.block x (h4.lt x hx).2 (fun e => (unhide HF).2.2.1.ap x e hx))
      obtain ⟨ao6, cap6, W6, hap6, ho6, hf6, ht6⟩ := app_ms W5 W2.heap.size j (.slice to_ j tc) _ (tmsg c k) rfl (tmsg_one c k) htv (Nat.le_trans h5.2.2.2.2.2.1 h5.2.1.size) h5.2.2.2.2.2.2.1
      have hap6' : (Builtin.append_ #[39, 39] 39 #[.slice to_ j tc, .slice (some ⟨W5.heap.size, 0, none⟩) 1 1]).run Try.prog (W5.alloc (.cells #[.int .u8 2, .int .u32 0, .int .u32 0, .int .u32 0, .int .u8 0, .int .u32 0, .int .u32 0, .int .u32 0, .int .u32 0, .slice none 0 0, .string ⟨#[]⟩, .int .u32 (c : Nat), .int .u32 (k : Nat), .int .u32 0, .int .u32 0, .int .u8 0, .int .u32 0, .int .u32 0, .slice none 0 0, .slice none 0 0, .int .u8 0, .int .u32 0, .int .u32 0, .int .u32 0, .int .u32 0, .int .u8 0, .int .u32 0, .int .u32 0, .int .u32 0, .int .u32 0, .slice none 0 0, .string ⟨#[]⟩, .int .u8 0, .slice none 0 0, .int .u32 0] 49)) = .ok (.slice ao6 (j + 1) cap6) W6 := hap6
      have hO6 := (unhide HF).2.2.1.step h5.2.2.2.1 (unhide HF).2.2.2.1 (unhide HF).2.2.2.2.1 h5.2.2.2.2.1 h5.1 h5.2.1 h5.2.2.1 ho6 hf6 ht6
      have HAP6 := hide hap6'
      have HO6 := hide hO6
      clear h5 htv hap6 hap6' ho6 hf6 ht6 hO6 H5
      go_wp2_with (at_builtin; refine wpList_app rfl (.tmp 28) (.tmp 31) 39 39 rfl _ _ _ rfl rfl (unhide HAP6) ?_)
      all_goals
        go_step3
        have hF := unhide HF
        have hDE := unhide HDE
        refine ⟨rfl, ⟨W2, g, cap, hF.1, hF.2.1, j + 1, _, _, _, _, _, _, _, _, _, _, _, _, _, _, _, _, _, _, _, _, _, _, _, _, _, _, _, _, _, _, _, _, _, _, _, rfl, by omega, unhide HO6, ?_⟩, by simp only [muO, lenSl]; have h1 := hF.2.2.2.2.2.2.1; show D < M; omega⟩
      · obtain rfl : D = 0 := by omega
        exact .inr ⟨by omega, _, _, rfl⟩
      · by_cases h0 : D = 0
        · subst h0
          exact .inr ⟨by omega, _, _, rfl⟩
        · refine .inl ⟨by omega, ?_⟩
          have e1 : (wl cs).length - (j + 1) = D := by omega
          have e2 : cap - (j + 1) = E := by omega
          rw [e1, e2]
          rfl
    · have HE : Hid (∃ W2 R, Fr (fun _ => False) w W2 ∧ OutI W2 wr c cs (wl cs).length hv tv R) := hide ⟨W2, R, hf2, hO⟩
      clear hrow hO hM hf2 hj HX
      go_wp2_with fail
      simp only [Exit.jump]
      go_ret2
      exact ⟨_, _, rfl, unhide HE⟩
end Go.Proofs.Ytfaponkpgcdgkaa
