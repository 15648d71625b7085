import Derived.Test.YtkiepcdncegniaaZbo
import Derived.Laws.StructEq
import Derived.BigQuiet
namespace Go.Proofs.Ytkiepcdncegniaa
open Go.RowKit Go.Maps

/-- A request with another list. -/
def RQ.re (r : RQ) (v : Value) : RQ := ⟨r.cl, r.nu, r.ac, r.op, r.rc, r.ve, r.wa, r.ow, v, r.rs⟩
/-- Out, between two rounds. -/
structure OutI (W2 wr : World) (c : Nat) (cs : List SC) (j : Nat) (hv tv : Value) (R : List RQ) : Prop where
  fr : Fr (fun _ => False) W2 wr
  h : wr.ownsRow W2.heap.size 49 35 hv j (R.flatMap hmsg)
  t : wr.ownsRow W2.heap.size 49 35 tv j (((wl cs).take j).flatMap (tmsg c))
  ap : ∀ g, hv.ownBlock = some g → tv.ownBlock ≠ some g
  rl : R.length = j
  rr : ∀ (i : Nat) r, R[i]? = some r → ∃ k q, (wl cs)[i]? = some k ∧ cs[k - 1]? = some q ∧ ∃ v, r = (q.r.re v) ∧ OwF wr W2.heap.size v q.F
theorem OutI.step {W2 wr w2 w3 w4 : World} {c : Nat} {cs : List SC} {j : Nat} {hv tv : Value} {R : List RQ} (h : OutI W2 wr c cs j hv tv R) (hf2 : Fr (fun _ => False) wr w2) {k : Nat} {q : SC} {v : Value} (hk : (wl cs)[j]? = some k) (hq : cs[k - 1]? = some q) (hv2 : OwF w2 wr.heap.size v q.F)
    {hv' tv' : Value} (h3 : w3.ownsRow W2.heap.size 49 35 hv' (j + 1) (R.flatMap hmsg ++ hmsg (q.r.re v))) (hf3 : Fr (fun g => hv.ownBlock = some g) w2 w3) (ht3 : ∀ g, hv'.ownBlock = some g → hv.ownBlock = some g ∨ w2.heap.size ≤ g)
    (h4 : w4.ownsRow W2.heap.size 49 35 tv' (j + 1) (((wl cs).take j).flatMap (tmsg c) ++ tmsg c k)) (hf4 : Fr (fun g => tv.ownBlock = some g) w3 w4) (ht4 : ∀ g, tv'.ownBlock = some g → tv.ownBlock = some g ∨ w3.heap.size ≤ g) : OutI W2 w4 c cs (j + 1) hv' tv' (R ++ [q.r.re v]) := by
  have hb := h.fr.size
  have hfr : Fr (fun _ => False) W2 w4 := by
    refine ((h.fr.trans0 hf2).trans hf3 (fun g hg e => ?_)).trans hf4 (fun g hg e => ?_)
    · have := (h.h.lt g e).1; omega
    · have := (h.t.lt g e).1; omega
  have hfld : ∀ {b n : Nat} {x : Value} {xs : List Value} {w0 : World}, w0.ownsRow b 79 5 x n xs → (∀ g, x.ownBlock = some g → w2.heap[g]? = w0.heap[g]? ∧ g < w2.heap.size) → w4.ownsRow b 79 5 x n xs := fun hr hk => ownsRow_of_block hr (fun g hg => by
    obtain ⟨k1, k2⟩ := hk g hg
    obtain ⟨cur, hc⟩ := own_blk hr hg
    have e2 : w2.heap[g]? = some (.cells cur 79) := k1.trans hc
    have n3 : ¬ hv.ownBlock = some g := fun e => by
      obtain ⟨c1, hc1⟩ := own_blk h.h e
      have := (hf2.block g (lt_of_block hc1) (fun h => h)).trans hc1
      rw [e2] at this
      simp at this
    have e3 := (hf3.block g k2 n3).trans e2
    have n4 : ¬ tv.ownBlock = some g := fun e => by
      obtain ⟨c1, hc1⟩ := own_blk h.t e
      have := (hf2.block g (lt_of_block hc1) (fun h => h)).trans hc1
      rw [e2] at this
      simp at this
    rw [hf4.block g (lt_of_block e3) n4, e3]
    exact hc.symm)
  have htk : (wl cs).take (j + 1) = (wl cs).take j ++ [k] := by rw [List.take_add_one, hk]; rfl
  refine ⟨hfr, ?_, ?_, fun g hg e => ?_, by simp [h.rl], fun i r hi => ?_⟩
  · rw [List.flatMap_append]
    simp only [List.flatMap_cons, List.flatMap_nil, List.append_nil]
    refine ownsRow_of_block h3 (fun g hg => hf4.block g (h3.lt g hg).2 (fun e => ?_))
    rcases ht3 g hg with e1 | e1
    · exact h.ap g e1 e
    · have := (h.t.lt g e).2
      have := hf2.size
      omega
  · rw [htk, List.flatMap_append]
    simpa using h4
  · rcases ht3 g hg with e1 | e1
    · rcases ht4 g e with e2 | e2
      · exact h.ap g e1 e2
      · have h5 := (h.h.lt g e1).2
        have h6 := hf2.size
        have h7 := hf3.size
        omega
    · rcases ht4 g e with e2 | e2
      · have h5 := (h.t.lt g e2).2
        have h6 := hf2.size
        omega
      · have h5 := (h3.lt g hg).2
        omega
  · by_cases e : i < R.length
    · rw [List.getElem?_append_left e] at hi
      obtain ⟨k', q', a1, a2, v', a3, a4⟩ := h.rr i r hi
      exact ⟨k', q', a1, a2, v', a3, hfld a4 (fun g hg => ⟨hf2.block g (a4.lt g hg).2 (fun h => h), Nat.lt_of_lt_of_le (a4.lt g hg).2 hf2.size⟩)⟩
    · have hil := (List.getElem?_eq_some_iff.1 hi).1
      simp at hil
      obtain rfl : i = R.length := by omega
      rw [List.getElem?_concat_length] at hi
      cases hi
      rw [h.rl]
      exact ⟨k, q, hk, hq, v, rfl, ownsRow_base (hfld hv2 (fun g hg => ⟨rfl, (hv2.lt g hg).2⟩)) hb⟩
def lenSl : Value → Nat
  | .slice _ n _ => n
  | _ => 0
/-- What is left of the ids. -/
def LeftI (lv : Value) (g n cap j : Nat) : Prop := (j < n ∧ lv = .slice (some ⟨g, 2 * j, none⟩) (n - j) (cap - j)) ∨ (j = n ∧ ∃ lo lc, lv = .slice lo 0 lc)
theorem LeftI.len {lv : Value} {g n cap j : Nat} (h : LeftI lv g n cap j) : lenSl lv = n - j := by
  rcases h with ⟨h1, rfl⟩ | ⟨h1, lo, lc, rfl⟩
  · rfl
  · simp [lenSl]; omega
/-- What holds at the label. -/
def OutJ (W2 : World) (d c g cap : Nat) (cs : List SC) (a : Act) (wr : World) : Prop :=
  ∃ (j : Nat) (hv tv lv : Value) (R : List RQ) (u1 u5 u6 u7 u8 u9 u10 u11 u12 u13 u14 u15 u16 u17 u18 u19 u20 u21 u22 u23 u24 u25 u26 u27 u28 u29 u30 u31 u32 u33 u34 : Value), a = { tmps := #[.pointer (some ⟨d, 0, none⟩), u1, hv, tv, lv, u5, u6, u7, u8, u9, u10, u11, u12, u13, u14, u15, u16, u17, u18, u19, u20, u21, u22, u23, u24, u25, u26, u27, u28, u29, u30, u31, u32, u33, u34], defers := [] } ∧ j ≤ (wl cs).length ∧ OutI W2 wr c cs j hv tv R ∧ LeftI lv g (wl cs).length cap j
def muO (a : Act) (_ : World) : Nat := lenSl (a.tmps.getD 4 undef)
end Go.Proofs.Ytkiepcdncegniaa

namespace Go.Proofs.Ytkiepcdncegniaa
open Go.RowKit Go.Maps

theorem left_cells {w : World} {base g cap n : Nat} {ks : List Nat} {c : Nat} (h : w.ownsRow base 29 2 (.slice (some ⟨g, 0, none⟩) n cap) n (icells (ks.map fun k => (c, k)))) {j k : Nat} (hk : ks[j]? = some k) : w.cell? ⟨g, 2 * j, none⟩ = some (.int .u32 (c : Nat)) ∧ w.cell? ⟨g, 2 * j + 1, none⟩ = some (.int .u32 (k : Nat)) := by
  have hl := (List.getElem?_eq_some_iff.1 hk).1
  have hn : n * 2 = ks.length * 2 := by have := h.1; rw [icells_len, List.length_map] at this; omega
  have hkk : (ks.map fun k => (c, k))[j]? = some (c, k) := by simp [hk]
  have e : ∀ i, i < 2 → (icells (ks.map fun k => (c, k)))[2 * j + i]? = (icell (c, k))[i]? := fun i hi => by
    rw [icells_get _ _ (by simp; omega)]
    have e1 : (2 * j + i) / 2 = j := by omega
    have e2 : (2 * j + i) % 2 = i := by omega
    rw [e1, e2, getElem!_pos (ks.map fun k => (c, k)) j (by simpa using hl)]
    have e3 : (ks.map fun k => (c, k))[j]'(by simpa using hl) = (c, k) := (List.getElem?_eq_some_iff.1 hkk).2
    rw [e3]
    match i, hi with
    | 0, _ => rfl
    | 1, _ => rfl
  exact ⟨(h.cellAt (2 * j) (by omega)).trans (by have := e 0 (by omega); simpa [icell] using this), (h.cellAt (2 * j + 1) (by omega)).trans (by have := e 1 (by omega); simpa [icell] using this)⟩
theorem fieldRq (x0 x1 x2 x3 x4 x5 x6 x7 x8 x9 x10 x11 : Value) (w : World) : (Instr.field 89 (.agg #[x0, x1, x2, x3, x4, x5, x6, x7, x8, x9, x10, x11]) 0).run Try.prog w = .ok (.agg #[x0, x1, x2, x3, x4, x5, x6, x7, x8, x9]) w := by kernel_rfl
/-- What holds at Out's label, whatever Waiting told. -/
def OutK (w : World) (d c : Nat) (cs : List SC) (a : Act) (wr : World) : Prop := ∃ W2 g cap, Fr (fun _ => False) w W2 ∧ ((wl cs).length = 0 ∨ W2.ownsRow w.heap.size 29 2 (.slice (some ⟨g, 0, none⟩) (wl cs).length cap) (wl cs).length (icells ((wl cs).map fun k => (c, k)))) ∧ OutJ W2 d c g cap cs a wr
set_option maxRecDepth 100000 in
set_option maxHeartbeats 8000000 in
/-- Out. -/
theorem sout_any (d mw ma c : Nat) (cs : List SC) (dn : List Nat) (dv : Value) (T : Nat → Prop) (w : World) (h : SsAt w d mw ma c cs dn dv T) :
    Calls Try.prog 13 #[.pointer (some ⟨d, 0, none⟩)] w fun e w' => ∃ hv tv, e = .returned (.tuple #[hv, tv]) ∧ ∃ W2 R, Fr (fun _ => False) w W2 ∧ OutI W2 w' c cs (wl cs).length hv tv R := by
  have HC := hide (swaiting_any d mw ma c cs dn dv T w h)
  have HX := hide h
  clear h
  go_enter Try.func13, Try.ntmps13
  go_wp2_with fail
  refine wp_scope1d 0 (OutK w d c cs) muO rfl ?_ ?_
  · go_wp2_with fail
    refine (unhide HC).mono ?_
    rintro e W2 ⟨v, rfl, hrow, hf2⟩
    have hlen : ((wl cs).map fun k => (c, k)).length = (wl cs).length := by simp
    unfold OwI at hrow
    rw [hlen] at hrow
    have HR := hide (And.intro hrow hf2)
    clear hrow hf2 HC
    go_wp2_with fail
    have hrow := (unhide HR).1
    have hO : OutI W2 W2 c cs 0 (.slice none 0 0) (.slice none 0 0) [] := ⟨Fr.refl _ _, World.ownsRow_nil _ _ _ _, by rw [List.take_zero]; exact World.ownsRow_nil _ _ _ _, (fun g hg => by cases hg), rfl, (fun i r hi => by simp at hi)⟩
    rcases hrow.2 with ⟨e1, e2⟩ | ⟨g, cap, cur, e1, _⟩
    · exact ⟨W2, 0, 0, (unhide HR).2, .inl e2, 0, _, _, v, [], _, _, _, _, _, _, _, _, _, _, _, _, _, _, _, _, _, _, _, _, _, _, _, _, _, _, _, _, _, _, _, rfl, by omega, hO, .inr ⟨by omega, none, 0, e1⟩⟩
    · refine ⟨W2, g, cap, (unhide HR).2, .inr (by rw [← e1]; exact hrow), 0, _, _, v, [], _, _, _, _, _, _, _, _, _, _, _, _, _, _, _, _, _, _, _, _, _, _, _, _, _, _, _, _, _, _, _, rfl, by omega, hO, ?_⟩
      by_cases h0 : (wl cs).length = 0
      · exact .inr ⟨by omega, some ⟨g, 0, none⟩, cap, by rw [e1, h0]⟩
      · exact .inl ⟨by omega, by rw [e1]; simp⟩
  · clear HC
    intro a wr hJ
    obtain ⟨W2, g, cap, hf2, hrow, j, hv, tv, lv, R, u1, u5, u6, u7, u8, u9, u10, u11, u12, u13, u14, u15, u16, u17, u18, u19, u20, u21, u22, u23, u24, u25, u26, u27, u28, u29, u30, u31, u32, u33, u34, rfl, hj, hO, hL⟩ := hJ
    generalize hMM : muO { tmps := _, defers := _ } wr = M
    have hM : (wl cs).length - j = M := by rw [← hMM, ← hL.len]; rfl
    clear hMM
    dsimp only
    rcases hL with ⟨hlt, rfl⟩ | ⟨rfl, lo, lc, rfl⟩
    · obtain ⟨k, hk⟩ : ∃ k, (wl cs)[j]? = some k := ⟨_, List.getElem?_eq_getElem hlt⟩
      have hrw := hrow.resolve_left (by omega)
      have hrr : wr.ownsRow w.heap.size 29 2 (.slice (some ⟨g, 0, none⟩) (wl cs).length cap) (wl cs).length (icells ((wl cs).map fun k => (c, k))) := ownsRow_of_block hrw (fun x hx => hO.fr.block x (hrw.lt x hx).2 (fun h => h))
      obtain ⟨c0, c1⟩ := left_cells hrr hk
      have hcap : (wl cs).length ≤ cap := by
        rcases hrr.2 with ⟨e, _⟩ | ⟨g', cap', cur, e, _, _, h3, _⟩
        · cases e
        · simp only [Value.slice.injEq] at e; omega
      have hkm := (wl_mem cs k).1 (List.mem_of_getElem? hk)
      obtain ⟨i, q, hki, hq, hd⟩ : ∃ i q, k = i + 1 ∧ cs[i]? = some q ∧ q.d = none := by
        unfold fW at hkm
        split at hkm
        · cases hkm
        · rename_i hk0
          cases hq : cs[k - 1]? with
          | none => rw [hq] at hkm; cases hkm
          | some q =>
            rw [hq] at hkm
            refine ⟨k - 1, q, by omega, hq, ?_⟩
            cases hd : q.d with
            | none => rfl
            | some x => simp [hd] at hkm
      have hfw : Fr (fun _ => False) w wr := hf2.trans0 hO.fr
      have hs := (unhide HX).fr0 hfw
      have hq' : cs[k - 1]? = some q := by rw [hki]; exact hq
      have hQO := (hs.qs q (List.mem_of_getElem? hq)).wt hd
      have HL : Hid (∀ W', Fr (fun _ => False) wr W' → (Instr.lookup 83 (.map (some mw)) (.agg #[.int .u32 (c : Nat), .int .u32 (k : Nat)]) false).run Try.prog W' = .ok (.agg #[.int .u32 (q.r.cl : Nat), .int .u32 (q.r.nu : Nat), .int .u32 (q.r.ac : Nat), .int .u8 (q.r.op : Nat), .int .u32 (q.r.rc : Nat), .int .u32 (q.r.ve : Nat), .int .u32 (q.r.wa : Nat), .int .u32 (q.r.ow : Nat), q.r.fv, .string q.r.rs, .int .i64 q.la, .int .i64 (q.n : Nat)]) W') := hide (fun W' hf => by
        have := (hs.look_w hq hd W' hf).2
        rw [← hki] at this
        exact this)
      have hcd := hs.cells.2.1
      have hdl := lt_of_cell hcd
      have HF := hide (And.intro hf2 (And.intro hrow (And.intro hO (And.intro hk (And.intro hq' (And.intro hQO (And.intro hM hlt)))))))
      have HCD := hide hcd
      have hgl : g < wr.heap.size := lt_of_cell c0
      obtain ⟨vo, vc, rfl⟩ := own_formX hO.h
      obtain ⟨to_, tc, rfl⟩ := own_formX hO.t
      obtain ⟨D, hD⟩ : ∃ D, (wl cs).length - j = D + 1 := ⟨(wl cs).length - j - 1, by omega⟩
      obtain ⟨E, hE⟩ : ∃ E, cap - j = E + 1 := ⟨cap - j - 1, by omega⟩
      have HDE := hide (And.intro hD (And.intro hE hcap))
      rw [hD, hE]
      have n1 : ¬ ((D : Int) + 1 = 0) := by omega
      have hjw : (0 : Int) ≤ 0 := by omega
      clear hf2 hrow hO hk hq hq' hd hQO hM hlt hrw hrr hcap hkm hki hfw hs hcd hD hE hj
      go_wp2_with fail
      obtain ⟨W3, hW3⟩ : ∃ W3, wr.alloc (.cells #[.int .u32 (c : Nat), .int .u32 (k : Nat)] 29) = W3 := ⟨_, rfl⟩
      have hf3 : Fr (fun _ => False) wr W3 := by rw [← hW3]; exact box1 wr _
      have hb3 : W3.heap[wr.heap.size]? = some (.cells #[.int .u32 (c : Nat), .int .u32 (k : Nat)] 29) := by rw [← hW3]; exact heap_alloc_new wr _
      rw [hW3]
      clear hW3
      have HS5 : Hid (∀ W', Fr (fun _ => False) W3 W' → W'.cell? ⟨d, 1, none⟩ = some (.map (some mw)) ∧ W'.cell? ⟨wr.heap.size, 0, none⟩ = some (.int .u32 (c : Nat)) ∧ W'.cell? ⟨wr.heap.size, 1, none⟩ = some (.int .u32 (k : Nat)) ∧ (Instr.lookup 83 (.map (some mw)) (.agg #[.int .u32 (c : Nat), .int .u32 (k : Nat)]) false).run Try.prog W' = .ok (.agg #[.int .u32 (q.r.cl : Nat), .int .u32 (q.r.nu : Nat), .int .u32 (q.r.ac : Nat), .int .u8 (q.r.op : Nat), .int .u32 (q.r.rc : Nat), .int .u32 (q.r.ve : Nat), .int .u32 (q.r.wa : Nat), .int .u32 (q.r.ow : Nat), q.r.fv, .string q.r.rs, .int .i64 q.la, .int .i64 (q.n : Nat)]) W') := hide (fun W' hf => by
        have hb := (hf.block _ (lt_of_block hb3) (fun h => h)).trans hb3
        exact ⟨((hf3.trans0 hf).cell (p := ⟨d, 1, none⟩) hdl (fun h => h)).trans (unhide HCD), cell_of_blk hb rfl, cell_of_blk hb rfl, (unhide HL) W' (hf3.trans0 hf)⟩)
      have HG3 := hide (And.intro hf3 hb3)
      clear hf3 hb3 c0 c1
      refine wp_region_held_drew (S := (fun W => W.cell? ⟨d, 1, none⟩ = some (.map (some mw)) ∧ W.cell? ⟨wr.heap.size, 0, none⟩ = some (.int .u32 (c : Nat)) ∧ W.cell? ⟨wr.heap.size, 1, none⟩ = some (.int .u32 (k : Nat)) ∧ (Instr.lookup 83 (.map (some mw)) (.agg #[.int .u32 (c : Nat), .int .u32 (k : Nat)]) false).run Try.prog W = .ok (.agg #[.int .u32 (q.r.cl : Nat), .int .u32 (q.r.nu : Nat), .int .u32 (q.r.ac : Nat), .int .u8 (q.r.op : Nat), .int .u32 (q.r.rc : Nat), .int .u32 (q.r.ve : Nat), .int .u32 (q.r.wa : Nat), .int .u32 (q.r.ow : Nat), q.r.fv, .string q.r.rs, .int .i64 q.la, .int .i64 (q.n : Nat)]) W)) (by kernel_rfl) ((unhide HS5) _ (Fr.refl _ _).drew) (fun hHeld => ?_)
      have hfq := fieldRq
      refine wtk2 (i := 0) rfl hHeld ?_
      (try simp only [Act.put, nrm])
      refine wtk2 (i := 1) rfl hHeld ?_
      (try simp only [Act.put, nrm])
      refine wtk2 (i := 2) rfl hHeld ?_
      (try simp only [Act.put, nrm])
      refine wtk2 (i := 3) rfl hHeld ?_
      (try simp only [Act.put, nrm])
      refine wtk2 (i := 4) rfl hHeld ?_
      (try simp only [Act.put, nrm])
      refine wtk2 (i := 5) rfl hHeld ?_
      (try simp only [Act.put, nrm])
      refine wtk2 (i := 6) rfl hHeld ?_
      (try simp only [Act.put, nrm])
      refine wtk2 (i := 7) rfl hHeld ?_
      (try simp only [Act.put, nrm])
      clear hfq
      refine wpAnyH_ready (rs := [8]) (by kernel_rfl) (by simp) (AllReadyH.cons rfl (fun K hK => ?_) AllReadyH.nil)
      have HOA := hide (ownReq_any q.r q.F.length (fcells q.F) W3.drew (own_rd ((unhide HF).2.2.2.2.2.1.fr (S := fun _ => False) ((unhide HG3).1.drew) (fun _ _ h => h)).o (fcells_one _)) (unhide HF).2.2.2.2.2.1.l)
      go_simp
      refine (unhide HOA).mono ?_
      rintro e W4 ⟨v, rfl, hF4, hf4⟩
      clear HOA
      have hov := own_one hF4
      have hf34 : Fr (fun _ => False) W3 W4 := (Fr.refl _ _).drew.trans0 hf4
      have hfr4 : Fr (fun _ => False) wr W4 := (unhide HG3).1.trans0 hf34
      have hF4' : OwF W4 wr.heap.size v q.F := ownsRow_base hF4 (unhide HG3).1.size
      have hhv : W4.ownsRow W2.heap.size 49 35 (.slice vo j vc) j (R.flatMap hmsg) := ownsRow_of_block (unhide HF).2.2.1.h (fun x hx => hfr4.block x ((unhide HF).2.2.1.h.lt x hx).2 (fun h => h))
      have hbb : W2.heap.size ≤ W4.heap.size := Nat.le_trans (unhide HF).2.2.1.fr.size hfr4.size
      have hj4 : j ≤ 100000 := by have h1 := (unhide HF).2.2.2.2.2.2.2; have h2 := wl_len cs; have h3 := (unhide HX).len; omega
      obtain ⟨ao5, cap5, W5, hap5, ho5, hf5, ht5⟩ := app_ms W4 W2.heap.size j (.slice vo j vc) (R.flatMap hmsg) (hmsg (q.r.re v)) rfl (hmsg_one _ hov) hhv hbb hj4
      have hap5' : (Builtin.append_ #[39, 39] 39 #[.slice vo j vc, .slice (some ⟨W4.heap.size, 0, none⟩) 1 1]).run Try.prog (W4.alloc (.cells #[.int .u8 1, .int .u32 (q.r.cl : Nat), .int .u32 (q.r.nu : Nat), .int .u32 (q.r.ac : Nat), .int .u8 (q.r.op : Nat), .int .u32 (q.r.rc : Nat), .int .u32 (q.r.ve : Nat), .int .u32 (q.r.wa : Nat), .int .u32 (q.r.ow : Nat), v, .string q.r.rs, .int .u32 0, .int .u32 0, .int .u32 0, .int .u32 0, .int .u8 0, .int .u32 0, .int .u32 0, .slice none 0 0, .slice none 0 0, .int .u8 0, .int .u32 0, .int .u32 0, .int .u32 0, .int .u32 0, .int .u8 0, .int .u32 0, .int .u32 0, .int .u32 0, .int .u32 0, .slice none 0 0, .string ⟨#[]⟩, .int .u8 0, .slice none 0 0, .int .u32 0] 49)) = .ok (.slice ao5 (j + 1) cap5) W5 := hap5
      have hb5 : W5.heap[wr.heap.size]? = some (.cells #[.int .u32 (c : Nat), .int .u32 (k : Nat)] 29) := by
        have hb4 := (hf34.block _ (lt_of_block (unhide HG3).2) (fun h => h)).trans (unhide HG3).2
        refine (hf5.block _ (lt_of_block hb4) (fun e => ?_)).trans hb4
        have := ((unhide HF).2.2.1.h.lt _ e).2
        omega
      have hcd5 : W5.cell? ⟨d, 1, none⟩ = some (.map (some mw)) := by
        have h4 := (hfr4.cell (p := ⟨d, 1, none⟩) hdl (fun h => h)).trans (unhide HCD)
        refine (hf5.cell (p := ⟨d, 1, none⟩) (lt_of_cell h4) (fun e => ?_)).trans h4
        obtain ⟨cur, hc⟩ := own_blk (unhide HF).2.2.1.h e
        have hbd := ((unhide HX).fr0 ((unhide HF).1.trans0 (unhide HF).2.2.1.fr)).blk
        rw [hbd] at hc
        simp at hc
      have hlk5 : (Instr.lookup 83 (.map (some mw)) (.agg #[.int .u32 (c : Nat), .int .u32 (k : Nat)]) false).run Try.prog W5 = .ok (.agg #[.int .u32 (q.r.cl : Nat), .int .u32 (q.r.nu : Nat), .int .u32 (q.r.ac : Nat), .int .u8 (q.r.op : Nat), .int .u32 (q.r.rc : Nat), .int .u32 (q.r.ve : Nat), .int .u32 (q.r.wa : Nat), .int .u32 (q.r.ow : Nat), q.r.fv, .string q.r.rs, .int .i64 q.la, .int .i64 (q.n : Nat)]) W5 := by
        have hs5 := ((unhide HX).fr0 ((unhide HF).1.trans0 ((unhide HF).2.2.1.fr.trans0 hfr4))).wm
        obtain ⟨e1, c1, hb1⟩ := hs5.blk
        have hne : ¬ (Value.slice vo j vc).ownBlock = some mw := fun e => by
          obtain ⟨cur, hc⟩ := own_blk hhv e
          rw [hb1] at hc
          cases hc
        have hk5 := hs5.keep (w' := W5) (hf5.block mw (lt_of_block hb1) hne)
        obtain ⟨i, q2, hki, hq2, hd2⟩ : ∃ i q2, k = i + 1 ∧ cs[i]? = some q2 ∧ q2.d = none := by
          have hkm := (wl_mem cs k).1 (List.mem_of_getElem? (unhide HF).2.2.2.1)
          unfold fW at hkm
          split at hkm
          · cases hkm
          · rename_i hk0
            cases hq : cs[k - 1]? with
            | none => rw [hq] at hkm; cases hkm
            | some q2 =>
              rw [hq] at hkm
              refine ⟨k - 1, q2, by omega, hq, ?_⟩
              cases hd : q2.d with
              | none => rfl
              | some x => simp [hd] at hkm
        have hqq : q2 = q := by
          have := (unhide HF).2.2.2.2.1
          rw [hki, Nat.add_sub_cancel, hq2] at this
          exact Option.some.inj this
        subst hqq
        have hc16 := (unhide HX).c16
        have hln := (unhide HX).len
        have hil := (List.getElem?_eq_some_iff.1 hq2).1
        have := (hk5.look_yes (by omega) Try.underlying83 (Try.zeroValue89 W5) (k := k) (by omega) (by rw [hki]; exact fW_at hq2 hd2)).2
        exact this
      have HAP5 := hide hap5'
      have H5 := hide (And.intro ho5 (And.intro hf5 (And.intro ht5 (And.intro hfr4 (And.intro hF4' (And.intro hbb (And.intro hj4 hb5)))))))
      have HS55 := hide (And.intro hcd5 (And.intro (cell_of_blk hb5 rfl : W5.cell? ⟨wr.heap.size, 0, none⟩ = some (.int .u32 (c : Nat))) (And.intro (cell_of_blk hb5 rfl : W5.cell? ⟨wr.heap.size, 1, none⟩ = some (.int .u32 (k : Nat))) hlk5)))
      clear hap5 hap5' ho5 hf5 ht5 hfr4 hF4' hbb hj4 hb5 hcd5 hlk5 hhv hF4 hf4
      simp only [RQ.v]
      try dsimp only
      refine hK.out _ _ ((unhide HS5) _ hf34) (fun hHeld => ?_)
      clear hK K
      (try simp only [Act.put, nrm])
      refine wtk2 (i := 9) rfl hHeld ?_
      (try simp only [Act.put, nrm])
      refine wpAnyH_ready (rs := [10]) (by kernel_rfl) (by simp) (AllReadyH.cons rfl (fun K hK => ?_) AllReadyH.nil)
      go_simp
      refine hK.out _ _ ((unhide HS5) _ (hf34.alloc _)) (fun hHeld => ?_)
      clear hK K
      (try simp only [Act.put, nrm])
      clear hf34
      refine wpAnyH_ready (rs := [11]) (by kernel_rfl) (by simp) (AllReadyH.cons rfl (fun K hK => ?_) AllReadyH.nil)
      refine step_app rfl (.tmp 16) (.tmp 26) 39 39 rfl _ _ _ (by simp [Act.eval]) (by simp [Act.eval]) (unhide HAP5) ?_
      refine hK.out _ _ (unhide HS55) (fun hHeld => ?_)
      clear hK K
      (try simp only [Act.put, nrm])
      refine wtk2 (i := 12) rfl hHeld ?_
      (try simp only [Act.put, nrm])
      refine wpAnyH_done (by kernel_rfl) ?_ _
      clear hHeld HS5 HAP5 HL hov
      have e0 := (unhide HS55).2.1
      have e1 := (unhide HS55).2.2.1
      clear HS55
      have h5 := unhide H5
      have htv : W5.ownsRow W2.heap.size 49 35 (.slice to_ j tc) j (((wl cs).take j).flatMap (tmsg c)) := by
        have h4 := ownsRow_of_block (w' := W4) (unhide HF).2.2.1.t (fun x hx => h5.2.2.2.1.block x ((unhide HF).2.2.1.t.lt x hx).2 (fun h => h))
        exact ownsRow_of_block h4 (fun x hx => h5.2.1.block x (h4.lt x hx).2 (fun e => (unhide HF).2.2.1.ap x e hx))
      obtain ⟨ao6, cap6, W6, hap6, ho6, hf6, ht6⟩ := app_ms W5 W2.heap.size j (.slice to_ j tc) _ (tmsg c k) rfl (tmsg_one c k) htv (Nat.le_trans h5.2.2.2.2.2.1 h5.2.1.size) h5.2.2.2.2.2.2.1
      have hap6' : (Builtin.append_ #[39, 39] 39 #[.slice to_ j tc, .slice (some ⟨W5.heap.size, 0, none⟩) 1 1]).run Try.prog (W5.alloc (.cells #[.int .u8 2, .int .u32 0, .int .u32 0, .int .u32 0, .int .u8 0, .int .u32 0, .int .u32 0, .int .u32 0, .int .u32 0, .slice none 0 0, .string ⟨#[]⟩, .int .u32 (c : Nat), .int .u32 (k : Nat), .int .u32 0, .int .u32 0, .int .u8 0, .int .u32 0, .int .u32 0, .slice none 0 0, .slice none 0 0, .int .u8 0, .int .u32 0, .int .u32 0, .int .u32 0, .int .u32 0, .int .u8 0, .int .u32 0, .int .u32 0, .int .u32 0, .int .u32 0, .slice none 0 0, .string ⟨#[]⟩, .int .u8 0, .slice none 0 0, .int .u32 0] 49)) = .ok (.slice ao6 (j + 1) cap6) W6 := hap6
      have hO6 := (unhide HF).2.2.1.step h5.2.2.2.1 (unhide HF).2.2.2.1 (unhide HF).2.2.2.2.1 h5.2.2.2.2.1 h5.1 h5.2.1 h5.2.2.1 ho6 hf6 ht6
      have HAP6 := hide hap6'
      have HO6 := hide hO6
      clear h5 htv hap6 hap6' ho6 hf6 ht6 hO6 H5
      go_wp2_with (at_builtin; refine wpList_app rfl (.tmp 28) (.tmp 31) 39 39 rfl _ _ _ rfl rfl (unhide HAP6) ?_)
      all_goals
        go_step3
        have hF := unhide HF
        have hDE := unhide HDE
        refine ⟨rfl, ⟨W2, g, cap, hF.1, hF.2.1, j + 1, _, _, _, _, _, _, _, _, _, _, _, _, _, _, _, _, _, _, _, _, _, _, _, _, _, _, _, _, _, _, _, _, _, _, _, rfl, by omega, unhide HO6, ?_⟩, by simp only [muO, lenSl]; have h1 := hF.2.2.2.2.2.2.1; show D < M; omega⟩
      · obtain rfl : D = 0 := by omega
        exact .inr ⟨by omega, _, _, rfl⟩
      · by_cases h0 : D = 0
        · subst h0
          exact .inr ⟨by omega, _, _, rfl⟩
        · refine .inl ⟨by omega, ?_⟩
          have e1 : (wl cs).length - (j + 1) = D := by omega
          have e2 : cap - (j + 1) = E := by omega
          rw [e1, e2]
          rfl
    · have HE : Hid (∃ W2 R, Fr (fun _ => False) w W2 ∧ OutI W2 wr c cs (wl cs).length hv tv R) := hide ⟨W2, R, hf2, hO⟩
      clear hrow hO hM hf2 hj HX
      go_wp2_with fail
      simp only [Exit.jump]
      go_ret2
      exact ⟨_, _, rfl, unhide HE⟩
end Go.Proofs.Ytkiepcdncegniaa

namespace Go.Proofs.Ytkiepcdncegniaa
open Go.RowKit Go.Maps

theorem Try.held_id : Try.prog.stoodInHeld 29 = false := by kernel_rfl
theorem Try.fields_id : Try.prog.underlying 29 = some (.struct (Try.prog.fieldsOf 29)) := by kernel_rfl
theorem nat_eq (a b : Nat) : ((a : Int) == (b : Int)) = decide (a = b) := by
  by_cases h : a = b
  · subst h; simp
  · have : ¬ ((a : Int) = (b : Int)) := by omega
    simp [h, this]
theorem eql_id (a b c d : Nat) (w : World) : (binOp .eql 29 (.agg #[.int .u32 (a : Nat), .int .u32 (b : Nat)]) (.agg #[.int .u32 (c : Nat), .int .u32 (d : Nat)])).run Try.prog w = .ok (.bool (decide (a = c) && decide (b = d))) w := by
  rw [run_eql_struct, show (10000 : Nat) = 9999 + 1 from rfl, run_equalIn_agg _ 9999 _ _ _ Try.fields_id Try.held_id]
  by_cases h1 : a = c <;> by_cases h2 : b = d <;> simp [Program.fieldsOf, Try.underlying29, Op.eqFields, go_sem, h1, h2, nat_eq]
theorem neq_id (a b c d : Nat) (w : World) : (binOp .neq 29 (.agg #[.int .u32 (a : Nat), .int .u32 (b : Nat)]) (.agg #[.int .u32 (c : Nat), .int .u32 (d : Nat)])).run Try.prog w = .ok (.bool (!(decide (a = c) && decide (b = d)))) w := by
  rw [run_neq_struct, show (10000 : Nat) = 9999 + 1 from rfl, run_equalIn_agg _ 9999 _ _ _ Try.fields_id Try.held_id]
  by_cases h1 : a = c <;> by_cases h2 : b = d <;> simp [Program.fieldsOf, Try.underlying29, Op.eqFields, go_sem, h1, h2, nat_eq]
/-- What create tells. -/
def crR : RQ := ⟨0, 0, 1, 1, 0, 0, 7, 6, .slice none 0 0, ⟨#[]⟩⟩
set_option maxRecDepth 100000 in
theorem create_any (w : World) : Calls Try.prog 11 #[] w fun e w' => e = .returned crR.v ∧ Fr (fun _ => False) w w' := by
  go_enter Try.func11, Try.ntmps11
  go_wp2_with fail
  refine bodyPost_ret (results_cell_mid rfl _ _ w.heap.size 0 crR.cs _ rfl (range_of_block (t := 34) (heap_alloc_new w _)) Try.underlying34 rfl Try.sizeRq) rfl ?_
  exact ⟨rfl, box1 w _⟩
/-- What answered tells. -/
def ansA (c k r : Nat) : AN := ⟨c, k, 0, r, 1, .slice none 0 0, .slice none 0 0⟩
def ansM (c k r : Nat) : List Value := .int .u8 3 :: (zR ++ ([.int .u32 0, .int .u32 0] ++ ((ansA c k r).cs ++ (.int .u8 0 :: (zE ++ [.int .u32 0])))))
theorem ansM_x (c k r : Nat) : MsX (ansM c k r) 3 0 0 0 (ansA c k r) := ⟨rfl, rfl, rfl, fun j v hj => by
  have hl := (List.getElem?_eq_some_iff.1 hj).1
  have h7 : j < 7 := hl
  match j, h7 with
  | 0, _ => exact hj
  | 1, _ => exact hj
  | 2, _ => exact hj
  | 3, _ => exact hj
  | 4, _ => exact hj
  | 5, _ => exact hj
  | 6, _ => exact hj, rfl⟩
def zM : List Value := .int .u8 0 :: (zR ++ ([.int .u32 0, .int .u32 0] ++ (zA ++ (.int .u8 0 :: (zE ++ [.int .u32 0])))))
theorem ansM_one (c k r : Nat) : ∀ v ∈ ansM c k r, v.oneCell' = true := List.all_eq_true.1 (show List.all (ansM c k r) (fun v => v.oneCell') = true from rfl)
set_option maxRecDepth 100000 in
set_option maxHeartbeats 4000000 in
theorem answered_any (c k r : Nat) (w : World) : Calls Try.prog 16 #[.int .u32 (c : Nat), .int .u32 (k : Nat), .int .u32 (r : Nat)] w fun e w' => e = .returned (.agg (ansM c k r).toArray) ∧ Fr (fun _ => False) w w' := by
  have hb : ((w.alloc (.cells zM.toArray 49)).alloc (.cells #[.int .u32 (c : Nat), .int .u32 (k : Nat)] 29)).heap[w.heap.size]? = some (.cells zM.toArray 49) := (Below.heap_alloc _ _ _ (by simp)).trans (heap_alloc_new w _)
  obtain ⟨W8, hst, hb8, hf8⟩ := st_all (P := Try.prog) (ty := 49) zM (ansM c k r) hb rfl Try.sizeMs (ansM_one c k r)
  have hfin : Fr (fun _ => False) w W8 := ((box1 w _).alloc _).trans hf8 (fun g hg e => by omega)
  have HST := hide hst
  have HE := hide (And.intro (range_of_block hb8) hfin)
  clear hb hst hb8 hf8 hfin
  go_enter Try.func16, Try.ntmps16
  go_wp2_with (refine wpList_stN rfl 49 (.tmp 6) (.tmp 14) rfl _ _ rfl rfl (unhide HST) ?_)
  refine bodyPost_ret (results_cell_mid rfl _ _ w.heap.size 0 _ _ rfl (unhide HE).1 Try.underlying49 rfl Try.sizeMs) rfl ?_
  exact ⟨rfl, (unhide HE).2⟩
end Go.Proofs.Ytkiepcdncegniaa

namespace Go.Proofs.Ytkiepcdncegniaa
open Go.RowKit Go.Maps

theorem SsAt.mono {w : World} {d mw ma c : Nat} {cs : List SC} {dn : List Nat} {dv : Value} {T T' : Nat → Prop} (h : SsAt w d mw ma c cs dn dv T) (hT : ∀ g, T g → T' g) (hl : ∀ g, T' g → g < w.heap.size) : SsAt w d mw ma c cs dn dv T' :=
  ⟨h.c16, h.len, h.blk, h.wm, h.am, h.dn.mono hT, fun q hq => ⟨fun e => ((h.qs q hq).wt e).mono hT, fun x e => ⟨((h.qs q hq).an x e).1.mono hT, ((h.qs q hq).an x e).2.mono hT⟩⟩, h.id, ⟨hT _ h.own.1, hT _ h.own.2.1, hT _ h.own.2.2⟩, h.ap, hl⟩
/-- A session, wherever its maps lie. -/
def SS (w : World) (d c : Nat) (cs : List SC) (dn : List Nat) (T : Nat → Prop) : Prop := ∃ mw ma dv, SsAt w d mw ma c cs dn dv T
/-- The session's blocks, and those made since. -/
def Tn (T : Nat → Prop) (w w' : World) (g : Nat) : Prop := T g ∨ Nb w w' g
theorem SS.fr {w w' : World} {d c : Nat} {cs : List SC} {dn : List Nat} {T S : Nat → Prop} (h : SS w d c cs dn T) (hf : Fr S w w') (hS : ∀ g, T g → ¬ S g) : SS w' d c cs dn T := by
  obtain ⟨mw, ma, dv, h⟩ := h
  exact ⟨mw, ma, dv, h.fr hf hS⟩
theorem SS.fr0 {w w' : World} {d c : Nat} {cs : List SC} {dn : List Nat} {T : Nat → Prop} (h : SS w d c cs dn T) (hf : Fr (fun _ => False) w w') : SS w' d c cs dn T := h.fr hf (fun _ _ h => h)
theorem SS.lt {w : World} {d c : Nat} {cs : List SC} {dn : List Nat} {T : Nat → Prop} (h : SS w d c cs dn T) : ∀ g, T g → g < w.heap.size := by
  obtain ⟨mw, ma, dv, h⟩ := h
  exact h.lt
theorem SS.dT {w : World} {d c : Nat} {cs : List SC} {dn : List Nat} {T : Nat → Prop} (h : SS w d c cs dn T) : T d := by
  obtain ⟨mw, ma, dv, h⟩ := h
  exact h.own.1
theorem SS.len {w : World} {d c : Nat} {cs : List SC} {dn : List Nat} {T : Nat → Prop} (h : SS w d c cs dn T) : cs.length ≤ 4096 := by
  obtain ⟨mw, ma, dv, h⟩ := h
  exact h.len
theorem SS.new (c : Nat) (w : World) (hc : c < 16) :
    Calls Try.prog 8 #[.int .u32 (c : Nat)] w fun e w' => ∃ d, e = .returned (.tuple #[.pointer (some ⟨d, 0, none⟩), .int .i64 0]) ∧ SS w' d c [] [] (Nb w w') ∧ Fr (fun _ => False) w w' := by
  refine (snew_in c w hc).mono ?_
  rintro e w' ⟨d, h1, ⟨mw, ma, h2⟩, h3⟩
  exact ⟨d, h1, ⟨mw, ma, _, h2⟩, h3⟩
theorem SS.call {w : World} {d c : Nat} {cs : List SC} {dn : List Nat} {T : Nat → Prop} (h : SS w d c cs dn T) (r : RQ) (F : List F5) (hx : Rd w r.fv F.length 5 (fcells F)) (hl : F.length ≤ 1048576) (hv : ∀ f ∈ F, f.v < 4294967296 ∧ f.u < 256) (hfm : r.frm F = true) (hkl : cs.length < 4096) :
    Calls Try.prog 10 #[.pointer (some ⟨d, 0, none⟩), r.v] w fun e w' => e = .returned (.tuple #[.agg #[.int .u32 (c : Nat), .int .u32 ((cs.length : Int) + 1)], .int .i64 0]) ∧ (∃ v, SS w' d c (cs ++ [⟨⟨c, cs.length + 1, r.ac, r.op, r.rc, r.ve, r.wa, r.ow, v, r.rs⟩, F, 0, 0, none⟩]) dn (Tn T w w')) ∧ Fr T w w' := by
  obtain ⟨mw, ma, dv, h⟩ := h
  refine (scall_ok d mw ma c cs dn dv T w h r F hx hl hv hfm hkl).mono ?_
  rintro e w' ⟨h1, ⟨v, h2⟩, h3⟩
  exact ⟨h1, ⟨v, mw, ma, dv, h2⟩, h3.mono (fun g _ e => by rw [e]; exact h.own.2.1)⟩
theorem SS.bad {w : World} {d c : Nat} {cs : List SC} {dn : List Nat} {T : Nat → Prop} (h : SS w d c cs dn T) (r : RQ) (F : List F5) (hx : Rd w r.fv F.length 5 (fcells F)) (hl : F.length ≤ 1048576) (hv : ∀ f ∈ F, f.v < 4294967296 ∧ f.u < 256) (hfm : r.frm F = false) :
    Calls Try.prog 10 #[.pointer (some ⟨d, 0, none⟩), r.v] w fun e w' => e = .returned (.tuple #[.agg #[.int .u32 0, .int .u32 0], .int .i64 1]) ∧ Fr (fun _ => False) w w' := by
  obtain ⟨mw, ma, dv, h⟩ := h
  exact scall_bad d mw ma c cs dn dv T w h r F hx hl hv hfm
theorem SS.full {w : World} {d c : Nat} {cs : List SC} {dn : List Nat} {T : Nat → Prop} (h : SS w d c cs dn T) (r : RQ) (F : List F5) (hx : Rd w r.fv F.length 5 (fcells F)) (hl : F.length ≤ 1048576) (hv : ∀ f ∈ F, f.v < 4294967296 ∧ f.u < 256) (hfm : r.frm F = true) (hkl : cs.length = 4096) :
    Calls Try.prog 10 #[.pointer (some ⟨d, 0, none⟩), r.v] w fun e w' => e = .returned (.tuple #[.agg #[.int .u32 0, .int .u32 0], .int .i64 2]) ∧ Fr (fun _ => False) w w' := by
  obtain ⟨mw, ma, dv, h⟩ := h
  exact scall_full d mw ma c cs dn dv T w h r F hx hl hv hfm hkl
theorem SS.waiting {w : World} {d c : Nat} {cs : List SC} {dn : List Nat} {T : Nat → Prop} (h : SS w d c cs dn T) :
    Calls Try.prog 17 #[.pointer (some ⟨d, 0, none⟩)] w fun e w' => ∃ v, e = .returned v ∧ OwI w' w.heap.size v ((wl cs).map fun k => (c, k)) ∧ Fr (fun _ => False) w w' := by
  obtain ⟨mw, ma, dv, h⟩ := h
  exact swaiting_any d mw ma c cs dn dv T w h
theorem SS.done {w : World} {d c : Nat} {cs : List SC} {dn : List Nat} {T : Nat → Prop} (h : SS w d c cs dn T) :
    Calls Try.prog 18 #[.pointer (some ⟨d, 0, none⟩)] w fun e w' => ∃ v, e = .returned v ∧ OwI w' w.heap.size v (dn.map fun k => (c, k)) ∧ Fr (fun _ => False) w w' := by
  obtain ⟨mw, ma, dv, h⟩ := h
  exact sdone_any d mw ma c cs dn dv T w h
theorem SS.out {w : World} {d c : Nat} {cs : List SC} {dn : List Nat} {T : Nat → Prop} (h : SS w d c cs dn T) :
    Calls Try.prog 13 #[.pointer (some ⟨d, 0, none⟩)] w fun e w' => ∃ hv tv, e = .returned (.tuple #[hv, tv]) ∧ ∃ W2 R, Fr (fun _ => False) w W2 ∧ OutI W2 w' c cs (wl cs).length hv tv R := by
  obtain ⟨mw, ma, dv, h⟩ := h
  exact sout_any d mw ma c cs dn dv T w h
/-- Take of an answer of a request that waits. -/
theorem SS.answer {w : World} {d c : Nat} {cs : List SC} {dn : List Nat} {T : Nat → Prop} (h : SS w d c cs dn T) (xs : List Value) (icl inu ico : Nat) (a : AN) (hm : MsX xs 3 icl inu ico a) (i : Nat) (q : SC) (hq : cs[i]? = some q) (hd : q.d = none) (hc : a.cl = c) (hn : a.nu = i + 1) (F : List F5) (H : List SM)
    (hF : Rd w a.fv F.length 5 (fcells F)) (hH : Rd w a.hv H.length 4 (scells H)) (hFl : F.length ≤ 1048576) (hHl : H.length ≤ 1048576) (hdl : dn.length ≤ 1048575) :
    Calls Try.prog 14 #[.pointer (some ⟨d, 0, none⟩), .agg xs.toArray] w fun e w' => ∃ r, e = .returned (.int .i64 r) ∧ r = 0 ∧ (∃ v u, SS w' d c (cs.set i { q with d := some ⟨⟨c, i + 1, a.co, a.rc, a.ve, v, u⟩, F, H⟩ }) (dn ++ [i + 1]) (Tn T w w')) ∧ Fr T w w' := by
  obtain ⟨mw, ma, dv, h⟩ := h
  obtain ⟨cl, nu, co, rc, ve, fv, hv⟩ := a
  simp only at hc hn hF hH
  subst hc
  subst hn
  have hf1 := box1 w (.cells xs.toArray 49)
  refine stake_ans d xs icl inu ico _ hm w _ ?_
  refine (sta_wait d mw ma cl cs dn dv T _ (h.fr0 hf1) i q hq hd co rc ve fv hv F H (hF.fr0 hf1) (hH.fr0 hf1) hFl hHl hdl).mono ?_
  rintro e w' ⟨h1, v, u, dv', h2, h3⟩
  have hfw : Fr T w w' := (hf1.mono (fun _ _ e => e.elim)).trans h3 (fun g _ e => by
    rcases e with e | e | e | e
    · rw [e]; exact h.own.2.1
    · rw [e]; exact h.own.2.2
    · exact h.dn.t g e
    · rw [e]; exact h.own.1)
  refine ⟨0, h1, rfl, ⟨v, u, mw, ma, dv', h2.mono (fun g hg => ?_) (fun g hg => ?_)⟩, hfw⟩
  · rcases hg with hg | hg
    · exact .inl hg
    · exact .inr ⟨Nat.le_trans hf1.size hg.1, hg.2⟩
  · rcases hg with hg | hg
    · exact Nat.lt_of_lt_of_le (h.lt g hg) hfw.size
    · exact hg.2
/-- What is known of an id that was not called. -/
def Unc (c : Nat) (cs : List SC) (cl k : Nat) : Prop := cl = c → k = 0 ∨ cs.length < k
/-- Take of an answer of none. -/
theorem SS.ansNone {w : World} {d c : Nat} {cs : List SC} {dn : List Nat} {T : Nat → Prop} (h : SS w d c cs dn T) (xs : List Value) (icl inu ico : Nat) (a : AN) (hm : MsX xs 3 icl inu ico a) (hu : Unc c cs a.cl a.nu) (hcl : a.cl < 4294967296) (hnu : a.nu < 4294967296) :
    Calls Try.prog 14 #[.pointer (some ⟨d, 0, none⟩), .agg xs.toArray] w fun e w' => ∃ r, e = .returned (.int .i64 r) ∧ r = 15 ∧ Fr (fun _ => False) w w' := by
  obtain ⟨mw, ma, dv, h⟩ := h
  have hf1 := box1 w (.cells xs.toArray 49)
  have h1 := h.fr0 hf1
  refine stake_ans d xs icl inu ico _ hm w _ ?_
  refine (sta_none d mw ma a.cl a.nu a.co a.rc a.ve a.fv a.hv _ h1.cells.2.1 h1.cells.2.2.1 (fun W' hf => (h1.look_wn hcl hnu (fun e => fW_no (hu e)) W' hf).1) (fun W' hf => h1.look_an hcl hnu (fun e => fA_no (hu e)) W' hf)).mono ?_
  rintro e w' ⟨e1, hf⟩
  exact ⟨15, e1, rfl, hf1.trans0 hf⟩
/-- Take of an answer of a request that is answered. -/
theorem SS.ansDone {w : World} {d c : Nat} {cs : List SC} {dn : List Nat} {T : Nat → Prop} (h : SS w d c cs dn T) (xs : List Value) (icl inu ico : Nat) (a : AN) (hm : MsX xs 3 icl inu ico a) (i : Nat) (q : SC) (x : AD) (hq : cs[i]? = some q) (hd : q.d = some x) (hc : a.cl = c) (hn : a.nu = i + 1) (b : Bool)
    (hS : ∀ W', Fr (fun _ => False) w W' → Calls Try.prog 43 #[.agg x.a.cs.toArray, .agg a.cs.toArray] W' fun e w' => e = .returned (.bool b) ∧ Fr (fun _ => False) W' w') :
    Calls Try.prog 14 #[.pointer (some ⟨d, 0, none⟩), .agg xs.toArray] w fun e w' => ∃ r, e = .returned (.int .i64 r) ∧ r = (if b then 0 else 4) ∧ Fr (fun _ => False) w w' := by
  obtain ⟨mw, ma, dv, h⟩ := h
  obtain ⟨cl, nu, co, rc, ve, fv, hv⟩ := a
  simp only at hc hn
  subst hc
  subst hn
  have hf1 := box1 w (.cells xs.toArray 49)
  have h1 := h.fr0 hf1
  have hx := (h.qs q (List.mem_of_getElem? hq)).an x hd
  have h7 : ∀ v ∈ x.a.cs, v.oneCell' = true := AN.one x.a (own_one hx.1.o) (own_one hx.2.o)
  have hc16 := h.c16
  have hil := (List.getElem?_eq_some_iff.1 hq).1
  have hln := h.len
  refine stake_ans d xs icl inu ico _ hm w _ ?_
  cases b with
  | true =>
    refine (sta_same d mw ma cl (i + 1) co rc ve fv hv x.a h7 _ h1.cells.2.1 h1.cells.2.2.1 (fun W' hf => (h1.look_wn (by omega) (by omega) (fun _ => fW_dn hq hd) W' hf).1) (fun W' hf => h1.look_a hq hd W' hf) (fun W' hf => hS W' (hf1.trans0 hf))).mono ?_
    rintro e w' ⟨e1, hf⟩
    exact ⟨0, e1, rfl, hf1.trans0 hf⟩
  | false =>
    refine (sta_other d mw ma cl (i + 1) co rc ve fv hv x.a h7 _ h1.cells.2.1 h1.cells.2.2.1 (fun W' hf => (h1.look_wn (by omega) (by omega) (fun _ => fW_dn hq hd) W' hf).1) (fun W' hf => h1.look_a hq hd W' hf) (fun W' hf => hS W' (hf1.trans0 hf))).mono ?_
    rintro e w' ⟨e1, hf⟩
    exact ⟨4, e1, rfl, hf1.trans0 hf⟩
/-- Take of a refusal of a request that waits. -/
theorem SS.busy {w : World} {d c : Nat} {cs : List SC} {dn : List Nat} {T : Nat → Prop} (h : SS w d c cs dn T) (xs : List Value) (ico : Nat) (a : AN) (i : Nat) (hm : MsX xs 4 c (i + 1) ico a) (hco : ico < 256) (q : SC) (hq : cs[i]? = some q) (hd : q.d = none) (hn : q.n ≤ 1000000000000) :
    Calls Try.prog 14 #[.pointer (some ⟨d, 0, none⟩), .agg xs.toArray] w fun e w' => ∃ r, e = .returned (.int .i64 r) ∧ r = 0 ∧ SS w' d c (cs.set i { q with la := (ico : Nat), n := q.n + 1 }) dn T ∧ Fr T w w' := by
  obtain ⟨mw, ma, dv, h⟩ := h
  have hf1 := box1 w (.cells xs.toArray 49)
  have h1 := h.fr0 hf1
  have hc16 := h.c16
  have hil := (List.getElem?_eq_some_iff.1 hq).1
  have hln := h.len
  have hnw := nWA cs
  refine stake_busy d xs c (i + 1) ico a hm hco w _ ?_
  refine (stb_wait d mw c (i + 1) (ico : Nat) q.la q.n hn q.r.cs rfl (RQ.one q.r (own_one ((h.qs q (List.mem_of_getElem? hq)).wt hd).o)) _ h1.cells.2.1 h.dm.1 (h1.lt mw h1.own.2.1) (fun W => MpR W mw c (nW cs) (fun j => if j = i + 1 then some (SC.v { q with la := (ico : Nat), n := q.n + 1 }) else fW cs j)) (fun W' hf => (h1.look_w hq hd W' hf).1) (fun W' hf => ?_)).mono ?_
  · obtain ⟨W2, a1, a2, a3⟩ := (h1.fr0 hf).wm.put (by omega) (by omega) Try.underlying83 (k := i + 1) (by omega) (SC.v { q with la := (ico : Nat), n := q.n + 1 })
    rw [fW_at hq hd] at a2
    exact ⟨W2, a1, by simpa using a2, a3⟩
  · rintro e w' ⟨e1, hp, w1, hf2, hf3⟩
    have h4 := h1.busy hf2 (q' := { q with la := (ico : Nat), n := q.n + 1 }) hq hd rfl rfl hd hp hf3
    exact ⟨0, e1, rfl, ⟨mw, ma, dv, h4⟩, ((hf1.trans0 hf2).mono (fun _ _ e => e.elim)).trans hf3 (fun g _ e => by rw [e]; exact h.own.2.1)⟩
/-- Take of a refusal of another id. -/
theorem SS.busyDone {w : World} {d c : Nat} {cs : List SC} {dn : List Nat} {T : Nat → Prop} (h : SS w d c cs dn T) (xs : List Value) (ico : Nat) (a : AN) (i : Nat) (hm : MsX xs 4 c (i + 1) ico a) (hco : ico < 256) (q : SC) (x : AD) (hq : cs[i]? = some q) (hd : q.d = some x) :
    Calls Try.prog 14 #[.pointer (some ⟨d, 0, none⟩), .agg xs.toArray] w fun e w' => ∃ r, e = .returned (.int .i64 r) ∧ r = 0 ∧ Fr (fun _ => False) w w' := by
  obtain ⟨mw, ma, dv, h⟩ := h
  have hf1 := box1 w (.cells xs.toArray 49)
  have h1 := h.fr0 hf1
  have hx := (h.qs q (List.mem_of_getElem? hq)).an x hd
  have hc16 := h.c16
  have hil := (List.getElem?_eq_some_iff.1 hq).1
  have hln := h.len
  refine stake_busy d xs c (i + 1) ico a hm hco w _ ?_
  refine (stb_done d mw ma c (i + 1) (ico : Nat) x.a (AN.one x.a (own_one hx.1.o) (own_one hx.2.o)) _ h1.cells.2.1 h1.cells.2.2.1 (fun W' hf => (h1.look_wn (by omega) (by omega) (fun _ => fW_dn hq hd) W' hf).1) (fun W' hf => h1.look_a hq hd W' hf)).mono ?_
  rintro e w' ⟨e1, hf⟩
  exact ⟨0, e1, rfl, hf1.trans0 hf⟩
theorem SS.busyNone {w : World} {d c : Nat} {cs : List SC} {dn : List Nat} {T : Nat → Prop} (h : SS w d c cs dn T) (xs : List Value) (icl inu ico : Nat) (a : AN) (hm : MsX xs 4 icl inu ico a) (hco : ico < 256) (hu : Unc c cs icl inu) (hcl : icl < 4294967296) (hnu : inu < 4294967296) :
    Calls Try.prog 14 #[.pointer (some ⟨d, 0, none⟩), .agg xs.toArray] w fun e w' => ∃ r, e = .returned (.int .i64 r) ∧ r = 15 ∧ Fr (fun _ => False) w w' := by
  obtain ⟨mw, ma, dv, h⟩ := h
  have hf1 := box1 w (.cells xs.toArray 49)
  have h1 := h.fr0 hf1
  refine stake_busy d xs icl inu ico a hm hco w _ ?_
  refine (stb_none d mw ma icl inu (ico : Nat) _ h1.cells.2.1 h1.cells.2.2.1 (fun W' hf => (h1.look_wn hcl hnu (fun e => fW_no (hu e)) W' hf).1) (fun W' hf => h1.look_an hcl hnu (fun e => fA_no (hu e)) W' hf)).mono ?_
  rintro e w' ⟨e1, hf⟩
  exact ⟨15, e1, rfl, hf1.trans0 hf⟩
end Go.Proofs.Ytkiepcdncegniaa

namespace Go.Proofs.Ytkiepcdncegniaa
open Go.RowKit Go.Maps

theorem eql_31 (w : World) : (binOp .eql 29 (.agg #[.int .u32 3, .int .u32 1]) (.agg #[.int .u32 3, .int .u32 1])).run Try.prog w = .ok (.bool true) w := eql_id 3 1 3 1 w
theorem own_one_form {w : World} {base e z n : Nat} {v : Value} {xs : List Value} (h : w.ownsRow base e z v n xs) (hn : 0 < n) : ∃ g cap, v = .slice (some ⟨g, 0, none⟩) n cap ∧ base ≤ g ∧ ∀ i u, xs[i]? = some u → w.cell? ⟨g, i, none⟩ = some u := by
  rcases h.2 with ⟨rfl, e⟩ | ⟨g, cap, cur, rfl, hb, _⟩
  · omega
  · refine ⟨g, cap, rfl, hb, fun i u hu => ?_⟩
    have hi := (List.getElem?_eq_some_iff.1 hu).1
    rw [h.cellAt i (by have := h.1; omega)]
    exact hu
set_option maxRecDepth 100000 in
set_option maxHeartbeats 4000000 in
/-- awake. -/
theorem awake17 (w : World) : Calls Try.prog 9 #[] w fun e w' => e = .returned (.bool true) ∧ Fr (fun _ => False) w w' := by
  go_enter Try.func9, Try.ntmps9
  go_wp2_with fail
  refine (SS.new 3 w (by omega)).mono ?_
  rintro e w1 ⟨d, rfl, hs1, hf1⟩
  have HS1 := hide (And.intro hs1 hf1)
  clear hs1 hf1
  go_wp2_with fail
  refine (create_any _).mono ?_
  rintro e w2 ⟨rfl, hf2⟩
  have HC : Hid (Calls Try.prog 10 #[.pointer (some ⟨d, 0, none⟩), crR.v] w2 fun e w' => e = .returned (.tuple #[.agg #[.int .u32 3, .int .u32 1], .int .i64 0]) ∧ (∃ v, SS w' d 3 [(⟨⟨3, 1, 1, 1, 0, 0, 7, 6, v, ⟨#[]⟩⟩, [], 0, 0, none⟩ : SC)] [] (Tn (Nb w w1) w2 w')) ∧ Fr (Nb w w1) w2 w') := hide (((unhide HS1).1.fr0 hf2).call crR [] (Rd.nil w2 5) (by simp) (fun f hf => by simp at hf) rfl (by simp))
  have HF2 := hide hf2
  clear hf2
  go_wp2_with fail
  refine (unhide HC).mono ?_
  rintro e w3 ⟨rfl, ⟨v, hs3⟩, hf3⟩
  have HS3 := hide (And.intro hs3 hf3)
  clear hs3 hf3 HC
  go_wp2_with fail
  obtain ⟨w4, hw4⟩ : ∃ w4, w3.alloc (.cells #[.int .u32 3, .int .u32 1] 29) = w4 := ⟨_, rfl⟩
  have hf4 : Fr (fun _ => False) w3 w4 := by rw [← hw4]; exact box1 w3 _
  have hb4 : w4.heap[w3.heap.size]? = some (.cells #[.int .u32 3, .int .u32 1] 29) := by rw [← hw4]; exact heap_alloc_new w3 _
  rw [hw4]
  clear hw4
  refine ((unhide HS3).1.fr0 hf4).out.mono ?_
  rintro e w5 ⟨hv, tv, rfl, W2, R, hfo, hO⟩
  have hwl : wl [(⟨⟨3, 1, 1, 1, 0, 0, 7, 6, v, ⟨#[]⟩⟩, [], 0, 0, none⟩ : SC)] = [1] := rfl
  rw [hwl] at hO
  have hR1 : R.length = 1 := hO.rl
  obtain ⟨r, rfl⟩ : ∃ r, R = [r] := by
    match R, hR1 with
    | [r], _ => exact ⟨r, rfl⟩
  obtain ⟨k, q, hk, hq, v', hr, _⟩ := hO.rr 0 r rfl
  rw [hwl] at hk
  obtain rfl : 1 = k := by simpa using hk
  obtain rfl : (⟨⟨3, 1, 1, 1, 0, 0, 7, 6, v, ⟨#[]⟩⟩, [], 0, 0, none⟩ : SC) = q := by simpa using hq
  subst hr
  obtain ⟨gh, ch, rfl, hgb, hgc⟩ := own_one_form hO.h (by simp)
  obtain ⟨gt, ct, rfl, htb, htc⟩ := own_one_form hO.t (by simp)
  have hfo2 : Fr (fun _ => False) w4 w5 := hfo.trans0 hO.fr
  have hb5 := (hfo2.block _ (lt_of_block hb4) (fun h => h)).trans hb4
  have hS5 : w5.cell? ⟨w3.heap.size, 0, none⟩ = some (.int .u32 3) ∧ w5.cell? ⟨w3.heap.size, 1, none⟩ = some (.int .u32 1) ∧ w5.cell? ⟨gh, 0, none⟩ = some (.int .u8 1) ∧ w5.cell? ⟨gh, 1, none⟩ = some (.int .u32 3) ∧ w5.cell? ⟨gh, 2, none⟩ = some (.int .u32 1) ∧ w5.cell? ⟨gt, 0, none⟩ = some (.int .u8 2) ∧ w5.cell? ⟨gt, 11, none⟩ = some (.int .u32 3) ∧ w5.cell? ⟨gt, 12, none⟩ = some (.int .u32 1) := ⟨cell_of_blk hb5 rfl, cell_of_blk hb5 rfl, hgc 0 _ rfl, hgc 1 _ rfl, hgc 2 _ rfl, htc 0 _ rfl, htc 11 _ rfl, htc 12 _ rfl⟩
  have hsz4 : w4.heap.size ≤ W2.heap.size := hfo.size
  have hsz3 : w3.heap.size ≤ w4.heap.size := hf4.size
  have HSZ := hide (And.intro hgb (And.intro htb (And.intro hsz4 hsz3)))
  have HS5 := hide hS5
  have HK : Hid (∀ (X : Nat → Prop) W', (∀ g, X g → g < w3.heap.size) → Fr X w5 W' → W'.cell? ⟨w3.heap.size, 0, none⟩ = some (.int .u32 3) ∧ W'.cell? ⟨w3.heap.size, 1, none⟩ = some (.int .u32 1) ∧ W'.cell? ⟨gh, 0, none⟩ = some (.int .u8 1) ∧ W'.cell? ⟨gh, 1, none⟩ = some (.int .u32 3) ∧ W'.cell? ⟨gh, 2, none⟩ = some (.int .u32 1) ∧ W'.cell? ⟨gt, 0, none⟩ = some (.int .u8 2) ∧ W'.cell? ⟨gt, 11, none⟩ = some (.int .u32 3) ∧ W'.cell? ⟨gt, 12, none⟩ = some (.int .u32 1)) := hide (fun X W' hX hf => by
    have hz := unhide HSZ
    have h5 := hS5
    have n3 : ¬ X w3.heap.size := fun e => by have := hX _ e; omega
    have n1 : ¬ X gh := fun e => by have := hX _ e; omega
    have n2 : ¬ X gt := fun e => by have := hX _ e; omega
    exact ⟨(hf.cell (lt_of_cell h5.1) n3).trans h5.1, (hf.cell (lt_of_cell h5.2.1) n3).trans h5.2.1, (hf.cell (lt_of_cell h5.2.2.1) n1).trans h5.2.2.1, (hf.cell (lt_of_cell h5.2.2.2.1) n1).trans h5.2.2.2.1, (hf.cell (lt_of_cell h5.2.2.2.2.1) n1).trans h5.2.2.2.2.1, (hf.cell (lt_of_cell h5.2.2.2.2.2.1) n2).trans h5.2.2.2.2.2.1, (hf.cell (lt_of_cell h5.2.2.2.2.2.2.1) n2).trans h5.2.2.2.2.2.2.1, (hf.cell (lt_of_cell h5.2.2.2.2.2.2.2) n2).trans h5.2.2.2.2.2.2.2⟩)
  have HS55 := hide (((unhide HS3).1.fr0 hf4).fr0 hfo2)
  have HF5 := hide (hf4.trans0 hfo2)
  clear hO hR1 hk hq hgc htc hfo hfo2 hb4 hb5 hf4 hS5 hsz4 hsz3 hgb htb hwl
  go_wp2_with fail
  have heq := eql_31
  refine wp_region_held_drew (S := (fun W => W.cell? ⟨w3.heap.size, 0, none⟩ = some (.int .u32 3) ∧ W.cell? ⟨w3.heap.size, 1, none⟩ = some (.int .u32 1) ∧ W.cell? ⟨gh, 0, none⟩ = some (.int .u8 1) ∧ W.cell? ⟨gh, 1, none⟩ = some (.int .u32 3) ∧ W.cell? ⟨gh, 2, none⟩ = some (.int .u32 1) ∧ W.cell? ⟨gt, 0, none⟩ = some (.int .u8 2) ∧ W.cell? ⟨gt, 11, none⟩ = some (.int .u32 3) ∧ W.cell? ⟨gt, 12, none⟩ = some (.int .u32 1))) (by kernel_rfl) ((unhide HK) (fun _ => False) _ (fun _ h => h.elim) (Fr.refl _ _).drew) (fun hHeld => ?_)
  refine wtk2 (i := 0) rfl hHeld ?_
  (try simp only [Act.put, nrm])
  refine wtk2 (i := 1) rfl hHeld ?_
  (try simp only [Act.put, nrm])
  refine wtk2 (i := 2) rfl hHeld ?_
  (try simp only [Act.put, nrm])
  refine wtk2 (i := 3) rfl hHeld ?_
  (try simp only [Act.put, nrm])
  refine wtk2 (i := 4) rfl hHeld ?_
  (try simp only [Act.put, nrm])
  refine wtk2 (i := 5) rfl hHeld ?_
  (try simp only [Act.put, nrm])
  refine wtk2 (i := 6) rfl hHeld ?_
  (try simp only [Act.put, nrm])
  refine wtk2 (i := 7) rfl hHeld ?_
  (try simp only [Act.put, nrm])
  refine wtk2 (i := 8) rfl hHeld ?_
  (try simp only [Act.put, nrm])
  refine wtk2 (i := 9) rfl hHeld ?_
  (try simp only [Act.put, nrm])
  refine wtk2 (i := 10) rfl hHeld ?_
  (try simp only [Act.put, nrm])
  refine wtk2 (i := 11) rfl hHeld ?_
  (try simp only [Act.put, nrm])
  refine wtk2 (i := 12) rfl hHeld ?_
  (try simp only [Act.put, nrm])
  refine wtk2 (i := 13) rfl hHeld ?_
  (try simp only [Act.put, nrm])
  refine wtk2 (i := 14) rfl hHeld ?_
  (try simp only [Act.put, nrm])
  refine wtk2 (i := 15) rfl hHeld ?_
  (try simp only [Act.put, nrm])
  refine wtk2 (i := 16) rfl hHeld ?_
  (try simp only [Act.put, nrm])
  refine wtk2 (i := 17) rfl hHeld ?_
  (try simp only [Act.put, nrm])
  refine wtk2 (i := 18) rfl hHeld ?_
  (try simp only [Act.put, nrm])
  refine wtk2 (i := 19) rfl hHeld ?_
  (try simp only [Act.put, nrm])
  refine wtk2 (i := 20) rfl hHeld ?_
  (try simp only [Act.put, nrm])
  refine wtk2 (i := 21) rfl hHeld ?_
  (try simp only [Act.put, nrm])
  refine wtk2 (i := 22) rfl hHeld ?_
  (try simp only [Act.put, nrm])
  refine wtk2 (i := 23) rfl hHeld ?_
  (try simp only [Act.put, nrm])
  refine wtk2 (i := 24) rfl hHeld ?_
  (try simp only [Act.put, nrm])
  refine wtk2 (i := 25) rfl hHeld ?_
  (try simp only [Act.put, nrm])
  refine wtk2 (i := 26) rfl hHeld ?_
  (try simp only [Act.put, nrm])
  refine wtk2 (i := 27) rfl hHeld ?_
  (try simp only [Act.put, nrm])
  refine wtk2 (i := 28) rfl hHeld ?_
  (try simp only [Act.put, nrm])
  refine wtk2 (i := 29) rfl hHeld ?_
  (try simp only [Act.put, nrm])
  refine wtk2 (i := 30) rfl hHeld ?_
  (try simp only [Act.put, nrm])
  refine wtk2 (i := 31) rfl hHeld ?_
  (try simp only [Act.put, nrm])
  refine wtk2 (i := 32) rfl hHeld ?_
  (try simp only [Act.put, nrm])
  refine wtk2 (i := 33) rfl hHeld ?_
  (try simp only [Act.put, nrm])
  refine wtk2 (i := 34) rfl hHeld ?_
  (try simp only [Act.put, nrm])
  refine wtk2 (i := 35) rfl hHeld ?_
  (try simp only [Act.put, nrm])
  refine wtk2 (i := 36) rfl hHeld ?_
  (try simp only [Act.put, nrm])
  refine wtk2 (i := 37) rfl hHeld ?_
  (try simp only [Act.put, nrm])
  refine wtk2 (i := 38) rfl hHeld ?_
  (try simp only [Act.put, nrm])
  refine wtk2 (i := 39) rfl hHeld ?_
  (try simp only [Act.put, nrm])
  refine wtk2 (i := 40) rfl hHeld ?_
  (try simp only [Act.put, nrm])
  refine wtk2 (i := 41) rfl hHeld ?_
  (try simp only [Act.put, nrm])
  refine wtk2 (i := 42) rfl hHeld ?_
  (try simp only [Act.put, nrm])
  refine wtk2 (i := 43) rfl hHeld ?_
  (try simp only [Act.put, nrm])
  refine wtk2 (i := 44) rfl hHeld ?_
  (try simp only [Act.put, nrm])
  refine wtk2 (i := 45) rfl hHeld ?_
  (try simp only [Act.put, nrm])
  refine wtk2 (i := 46) rfl hHeld ?_
  (try simp only [Act.put, nrm])
  refine wtk2 (i := 47) rfl hHeld ?_
  (try simp only [Act.put, nrm])
  refine wtk2 (i := 48) rfl hHeld ?_
  (try simp only [Act.put, nrm])
  refine wtk2 (i := 49) rfl hHeld ?_
  (try simp only [Act.put, nrm])
  refine wpAnyH_ready (rs := [50]) (by kernel_rfl) (by simp) (AllReadyH.cons rfl (fun K hK => ?_) AllReadyH.nil)
  go_simp
  refine (answered_any 3 1 1 _).mono ?_
  rintro e w6 ⟨rfl, hf6⟩
  have hf56 : Fr (fun _ => False) w5 w6 := (Fr.refl _ _).drew.trans0 hf6
  clear hf6
  try dsimp only
  refine hK.out _ _ ((unhide HK) (fun _ => False) _ (fun _ h => h.elim) hf56) (fun hHeld => ?_)
  clear hK K
  (try simp only [Act.put, nrm])
  refine wpAnyH_ready (rs := [51]) (by kernel_rfl) (by simp) (AllReadyH.cons rfl (fun K hK => ?_) AllReadyH.nil)
  have HT := hide (((unhide HS55).fr0 hf56).answer (ansM 3 1 1) 0 0 0 (ansA 3 1 1) (ansM_x 3 1 1) 0 (⟨⟨3, 1, 1, 1, 0, 0, 7, 6, v, ⟨#[]⟩⟩, [], 0, 0, none⟩ : SC) rfl rfl rfl rfl [] [] (Rd.nil w6 5) (Rd.nil w6 4) (by simp) (by simp) (by simp))
  go_simp
  refine (unhide HT).mono ?_
  rintro e w7 ⟨r7, rfl, rfl, ⟨v7, u7, hs7⟩, hf7⟩
  clear HT
  have hf57 : Fr (Tn (Nb w w1) w2 w3) w5 w7 := (hf56.mono (fun _ _ e => e.elim)).trans hf7 (fun _ _ e => e)
  have hlt3 : ∀ g, Tn (Nb w w1) w2 w3 g → g < w3.heap.size := (unhide HS3).1.lt
  have HS7 := hide (And.intro hs7 hf57)
  clear hs7 hf7
  try dsimp only
  refine hK.out _ _ ((unhide HK) _ _ hlt3 hf57) (fun hHeld => ?_)
  clear hK K
  (try simp only [Act.put, nrm])
  clear hf56 hf57
  refine wtk2 (i := 52) rfl hHeld ?_
  (try simp only [Act.put, nrm])
  refine wtk2 (i := 53) rfl hHeld ?_
  (try simp only [Act.put, nrm])
  refine wtk2 (i := 54) rfl hHeld ?_
  (try simp only [Act.put, nrm])
  refine wtk2 (i := 55) rfl hHeld ?_
  (try simp only [Act.put, nrm])
  refine wpAnyH_ready (rs := [56]) (by kernel_rfl) (by simp) (AllReadyH.cons rfl (fun K hK => ?_) AllReadyH.nil)
  have HD := hide (unhide HS7).1.done
  go_simp
  refine (unhide HD).mono ?_
  rintro e w8 ⟨v8, rfl, ho8, hf8⟩
  clear HD
  have hl8 : ([1].map fun k => ((3 : Nat), k)).length = 1 := rfl
  obtain ⟨ao8, cap8, rfl⟩ := own_formX ho8
  have hf58 : Fr (Tn (Nb w w1) w2 w3) w5 w8 := (unhide HS7).2.trans hf8 (fun _ _ e => e.elim)
  have HF8 := hide hf58
  clear ho8 hf8 hl8
  try dsimp only
  refine hK.out _ _ ((unhide HK) _ _ hlt3 hf58) (fun hHeld => ?_)
  clear hK K
  (try simp only [Act.put, nrm])
  clear hf58
  refine wtk2 (i := 57) rfl hHeld ?_
  (try simp only [Act.put, nrm])
  refine wtk2 (i := 58) rfl hHeld ?_
  (try simp only [Act.put, nrm])
  refine wtk2 (i := 59) rfl hHeld ?_
  (try simp only [Act.put, nrm])
  refine wtk2 (i := 60) rfl hHeld ?_
  (try simp only [Act.put, nrm])
  refine wpAnyH_done (by kernel_rfl) ?_ _
  clear hHeld HK HS5 HSZ heq
  go_wp2_with fail
  go_ret
  refine ⟨rfl, ?_⟩
  have h1 := (unhide HS1).2
  have h2 := unhide HF2
  have h3 := (unhide HS3).2
  have h13 : Fr (fun _ => False) w w3 := (h1.trans0 h2).trans h3 (fun g hg e => by have := e.1; omega)
  have h15 : Fr (fun _ => False) w w5 := h13.trans0 (unhide HF5)
  refine h15.trans (unhide HF8) (fun g hg e => ?_)
  rcases e with e | e
  · have := e.1; omega
  · have := e.1; have := h1.size; have := h2.size; omega
end Go.Proofs.Ytkiepcdncegniaa

namespace Go.Proofs.Ytkiepcdncegniaa
open Go.RowKit Go.Maps

/-- Are two fields the same, numbers by their bits? -/
def sameF (f g : F5) : Bool := (f.n.toList == g.n.toList) && (decide (f.k = g.k) && ((f.t.toList == g.t.toList) && (decide (f.u = g.u) && decide (f.v = g.v))))
def F5.cv (f : F5) : Value := .agg #[.string f.n, .int .u8 (f.k : Nat), .string f.t, .float .f32 f.v, .int .u8 (f.u : Nat)]
set_option maxRecDepth 100000 in
set_option maxHeartbeats 4000000 in
theorem sameField_any (f g : F5) (w : World) : Calls Try.prog 53 #[f.cv, g.cv] w fun e w' => e = .returned (.bool (sameF f g)) ∧ Fr (fun _ => False) w w' := by
  obtain ⟨fn, fk, ft, fv, fu⟩ := f
  obtain ⟨gn, gk, gt, gv, gu⟩ := g
  have hfb := Try.fbitsO
  simp only [F5.cv, sameF]
  cases h1 : (fn.toList == gn.toList)
  · go_enter Try.func53, Try.ntmps53
    go_wp2_with fail
    go_quiet (fail)
    go_wp2_with fail
    go_ret
    exact ⟨rfl, ((box1 w _).alloc _).drewN _⟩
  · cases h2 : decide (fk = gk)
    · have eh2 : (((fk : Nat) : Int) == ((gk : Nat) : Int)) = false := by rw [nat_eq]; exact h2
      have gh2 : ¬ ((fk : Nat) : Int) = ((gk : Nat) : Int) := by have := of_decide_eq_false h2; omega
      go_enter Try.func53, Try.ntmps53
      go_wp2_with fail
      go_quiet (fail)
      go_wp2_with fail
      go_ret
      exact ⟨rfl, ((box1 w _).alloc _).drewN _⟩
    · obtain rfl : fk = gk := of_decide_eq_true h2
      clear h2
      cases h3 : (ft.toList == gt.toList)
      · go_enter Try.func53, Try.ntmps53
        go_wp2_with fail
        go_quiet (fail)
        go_wp2_with fail
        go_ret
        exact ⟨rfl, ((box1 w _).alloc _).drewN _⟩
      · cases h4 : decide (fu = gu)
        · have eh4 : (((fu : Nat) : Int) == ((gu : Nat) : Int)) = false := by rw [nat_eq]; exact h4
          have gh4 : ¬ ((fu : Nat) : Int) = ((gu : Nat) : Int) := by have := of_decide_eq_false h4; omega
          go_enter Try.func53, Try.ntmps53
          go_wp2_with fail
          go_quiet (fail)
          go_wp2_with fail
          go_ret
          exact ⟨rfl, ((box1 w _).alloc _).drewN _⟩
        · obtain rfl : fu = gu := of_decide_eq_true h4
          clear h4
          cases h5 : decide (fv = gv)
          · have eh5 : (((fv : Nat) : Int) == ((gv : Nat) : Int)) = false := by rw [nat_eq]; exact h5
            have gh5 : ¬ ((fv : Nat) : Int) = ((gv : Nat) : Int) := by have := of_decide_eq_false h5; omega
            go_enter Try.func53, Try.ntmps53
            go_wp2_with fail
            go_quiet (fail)
            go_wp2_with fail
            go_ret
            exact ⟨rfl, ((box1 w _).alloc _).drewN _⟩
          · obtain rfl : fv = gv := of_decide_eq_true h5
            clear h5
            go_enter Try.func53, Try.ntmps53
            go_wp2_with fail
            go_quiet (fail)
            go_wp2_with fail
            go_ret
            exact ⟨rfl, ((box1 w _).alloc _).drewN _⟩
end Go.Proofs.Ytkiepcdncegniaa

namespace Go.Proofs.Ytkiepcdncegniaa
open Go.RowKit Go.Maps

/-- Are two lists the same, element by element? -/
def sameL {α : Type} (e : α → α → Bool) : List α → List α → Bool
  | [], [] => true
  | f :: r, g :: s => e f g && sameL e r s
  | _, _ => false
theorem sameL_len {α : Type} {e : α → α → Bool} : ∀ {F G : List α}, sameL e F G = true → F.length = G.length
  | [], [], _ => rfl
  | f :: r, g :: s, h => by simp only [sameL, Bool.and_eq_true] at h; simp [sameL_len h.2]
  | [], g :: s, h => by cases h
  | f :: r, [], h => by cases h
theorem sameL_all {α : Type} {e : α → α → Bool} : ∀ {F G : List α}, F.length = G.length → (∀ (i : Nat) f g, F[i]? = some f → G[i]? = some g → e f g = true) → sameL e F G = true
  | [], [], _, _ => rfl
  | f :: r, g :: s, hl, h => by
    simp only [sameL, Bool.and_eq_true]
    exact ⟨h 0 f g rfl rfl, sameL_all (by simpa using hl) (fun i a b ha hb => h (i + 1) a b (by simpa using ha) (by simpa using hb))⟩
  | [], g :: s, hl, _ => by simp at hl
  | f :: r, [], hl, _ => by simp at hl
theorem sameL_at {α : Type} {e : α → α → Bool} : ∀ {F G : List α} {i : Nat} {f g : α}, F[i]? = some f → G[i]? = some g → e f g = false → sameL e F G = false
  | f :: r, g :: s, 0, a, b, ha, hb, h => by simp at ha hb; subst ha; subst hb; simp [sameL, h]
  | f :: r, g :: s, i + 1, a, b, ha, hb, h => by simp only [sameL]; rw [sameL_at (F := r) (G := s) (i := i) (by simpa using ha) (by simpa using hb) h, Bool.and_false]
  | [], G, i, a, b, ha, hb, h => by simp at ha
  | f :: r, [], i, a, b, ha, hb, h => by simp at hb
theorem sameL_ne {α : Type} {e : α → α → Bool} {F G : List α} (h : F.length ≠ G.length) : sameL e F G = false := by
  cases hb : sameL e F G with
  | false => rfl
  | true => exact absurd (sameL_len hb) h
set_option maxRecDepth 100000 in
set_option maxHeartbeats 4000000 in
/-- slices.EqualFunc of fields. -/
theorem eqFields_any (x y : Value) (F G : List F5) (w : World) (hx : Fds w x F) (hy : Fds w y G) (hl : F.length ≤ 1048576) :
    Calls Try.prog 52 #[x, y, .func (.func 53) #[] #[]] w fun e w' => e = .returned (.bool (sameL sameF F G)) ∧ Fr (fun _ => False) w w' := by
  obtain ⟨xo, xc, rfl⟩ := hx.form
  obtain ⟨yo, yc, rfl⟩ := hy.form
  have HX := hide (And.intro hx hy)
  clear hx hy
  by_cases hne : F.length = G.length
  · rw [← hne] at HX ⊢
    obtain ⟨N, hN⟩ : ∃ N, F.length = N := ⟨_, rfl⟩
    have HN := hide (And.intro hN hne)
    rw [hN] at HX ⊢
    rw [hN] at hl
    clear hN hne
    obtain ⟨b, hb⟩ : ∃ b, sameL sameF F G = b := ⟨_, rfl⟩
    have HB := hide hb
    rw [hb]
    clear hb
    go_enter Try.func52, Try.ntmps52
    go_wp2_with fail
    go_loopw [7, 8, 9, 17] (fun _ _ _ iv wr => ∃ j : Nat, j ≤ N ∧ iv = .int .i64 (j : Nat) ∧ (∀ (i : Nat) f g, i < j → F[i]? = some f → G[i]? = some g → sameF f g = true) ∧ Fr (fun _ => False) w wr) (fun _ _ _ iv _ => N - (intOf iv).toNat)
    case atStart => exact ⟨0, Nat.zero_le _, rfl, fun i _ _ h => by omega, Fr.refl _ _⟩
    case round =>
      obtain ⟨j, hj, rfl, hall, hfr⟩ := hrel
      rename World => wr
      have HA := hide (And.intro hall hfr)
      clear hall
      by_cases hlt : j < N
      · have hN := (unhide HN).1
        have hG := (unhide HN).2
        obtain ⟨f, hf⟩ : ∃ f, F[j]? = some f := ⟨_, List.getElem?_eq_getElem (by omega)⟩
        obtain ⟨g, hg⟩ : ∃ g, G[j]? = some g := ⟨_, List.getElem?_eq_getElem (by omega)⟩
        obtain ⟨g1, o1, rfl, c0, c1, c2, c3, c4⟩ := ((unhide HX).1.fr hfr).at_ j (by omega)
        obtain ⟨g2, o2, rfl, d0, d1, d2, d3, d4⟩ := ((unhide HX).2.fr hfr).at_ j (by omega)
        have e1 : F[j]'(by omega) = f := (List.getElem?_eq_some_iff.1 hf).2
        have e2 : G[j]'(by omega) = g := (List.getElem?_eq_some_iff.1 hg).2
        rw [e1] at c0 c1 c2 c3 c4
        rw [e2] at d0 d1 d2 d3 d4
        have hl1 : g1 < wr.heap.size := lt_of_cell c0
        have hl2 : g2 < wr.heap.size := lt_of_cell d0
        have hl2' : g2 < wr.heap.size + 1 := by omega
        have HS := hide (fun W => sameField_any f g W)
        have HE := hide (And.intro hf hg)
        obtain ⟨fn, fk, ft, fv, fu⟩ := f
        obtain ⟨gn, gk, gt, gv, gu⟩ := g
        simp only [F5.cv] at HS
        simp only at c0 c1 c2 c3 c4 d0 d1 d2 d3 d4
        clear e1 e2 hf hg hfr hN hG
        go_wp2_with fail
        refine ((unhide HS) _).mono ?_
        rintro e w2 ⟨rfl, hf2⟩
        have hfw : Fr (fun _ => False) w w2 := (unhide HA).2.trans0 (((box1 wr _).alloc _).trans0 hf2)
        have HF := hide hfw
        clear hf2 hfw HS c0 c1 c2 c3 c4 d0 d1 d2 d3 d4
        cases hs : sameF ⟨fn, fk, ft, fv, fu⟩ ⟨gn, gk, gt, gv, gu⟩
        · obtain rfl : b = false := (unhide HB).symm.trans (sameL_at (unhide HE).1 (unhide HE).2 hs)
          go_wp2_with fail
          go_ret
          exact ⟨rfl, unhide HF⟩
        · have HS := hide hs
          clear hs
          go_wp2_with fail
          go_roundw
          case rel =>
            refine ⟨j + 1, by omega, by go_num, fun i f g hi hf hg => ?_, unhide HF⟩
            by_cases e : i < j
            · exact (unhide HA).1 i f g e hf hg
            · obtain rfl : i = j := by omega
              rw [(unhide HE).1] at hf
              rw [(unhide HE).2] at hg
              cases hf
              cases hg
              exact unhide HS
          case measure => simp [intOf]; omega
      · obtain rfl : b = true := (unhide HB).symm.trans (sameL_all (unhide HN).2 (fun i f g hf hg => (unhide HA).1 i f g (by have h1 := (List.getElem?_eq_some_iff.1 hf).1; have h2 := (unhide HN).1; omega) hf hg))
        obtain rfl : j = N := by omega
        clear hfr hlt hj
        go_wp2_with fail
        go_ret
        exact ⟨rfl, (unhide HA).2⟩
  · rw [sameL_ne hne]
    have hne2 : ¬ (F.length : Int) = (G.length : Int) := by omega
    obtain ⟨N, hN⟩ : ∃ N, F.length = N := ⟨_, rfl⟩
    obtain ⟨M, hM⟩ : ∃ M, G.length = M := ⟨_, rfl⟩
    rw [hN, hM] at hne2 ⊢
    clear HX hN hM hne hl
    go_enter Try.func52, Try.ntmps52
    go_wp2_with fail
    go_ret
    exact ⟨rfl, Fr.refl _ _⟩
/-- Are two summaries the same? -/
def sameM (s t : SM) : Bool := decide (s.au = t.au) && (decide (s.ev = t.ev) && (decide (s.nf = t.nf) && (s.rd == t.rd)))
theorem Try.held_sm : Try.prog.stoodInHeld 81 = false := by kernel_rfl
theorem Try.fields_sm : Try.prog.underlying 81 = some (.struct (Try.prog.fieldsOf 81)) := by kernel_rfl
theorem neq_sm (s t : SM) (w : World) : (binOp .neq 81 (.agg #[.int .u32 (s.au : Nat), .int .u32 (s.ev : Nat), .int .u32 (s.nf : Nat), .bool s.rd]) (.agg #[.int .u32 (t.au : Nat), .int .u32 (t.ev : Nat), .int .u32 (t.nf : Nat), .bool t.rd])).run Try.prog w = .ok (.bool (!(sameM s t))) w := by
  rw [run_neq_struct, show (10000 : Nat) = 9999 + 1 from rfl, run_equalIn_agg _ 9999 _ _ _ Try.fields_sm Try.held_sm]
  unfold sameM
  by_cases h1 : s.au = t.au <;> by_cases h2 : s.ev = t.ev <;> by_cases h3 : s.nf = t.nf <;> cases h4 : s.rd <;> cases h5 : t.rd <;> simp [Program.fieldsOf, Try.underlying81, Op.eqFields, go_sem, h1, h2, h3, nat_eq]
set_option maxRecDepth 100000 in
set_option maxHeartbeats 4000000 in
/-- slices.Equal of summaries. -/
theorem eqSums_any (x y : Value) (F G : List SM) (w : World) (hx : Sms w x F) (hy : Sms w y G) (hl : F.length ≤ 1048576) :
    Calls Try.prog 54 #[x, y] w fun e w' => e = .returned (.bool (sameL sameM F G)) ∧ Fr (fun _ => False) w w' := by
  obtain ⟨xo, xc, rfl⟩ := hx.form
  obtain ⟨yo, yc, rfl⟩ := hy.form
  have HX := hide (And.intro hx hy)
  clear hx hy
  by_cases hne : F.length = G.length
  · rw [← hne] at HX ⊢
    obtain ⟨N, hN⟩ : ∃ N, F.length = N := ⟨_, rfl⟩
    have HN := hide (And.intro hN hne)
    rw [hN] at HX ⊢
    rw [hN] at hl
    clear hN hne
    obtain ⟨b, hb⟩ : ∃ b, sameL sameM F G = b := ⟨_, rfl⟩
    have HB := hide hb
    rw [hb]
    clear hb
    go_enter Try.func54, Try.ntmps54
    go_wp2_with fail
    go_loopw [5, 13] (fun _ iv wr => ∃ j : Nat, j ≤ N ∧ iv = .int .i64 (j : Nat) ∧ (∀ (i : Nat) f g, i < j → F[i]? = some f → G[i]? = some g → sameM f g = true) ∧ Fr (fun _ => False) w wr) (fun _ iv _ => N - (intOf iv).toNat)
    case atStart => exact ⟨0, Nat.zero_le _, rfl, fun i _ _ h => by omega, Fr.refl _ _⟩
    case round =>
      obtain ⟨j, hj, rfl, hall, hfr⟩ := hrel
      rename World => wr
      have HA := hide (And.intro hall hfr)
      clear hall
      by_cases hlt : j < N
      · have hN := (unhide HN).1
        have hG := (unhide HN).2
        obtain ⟨f, hf⟩ : ∃ f, F[j]? = some f := ⟨_, List.getElem?_eq_getElem (by omega)⟩
        obtain ⟨g, hg⟩ : ∃ g, G[j]? = some g := ⟨_, List.getElem?_eq_getElem (by omega)⟩
        obtain ⟨g1, o1, rfl, c0, c1, c2, c3⟩ := ((unhide HX).1.fr hfr).at_ j (by omega)
        obtain ⟨g2, o2, rfl, d0, d1, d2, d3⟩ := ((unhide HX).2.fr hfr).at_ j (by omega)
        have e1 : F[j]'(by omega) = f := (List.getElem?_eq_some_iff.1 hf).2
        have e2 : G[j]'(by omega) = g := (List.getElem?_eq_some_iff.1 hg).2
        rw [e1] at c0 c1 c2 c3
        rw [e2] at d0 d1 d2 d3
        have HE := hide (And.intro hf hg)
        have hjj : (0 : Int) ≤ (j : Int) := by omega
        clear e1 e2 hf hg hfr hN hG
        cases hs : sameM f g
        · have hq : ∀ w : World, (binOp .neq 81 (.agg #[.int .u32 (f.au : Nat), .int .u32 (f.ev : Nat), .int .u32 (f.nf : Nat), .bool f.rd]) (.agg #[.int .u32 (g.au : Nat), .int .u32 (g.ev : Nat), .int .u32 (g.nf : Nat), .bool g.rd])).run Try.prog w = .ok (.bool true) w := fun w => by rw [neq_sm, hs]; rfl
          obtain rfl : b = false := (unhide HB).symm.trans (sameL_at (unhide HE).1 (unhide HE).2 hs)
          clear hs
          go_wp2_with fail
          go_quiet (fail)
          go_wp2_with fail
          go_ret
          exact ⟨rfl, (unhide HA).2.drewN _⟩
        · have hq : ∀ w : World, (binOp .neq 81 (.agg #[.int .u32 (f.au : Nat), .int .u32 (f.ev : Nat), .int .u32 (f.nf : Nat), .bool f.rd]) (.agg #[.int .u32 (g.au : Nat), .int .u32 (g.ev : Nat), .int .u32 (g.nf : Nat), .bool g.rd])).run Try.prog w = .ok (.bool false) w := fun w => by rw [neq_sm, hs]; rfl
          have HS := hide hs
          clear hs
          go_wp2_with fail
          go_quiet (fail)
          go_wp2_with fail
          go_roundw
          case rel =>
            refine ⟨j + 1, by omega, by go_num, fun i f' g' hi hf hg => ?_, (unhide HA).2.drewN _⟩
            by_cases e : i < j
            · exact (unhide HA).1 i f' g' e hf hg
            · obtain rfl : i = j := by omega
              rw [(unhide HE).1] at hf
              rw [(unhide HE).2] at hg
              cases hf
              cases hg
              exact unhide HS
          case measure => simp [intOf]; omega
      · obtain rfl : b = true := (unhide HB).symm.trans (sameL_all (unhide HN).2 (fun i f g hf hg => (unhide HA).1 i f g (by have h1 := (List.getElem?_eq_some_iff.1 hf).1; have h2 := (unhide HN).1; omega) hf hg))
        obtain rfl : j = N := by omega
        clear hfr hlt hj
        go_wp2_with fail
        go_ret
        exact ⟨rfl, (unhide HA).2⟩
  · rw [sameL_ne hne]
    have hne2 : ¬ (F.length : Int) = (G.length : Int) := by omega
    obtain ⟨N, hN⟩ : ∃ N, F.length = N := ⟨_, rfl⟩
    obtain ⟨M, hM⟩ : ∃ M, G.length = M := ⟨_, rfl⟩
    rw [hN, hM] at hne2 ⊢
    clear HX hN hM hne hl
    go_enter Try.func54, Try.ntmps54
    go_wp2_with fail
    go_ret
    exact ⟨rfl, Fr.refl _ _⟩
end Go.Proofs.Ytkiepcdncegniaa

namespace Go.Proofs.Ytkiepcdncegniaa
open Go.RowKit Go.Maps

/-- Are two answers of one id the same? -/
def sameA (a b : AN) (F G : List F5) (H K : List SM) : Bool := decide (a.co = b.co) && (decide (a.rc = b.rc) && (decide (a.ve = b.ve) && (sameL sameF F G && sameL sameM H K)))
set_option maxRecDepth 100000 in
set_option maxHeartbeats 4000000 in
theorem sameAnswer_any (a b : AN) (F G : List F5) (H K : List SM) (w : World) (hF : Fds w a.fv F) (hG : Fds w b.fv G) (hH : Sms w a.hv H) (hK : Sms w b.hv K) (lF : F.length ≤ 1048576) (lH : H.length ≤ 1048576) :
    Calls Try.prog 43 #[.agg a.cs.toArray, .agg b.cs.toArray] w fun e w' => e = .returned (.bool (sameA a b F G H K)) ∧ Fr (fun _ => False) w w' := by
  obtain ⟨acl, anu, aco, arc, ave, afv, ahv⟩ := a
  obtain ⟨bcl, bnu, bco, brc, bve, bfv, bhv⟩ := b
  simp only at hF hG hH hK
  have HE := hide (fun W (hf : Fr (fun _ => False) w W) => eqFields_any afv bfv F G W (hF.fr hf) (hG.fr hf) lF)
  have HM := hide (fun W (hf : Fr (fun _ => False) w W) => eqSums_any ahv bhv H K W (hH.fr hf) (hK.fr hf) lH)
  clear hF hG hH hK lF lH
  simp only [AN.cs, sameA]
  obtain ⟨b1, hb1⟩ : ∃ b1, sameL sameF F G = b1 := ⟨_, rfl⟩
  obtain ⟨b2, hb2⟩ : ∃ b2, sameL sameM H K = b2 := ⟨_, rfl⟩
  rw [hb1] at HE ⊢
  rw [hb2] at HM ⊢
  clear hb1 hb2
  cases h1 : decide (aco = bco)
  · have eh1 : (((aco : Nat) : Int) == ((bco : Nat) : Int)) = false := by rw [nat_eq]; exact h1
    have gh1 : ¬ ((aco : Nat) : Int) = ((bco : Nat) : Int) := by have := of_decide_eq_false h1; omega
    go_enter Try.func43, Try.ntmps43
    go_wp2_with fail
    go_ret
    exact ⟨rfl, (box1 w _).alloc _⟩
  · obtain rfl : aco = bco := of_decide_eq_true h1
    clear h1
    cases h2 : decide (arc = brc)
    · have eh2 : (((arc : Nat) : Int) == ((brc : Nat) : Int)) = false := by rw [nat_eq]; exact h2
      have gh2 : ¬ ((arc : Nat) : Int) = ((brc : Nat) : Int) := by have := of_decide_eq_false h2; omega
      go_enter Try.func43, Try.ntmps43
      go_wp2_with fail
      go_ret
      exact ⟨rfl, (box1 w _).alloc _⟩
    · obtain rfl : arc = brc := of_decide_eq_true h2
      clear h2
      cases h3 : decide (ave = bve)
      · have eh3 : (((ave : Nat) : Int) == ((bve : Nat) : Int)) = false := by rw [nat_eq]; exact h3
        have gh3 : ¬ ((ave : Nat) : Int) = ((bve : Nat) : Int) := by have := of_decide_eq_false h3; omega
        go_enter Try.func43, Try.ntmps43
        go_wp2_with fail
        go_ret
        exact ⟨rfl, (box1 w _).alloc _⟩
      · obtain rfl : ave = bve := of_decide_eq_true h3
        clear h3
        cases b1
        · go_enter Try.func43, Try.ntmps43
          go_wp2_with fail
          refine ((unhide HE) _ ((box1 w _).alloc _)).mono ?_
          rintro e w2 ⟨rfl, hf2⟩
          go_wp2_with fail
          go_ret
          exact ⟨rfl, ((box1 w _).alloc _).trans0 hf2⟩
        · cases b2
          all_goals
            go_enter Try.func43, Try.ntmps43
            go_wp2_with fail
            refine ((unhide HE) _ ((box1 w _).alloc _)).mono ?_
            rintro e w2 ⟨rfl, hf2⟩
            obtain ⟨W1, hW1⟩ : ∃ W1, (w.alloc (.cells #[.int .u32 (acl : Nat), .int .u32 (anu : Nat), .int .u8 (aco : Nat), .int .u32 (arc : Nat), .int .u32 (ave : Nat), afv, ahv] 44)).alloc (.cells #[.int .u32 (bcl : Nat), .int .u32 (bnu : Nat), .int .u8 (aco : Nat), .int .u32 (arc : Nat), .int .u32 (ave : Nat), bfv, bhv] 44) = W1 := ⟨_, rfl⟩
            have hfw : Fr (fun _ => False) w W1 := by rw [← hW1]; exact (box1 w _).alloc _
            have k1 : W1.heap[w.heap.size]? = some (.cells #[.int .u32 (acl : Nat), .int .u32 (anu : Nat), .int .u8 (aco : Nat), .int .u32 (arc : Nat), .int .u32 (ave : Nat), afv, ahv] 44) := by rw [← hW1]; exact (Below.heap_alloc _ _ _ (by simp)).trans (heap_alloc_new w _)
            have k2 : W1.heap[w.heap.size + 1]? = some (.cells #[.int .u32 (bcl : Nat), .int .u32 (bnu : Nat), .int .u8 (aco : Nat), .int .u32 (arc : Nat), .int .u32 (ave : Nat), bfv, bhv] 44) := by
              rw [← hW1]
              have := heap_alloc_new (w.alloc (.cells #[.int .u32 (acl : Nat), .int .u32 (anu : Nat), .int .u8 (aco : Nat), .int .u32 (arc : Nat), .int .u32 (ave : Nat), afv, ahv] 44)) (.cells #[.int .u32 (bcl : Nat), .int .u32 (bnu : Nat), .int .u8 (aco : Nat), .int .u32 (arc : Nat), .int .u32 (ave : Nat), bfv, bhv] 44)
              rwa [World.size_alloc] at this
            rw [hW1] at hf2
            clear hW1
            have q1 : w2.cell? ⟨w.heap.size, 6, none⟩ = some ahv := cell_of_blk ((hf2.block _ (lt_of_block k1) (fun h => h)).trans k1) rfl
            have q2 : w2.cell? ⟨w.heap.size + 1, 6, none⟩ = some bhv := cell_of_blk ((hf2.block _ (lt_of_block k2) (fun h => h)).trans k2) rfl
            have HW2 := hide (hfw.trans0 hf2)
            clear hf2 hfw k1 k2
            go_wp2_with fail
            refine ((unhide HM) _ (unhide HW2)).mono ?_
            rintro e w3 ⟨rfl, hf3⟩
            go_wp2_with fail
            go_ret
            exact ⟨rfl, (unhide HW2).trans0 hf3⟩
end Go.Proofs.Ytkiepcdncegniaa

namespace Go.Proofs.Ytkiepcdncegniaa
open Go.RowKit Go.Maps

theorem wrapU0 (k : Nat) (h : k < 4294967296) : IntKind.u32.wrap (k : Int) = (k : Int) := by
  have e : (k : Int) % 4294967296 = (k : Int) := by omega
  simp [IntKind.wrap, IntKind.bits, IntKind.signed, e]
theorem Rd.at_ {w : World} {xo : Option Addr} {n c z : Nat} {cs : List Value} (h : Rd w (.slice xo n c) n z cs) (hp : 0 < cs.length) : ∃ g o, xo = some ⟨g, o, none⟩ ∧ ∀ j u, cs[j]? = some u → w.cell? ⟨g, o + j, none⟩ = some u := by
  obtain ⟨xo', c', e, _, _, h3⟩ := h.f
  cases e
  obtain ⟨g, o, rfl, _⟩ := h3 0 _ (List.getElem?_eq_getElem hp)
  exact ⟨g, o, rfl, fun j u hu => by
    obtain ⟨g', o', e, hc⟩ := h3 j u hu
    cases e
    exact hc⟩
theorem ids_cells {c : Nat} (ks : List Nat) {j k : Nat} (hk : ks[j]? = some k) : (icells (ks.map fun k => (c, k)))[j * 2]? = some (.int .u32 (c : Nat)) ∧ (icells (ks.map fun k => (c, k)))[j * 2 + 1]? = some (.int .u32 (k : Nat)) := by
  have hl := (List.getElem?_eq_some_iff.1 hk).1
  have hkk : (ks.map fun k => (c, k))[j]? = some (c, k) := by simp [hk]
  have e3 : (ks.map fun k => (c, k))[j]'(by simpa using hl) = (c, k) := (List.getElem?_eq_some_iff.1 hkk).2
  constructor
  · rw [icells_get _ _ (by simp; omega), show j * 2 / 2 = j by omega, show j * 2 % 2 = 0 by omega, getElem!_pos (ks.map fun k => (c, k)) j (by simpa using hl), e3]
    rfl
  · rw [icells_get _ _ (by simp; omega), show (j * 2 + 1) / 2 = j by omega, show (j * 2 + 1) % 2 = 1 by omega, getElem!_pos (ks.map fun k => (c, k)) j (by simpa using hl), e3]
    rfl
set_option maxRecDepth 100000 in
set_option maxHeartbeats 4000000 in
/-- ids, where they are these. -/
theorem ids_true (x y : Value) (c : Nat) (ks : List Nat) (w : World) (hx : Rd w x ks.length 2 (icells (ks.map fun k => (c, k)))) (hy : Rd w y ks.length 1 (ks.map fun k => .int .i64 (k : Nat))) (hl : ks.length ≤ 1048576) (hk : ∀ k ∈ ks, k < 4294967296) :
    Calls Try.prog 12 #[x, .int .u32 (c : Nat), y] w fun e w' => e = .returned (.bool true) ∧ Fr (fun _ => False) w w' := by
  obtain ⟨xo, xc, rfl, _⟩ := hx.f
  obtain ⟨yo, yc, rfl, _⟩ := hy.f
  have HX := hide (And.intro hx (And.intro hy hk))
  clear hx hy hk
  obtain ⟨N, hN⟩ : ∃ N, ks.length = N := ⟨_, rfl⟩
  have HN := hide hN
  rw [hN] at HX hl ⊢
  clear hN
  go_enter Try.func12, Try.ntmps12
  go_wp2_with fail
  go_loopw [7] (fun iv wr => ∃ j : Nat, j ≤ N ∧ iv = .int .i64 (j : Nat) ∧ Fr (fun _ => False) w wr) (fun iv _ => N - (intOf iv).toNat)
  case atStart => exact ⟨0, Nat.zero_le _, rfl, Fr.refl _ _⟩
  case round =>
    obtain ⟨j, hj, rfl, hfr⟩ := hrel
    rename World => wr
    have HF := hide hfr
    by_cases hlt : j < N
    · have hN := unhide HN
      obtain ⟨k, hk⟩ : ∃ k, ks[j]? = some k := ⟨_, List.getElem?_eq_getElem (by omega)⟩
      obtain ⟨g1, o1, rfl, hc1⟩ := ((unhide HX).1.fr0 hfr).at_ (by rw [icells_len, List.length_map]; omega)
      obtain ⟨g2, o2, rfl, hc2⟩ := ((unhide HX).2.1.fr0 hfr).at_ (by rw [List.length_map]; omega)
      have i1 := ids_cells (c := c) ks hk
      have c0 := hc1 _ _ i1.1
      have c1 : wr.cell? ⟨g1, o1 + j * 2 + 1, none⟩ = some (.int .u32 (k : Nat)) := by rw [Nat.add_assoc]; exact hc1 _ _ i1.2
      have d0 : wr.cell? ⟨g2, o2 + j, none⟩ = some (.int .i64 (k : Nat)) := hc2 j _ (by simp [hk])
      have hw := wrapU0 k ((unhide HX).2.2 k (List.mem_of_getElem? hk))
      clear i1 hc1 hc2 hk hfr hN
      go_wp2_with fail
      go_quiet (fail)
      go_wp2_with fail
      go_roundw
      case rel => exact ⟨j + 1, by omega, by go_num, (unhide HF).drewN _⟩
      case measure => simp [intOf]; omega
    · obtain rfl : j = N := by omega
      clear hfr hlt hj
      go_wp2_with fail
      go_ret
      exact ⟨rfl, unhide HF⟩
end Go.Proofs.Ytkiepcdncegniaa

namespace Go.Proofs.Ytkiepcdncegniaa
open Go.RowKit Go.Maps

theorem SS.bYes {w : World} {d c : Nat} {cs : List SC} {dn : List Nat} {T : Nat → Prop} (h : SS w d c cs dn T) (i : Nat) (q : SC) (hq : cs[i]? = some q) (hd : q.d = none) :
    Calls Try.prog 15 #[.pointer (some ⟨d, 0, none⟩), .agg #[.int .u32 (c : Nat), .int .u32 ((i + 1 : Nat) : Int)]] w fun e w' => e = .returned (.tuple #[.int .i64 q.la, .int .i64 (q.n : Nat)]) ∧ Fr (fun _ => False) w w' := by
  obtain ⟨mw, ma, dv, h⟩ := h
  exact sbusy_yes d mw ma c cs dn dv T w h i q hq hd
theorem SS.bNo {w : World} {d c : Nat} {cs : List SC} {dn : List Nat} {T : Nat → Prop} (h : SS w d c cs dn T) (cl k : Nat) (hcl : cl < 4294967296) (hk : k < 4294967296) (hn : cl = c → fW cs k = none) :
    Calls Try.prog 15 #[.pointer (some ⟨d, 0, none⟩), .agg #[.int .u32 (cl : Nat), .int .u32 (k : Nat)]] w fun e w' => e = .returned (.tuple #[.int .i64 0, .int .i64 0]) ∧ Fr (fun _ => False) w w' := by
  obtain ⟨mw, ma, dv, h⟩ := h
  exact sbusy_no d mw ma c cs dn dv T w h cl k hcl hk hn
theorem SS.aYes {w : World} {d c : Nat} {cs : List SC} {dn : List Nat} {T : Nat → Prop} (h : SS w d c cs dn T) (i : Nat) (q : SC) (x : AD) (hq : cs[i]? = some q) (hd : q.d = some x) :
    Calls Try.prog 19 #[.pointer (some ⟨d, 0, none⟩), .agg #[.int .u32 (c : Nat), .int .u32 ((i + 1 : Nat) : Int)]] w fun e w' => ∃ v u, e = .returned (.tuple #[AN.v { x.a with fv := v, hv := u }, .bool true]) ∧ OwF w' w.heap.size v x.F ∧ OwS w' w.heap.size u x.H ∧ Fr (fun _ => False) w w' := by
  obtain ⟨mw, ma, dv, h⟩ := h
  exact sanswer_yes d mw ma c cs dn dv T w h i q x hq hd
theorem SS.aNo {w : World} {d c : Nat} {cs : List SC} {dn : List Nat} {T : Nat → Prop} (h : SS w d c cs dn T) (cl k : Nat) (hcl : cl < 4294967296) (hk : k < 4294967296) (hn : cl = c → fA cs k = none) :
    Calls Try.prog 19 #[.pointer (some ⟨d, 0, none⟩), .agg #[.int .u32 (cl : Nat), .int .u32 (k : Nat)]] w fun e w' => ∃ v u, e = .returned (.tuple #[AN.v ⟨0, 0, 0, 0, 0, v, u⟩, .bool false]) ∧ OwF w' w.heap.size v [] ∧ OwS w' w.heap.size u [] ∧ Fr (fun _ => False) w w' := by
  obtain ⟨mw, ma, dv, h⟩ := h
  exact sanswer_no d mw ma c cs dn dv T w h cl k hcl hk hn
/-- What is answered, as sameAnswer reads it. -/
theorem SS.fdsX {w : World} {d c : Nat} {cs : List SC} {dn : List Nat} {T : Nat → Prop} (h : SS w d c cs dn T) {q : SC} {x : AD} (hq : q ∈ cs) (hd : q.d = some x) : Fds w x.a.fv x.F ∧ Sms w x.a.hv x.H ∧ x.F.length ≤ 1048576 ∧ x.H.length ≤ 1048576 := by
  obtain ⟨mw, ma, dv, h⟩ := h
  have h2 := (h.qs q hq).an x hd
  exact ⟨rd_fds (own_rd h2.1.o (fcells_one _)), OwS.sms (base := 0) h2.2.o, h2.1.l, h2.2.l⟩
/-- SessionKnown, between two calls: the session, and the boxes of its two ids. -/
structure KW (w W : World) (d A B : Nat) (cs : List SC) (dn : List Nat) (T : Nat → Prop) : Prop where
  s : SS W d 3 cs dn T
  a : W.heap[A]? = some (.cells #[.int .u32 3, .int .u32 1] 29)
  b : W.heap[B]? = some (.cells #[.int .u32 3, .int .u32 2] 29)
  t : ∀ g, T g → w.heap.size ≤ g ∧ g ≠ A ∧ g ≠ B
  f : Fr (fun _ => False) w W
theorem KW.fr0 {w W W' : World} {d A B : Nat} {cs : List SC} {dn : List Nat} {T : Nat → Prop} (h : KW w W d A B cs dn T) (hf : Fr (fun _ => False) W W') : KW w W' d A B cs dn T :=
  ⟨h.s.fr0 hf, (hf.block A (lt_of_block h.a) (fun h => h)).trans h.a, (hf.block B (lt_of_block h.b) (fun h => h)).trans h.b, h.t, h.f.trans0 hf⟩
theorem KW.same {w W W' : World} {d A B : Nat} {cs cs' : List SC} {dn dn' : List Nat} {T : Nat → Prop} (h : KW w W d A B cs dn T) (hs : SS W' d 3 cs' dn' T) (hf : Fr T W W') : KW w W' d A B cs' dn' T :=
  ⟨hs, (hf.block A (lt_of_block h.a) (fun e => (h.t _ e).2.1 rfl)).trans h.a, (hf.block B (lt_of_block h.b) (fun e => (h.t _ e).2.2 rfl)).trans h.b, h.t, h.f.trans hf (fun g hg e => by have := (h.t g e).1; omega)⟩
theorem KW.more {w W W' : World} {d A B : Nat} {cs cs' : List SC} {dn dn' : List Nat} {T : Nat → Prop} (h : KW w W d A B cs dn T) (hs : SS W' d 3 cs' dn' (Tn T W W')) (hf : Fr T W W') : KW w W' d A B cs' dn' (Tn T W W') :=
  ⟨hs, (hf.block A (lt_of_block h.a) (fun e => (h.t _ e).2.1 rfl)).trans h.a, (hf.block B (lt_of_block h.b) (fun e => (h.t _ e).2.2 rfl)).trans h.b, fun g hg => by
    rcases hg with hg | hg
    · exact h.t g hg
    · have h1 := h.f.size
      have h2 := lt_of_block h.a
      have h3 := lt_of_block h.b
      have h4 := hg.1
      exact ⟨by omega, by omega, by omega⟩, h.f.trans hf (fun g hg e => by have := (h.t g e).1; omega)⟩
theorem KW.cells {w W : World} {d A B : Nat} {cs : List SC} {dn : List Nat} {T : Nat → Prop} (h : KW w W d A B cs dn T) : W.cell? ⟨A, 0, none⟩ = some (.int .u32 3) ∧ W.cell? ⟨A, 1, none⟩ = some (.int .u32 1) ∧ W.cell? ⟨B, 0, none⟩ = some (.int .u32 3) ∧ W.cell? ⟨B, 1, none⟩ = some (.int .u32 2) :=
  ⟨cell_of_blk h.a rfl, cell_of_blk h.a rfl, cell_of_blk h.b rfl, cell_of_blk h.b rfl⟩
theorem neq_32 (w : World) : (binOp .neq 29 (.agg #[.int .u32 3, .int .u32 2]) (.agg #[.int .u32 3, .int .u32 2])).run Try.prog w = .ok (.bool false) w := neq_id 3 2 3 2 w
theorem neq_31 (w : World) : (binOp .neq 29 (.agg #[.int .u32 3, .int .u32 1]) (.agg #[.int .u32 3, .int .u32 1])).run Try.prog w = .ok (.bool false) w := neq_id 3 1 3 1 w
/-- A refusal told. -/
def busM : List Value := .int .u8 4 :: (zR ++ ([.int .u32 3, .int .u32 2] ++ (zA ++ (.int .u8 5 :: (zE ++ [.int .u32 0])))))
theorem busM_x : MsX busM 4 3 2 5 ⟨0, 0, 0, 0, 0, .slice none 0 0, .slice none 0 0⟩ := ⟨rfl, rfl, rfl, fun j v hj => by
  have h7 : j < 7 := (List.getElem?_eq_some_iff.1 hj).1
  match j, h7 with
  | 0, _ => exact hj
  | 1, _ => exact hj
  | 2, _ => exact hj
  | 3, _ => exact hj
  | 4, _ => exact hj
  | 5, _ => exact hj
  | 6, _ => exact hj, rfl⟩
theorem busM_one : ∀ v ∈ busM, v.oneCell' = true := List.all_eq_true.1 (show List.all busM (fun v => v.oneCell') = true from rfl)
def havM : List Value := .int .u8 6 :: (zR ++ ([.int .u32 0, .int .u32 0] ++ (zA ++ (.int .u8 0 :: (zE ++ [.int .u32 0])))))
theorem havM_x : MsX havM 6 0 0 0 ⟨0, 0, 0, 0, 0, .slice none 0 0, .slice none 0 0⟩ := ⟨rfl, rfl, rfl, fun j v hj => by
  have h7 : j < 7 := (List.getElem?_eq_some_iff.1 hj).1
  match j, h7 with
  | 0, _ => exact hj
  | 1, _ => exact hj
  | 2, _ => exact hj
  | 3, _ => exact hj
  | 4, _ => exact hj
  | 5, _ => exact hj
  | 6, _ => exact hj, rfl⟩
/-- A row just built may be read. -/
theorem rd_new {W W' : World} {n z t : Nat} {xs : List Value} (hb : W'.heap[W.heap.size]? = some (.cells xs.toArray t)) (hl : xs.length = n * z) (h1 : ∀ u ∈ xs, u.oneCell' = true) : Rd W' (.slice (some ⟨W.heap.size, 0, none⟩) n n) n z xs :=
  ⟨⟨_, _, rfl, Nat.le_refl _, fun e => (by cases e), fun j u hu => ⟨W.heap.size, 0, rfl, cell_of_blk hb (by simpa using hu)⟩⟩, hl, h1⟩
theorem rd_at {W' : World} {b n z t : Nat} {xs : List Value} (hb : W'.heap[b]? = some (.cells xs.toArray t)) (hl : xs.length = n * z) (h1 : ∀ u ∈ xs, u.oneCell' = true) : Rd W' (.slice (some ⟨b, 0, none⟩) n n) n z xs :=
  ⟨⟨_, _, rfl, Nat.le_refl _, fun e => (by cases e), fun j u hu => ⟨b, 0, rfl, cell_of_blk hb (by simpa using hu)⟩⟩, hl, h1⟩
end Go.Proofs.Ytkiepcdncegniaa

namespace Go.Proofs.Ytkiepcdncegniaa
open Go.RowKit Go.Maps

set_option maxRecDepth 100000 in
set_option maxHeartbeats 16000000 in
theorem gfields_any (x y : Value) (F G : List F5) (w : World) (hx : Fds w x F) (hy : Fds w y G) (hl : F.length ≤ 1048576) :
    Calls Try.prog 41 #[x, y] w fun e w' => e = .returned (.bool (sameL sameF F G)) ∧ Fr (fun _ => False) w w' := by
  obtain ⟨xo, xc, rfl⟩ := hx.form
  obtain ⟨yo, yc, rfl⟩ := hy.form
  have HX := hide (And.intro hx hy)
  clear hx hy
  have hfb := Try.fbitsO
  by_cases hne : F.length = G.length
  · rw [← hne] at HX ⊢
    obtain ⟨N, hN⟩ : ∃ N, F.length = N := ⟨_, rfl⟩
    have HN := hide (And.intro hN hne)
    rw [hN] at HX ⊢
    rw [hN] at hl
    clear hN hne
    obtain ⟨b, hb⟩ : ∃ b, sameL sameF F G = b := ⟨_, rfl⟩
    have HB := hide hb
    rw [hb]
    clear hb
    go_enter Try.func41, Try.ntmps41
    go_wp2_with fail
    go_loopw [5] (fun iv wr => ∃ j : Nat, j ≤ N ∧ iv = .int .i64 (j : Nat) ∧ (∀ (i : Nat) f g, i < j → F[i]? = some f → G[i]? = some g → sameF f g = true) ∧ Fr (fun _ => False) w wr) (fun iv _ => N - (intOf iv).toNat)
    case atStart => exact ⟨0, Nat.zero_le _, rfl, fun i _ _ h => by omega, Fr.refl _ _⟩
    case round =>
      obtain ⟨j, hj, rfl, hall, hfr⟩ := hrel
      rename World => wr
      have HA := hide (And.intro hall hfr)
      clear hall
      by_cases hlt : j < N
      · have hN := (unhide HN).1
        have hG := (unhide HN).2
        obtain ⟨f, hf⟩ : ∃ f, F[j]? = some f := ⟨_, List.getElem?_eq_getElem (by omega)⟩
        obtain ⟨g, hg⟩ : ∃ g, G[j]? = some g := ⟨_, List.getElem?_eq_getElem (by omega)⟩
        obtain ⟨g1, o1, rfl, c0, c1, c2, c3, c4⟩ := ((unhide HX).1.fr hfr).at_ j (by omega)
        obtain ⟨g2, o2, rfl, d0, d1, d2, d3, d4⟩ := ((unhide HX).2.fr hfr).at_ j (by omega)
        have e1 : F[j]'(by omega) = f := (List.getElem?_eq_some_iff.1 hf).2
        have e2 : G[j]'(by omega) = g := (List.getElem?_eq_some_iff.1 hg).2
        rw [e1] at c0 c1 c2 c3 c4
        rw [e2] at d0 d1 d2 d3 d4
        have hl1 : g1 < wr.heap.size := lt_of_cell c0
        have hl2 : g2 < wr.heap.size := lt_of_cell d0
        have hl2' : g2 < wr.heap.size + 1 := by omega
        have hjj : (0 : Int) ≤ (j : Int) := by omega
        have HE := hide (And.intro hf hg)
        obtain ⟨fn, fk, ft, fv, fu⟩ := f
        obtain ⟨gn, gk, gt, gv, gu⟩ := g
        simp only at c0 c1 c2 c3 c4 d0 d1 d2 d3 d4
        clear e1 e2 hf hg hfr hN hG
        have HS : ∀ bb, sameF ⟨fn, fk, ft, fv, fu⟩ ⟨gn, gk, gt, gv, gu⟩ = bb → Hid (sameF ⟨fn, fk, ft, fv, fu⟩ ⟨gn, gk, gt, gv, gu⟩ = bb) := fun _ h => hide h
        cases h1 : (fn.toList == gn.toList)
        · obtain rfl : b = false := (unhide HB).symm.trans (sameL_at (unhide HE).1 (unhide HE).2 (by simp [sameF, h1]))
          clear HS
          go_wp2_with fail
          go_quiet (fail)
          go_wp2_with fail
          go_ret
          exact ⟨rfl, (unhide HA).2.trans0 (((box1 wr _).alloc _).drewN _)⟩
        · cases h2 : decide (fk = gk)
          · have eh2 : (((fk : Nat) : Int) == ((gk : Nat) : Int)) = false := by rw [nat_eq]; exact h2
            have gh2 : ¬ ((fk : Nat) : Int) = ((gk : Nat) : Int) := by have := of_decide_eq_false h2; omega
            obtain rfl : b = false := (unhide HB).symm.trans (sameL_at (unhide HE).1 (unhide HE).2 (by simp [sameF, h1, of_decide_eq_false h2]))
            clear HS
            go_wp2_with fail
            go_quiet (fail)
            go_wp2_with fail
            go_ret
            exact ⟨rfl, (unhide HA).2.trans0 (((box1 wr _).alloc _).drewN _)⟩
          · obtain rfl : fk = gk := of_decide_eq_true h2
            clear h2
            cases h3 : (ft.toList == gt.toList)
            · obtain rfl : b = false := (unhide HB).symm.trans (sameL_at (unhide HE).1 (unhide HE).2 (by simp [sameF, h1, h3]))
              clear HS
              go_wp2_with fail
              go_quiet (fail)
              go_wp2_with fail
              go_ret
              exact ⟨rfl, (unhide HA).2.trans0 (((box1 wr _).alloc _).drewN _)⟩
            · cases h4 : decide (fu = gu)
              · have eh4 : (((fu : Nat) : Int) == ((gu : Nat) : Int)) = false := by rw [nat_eq]; exact h4
                have gh4 : ¬ ((fu : Nat) : Int) = ((gu : Nat) : Int) := by have := of_decide_eq_false h4; omega
                obtain rfl : b = false := (unhide HB).symm.trans (sameL_at (unhide HE).1 (unhide HE).2 (by simp [sameF, h1, h3, of_decide_eq_false h4]))
                clear HS
                go_wp2_with fail
                go_quiet (fail)
                go_wp2_with fail
                go_ret
                exact ⟨rfl, (unhide HA).2.trans0 (((box1 wr _).alloc _).drewN _)⟩
              · obtain rfl : fu = gu := of_decide_eq_true h4
                clear h4
                cases h5 : decide (fv = gv)
                · have eh5 : (((fv : Nat) : Int) == ((gv : Nat) : Int)) = false := by rw [nat_eq]; exact h5
                  have gh5 : ¬ ((fv : Nat) : Int) = ((gv : Nat) : Int) := by have := of_decide_eq_false h5; omega
                  obtain rfl : b = false := (unhide HB).symm.trans (sameL_at (unhide HE).1 (unhide HE).2 (by simp [sameF, h1, h3, of_decide_eq_false h5]))
                  clear HS
                  go_wp2_with fail
                  go_quiet (fail)
                  go_wp2_with fail
                  go_ret
                  exact ⟨rfl, (unhide HA).2.trans0 (((box1 wr _).alloc _).drewN _)⟩
                · obtain rfl : fv = gv := of_decide_eq_true h5
                  clear h5
                  have HS := HS true (by simp [sameF, h1, h3])
                  go_wp2_with fail
                  go_quiet (fail)
                  go_wp2_with fail
                  go_roundw
                  case rel =>
                    refine ⟨j + 1, by omega, by go_num, fun i f g hi hf hg => ?_, (unhide HA).2.trans0 (((box1 wr _).alloc _).drewN _)⟩
                    by_cases e : i < j
                    · exact (unhide HA).1 i f g e hf hg
                    · obtain rfl : i = j := by omega
                      rw [(unhide HE).1] at hf
                      rw [(unhide HE).2] at hg
                      cases hf
                      cases hg
                      exact unhide HS
                  case measure => simp [intOf]; omega
      · obtain rfl : b = true := (unhide HB).symm.trans (sameL_all (unhide HN).2 (fun i f g hf hg => (unhide HA).1 i f g (by have h1 := (List.getElem?_eq_some_iff.1 hf).1; have h2 := (unhide HN).1; omega) hf hg))
        obtain rfl : j = N := by omega
        clear hfr hlt hj
        go_wp2_with fail
        go_ret
        exact ⟨rfl, (unhide HA).2⟩
  · rw [sameL_ne hne]
    have hne2 : ¬ (F.length : Int) = (G.length : Int) := by omega
    obtain ⟨N, hN⟩ : ∃ N, F.length = N := ⟨_, rfl⟩
    obtain ⟨M, hM⟩ : ∃ M, G.length = M := ⟨_, rfl⟩
    rw [hN, hM] at hne2 ⊢
    clear HX hN hM hne hl
    go_enter Try.func41, Try.ntmps41
    go_wp2_with fail
    go_ret
    exact ⟨rfl, Fr.refl _ _⟩
end Go.Proofs.Ytkiepcdncegniaa

namespace Go.Proofs.Ytkiepcdncegniaa
open Go.RowKit Go.Maps

/-- Are two answers the same? -/
def gsameA (a b : AN) (F G : List F5) (H K : List SM) : Bool := (decide (a.cl = b.cl) && decide (a.nu = b.nu)) && sameA a b F G H K
set_option maxRecDepth 100000 in
set_option maxHeartbeats 16000000 in
theorem gsameAnswer_any (a b : AN) (F G : List F5) (H K : List SM) (w : World) (hF : Fds w a.fv F) (hG : Fds w b.fv G) (hH : Sms w a.hv H) (hK : Sms w b.hv K) (lF : F.length ≤ 1048576) (lH : H.length ≤ 1048576) :
    Calls Try.prog 25 #[.agg a.cs.toArray, .agg b.cs.toArray] w fun e w' => e = .returned (.bool (gsameA a b F G H K)) ∧ Fr (fun _ => False) w w' := by
  obtain ⟨acl, anu, aco, arc, ave, afv, ahv⟩ := a
  obtain ⟨bcl, bnu, bco, brc, bve, bfv, bhv⟩ := b
  simp only at hF hG hH hK
  have HE := hide (fun W (hf : Fr (fun _ => False) w W) => gfields_any afv bfv F G W (hF.fr hf) (hG.fr hf) lF)
  have HM := hide (fun W (hf : Fr (fun _ => False) w W) => And.intro (hH.fr hf) (hK.fr hf))
  clear hF hG lF
  simp only [AN.cs, gsameA, sameA]
  obtain ⟨b1, hb1⟩ : ∃ b1, sameL sameF F G = b1 := ⟨_, rfl⟩
  rw [hb1] at HE ⊢
  clear hb1
  obtain ⟨xo, xc, rfl⟩ := hH.form
  obtain ⟨yo, yc, rfl⟩ := hK.form
  clear hH hK
  by_cases hid : acl = bcl ∧ anu = bnu
  case neg =>
    have hbb : (decide (acl = bcl) && decide (anu = bnu)) = false := by
      cases hx : (decide (acl = bcl) && decide (anu = bnu)) with
      | false => rfl
      | true => simp only [Bool.and_eq_true, decide_eq_true_eq] at hx; exact absurd hx hid
    have hq : ∀ w : World, (binOp .neq 29 (.agg #[.int .u32 (acl : Nat), .int .u32 (anu : Nat)]) (.agg #[.int .u32 (bcl : Nat), .int .u32 (bnu : Nat)])).run Try.prog w = .ok (.bool true) w := fun w => by rw [neq_id, hbb]; rfl
    rw [hbb, Bool.false_and]
    clear hbb hid HE HM
    go_enter Try.func25, Try.ntmps25
    go_wp2_with fail
    go_ret
    exact ⟨rfl, (box1 w _).alloc _⟩
  obtain ⟨rfl, rfl⟩ := hid
  have hq : ∀ w : World, (binOp .neq 29 (.agg #[.int .u32 (acl : Nat), .int .u32 (anu : Nat)]) (.agg #[.int .u32 (acl : Nat), .int .u32 (anu : Nat)])).run Try.prog w = .ok (.bool false) w := fun w => by rw [neq_id]; simp
  rw [show (decide (acl = acl) && decide (anu = anu)) = true by simp, Bool.true_and]
  cases h1 : decide (aco = bco)
  · have eh1 : (((aco : Nat) : Int) == ((bco : Nat) : Int)) = false := by rw [nat_eq]; exact h1
    have gh1 : ¬ ((aco : Nat) : Int) = ((bco : Nat) : Int) := by have := of_decide_eq_false h1; omega
    go_enter Try.func25, Try.ntmps25
    go_wp2_with fail
    go_ret
    exact ⟨rfl, (box1 w _).alloc _⟩
  · obtain rfl : aco = bco := of_decide_eq_true h1
    clear h1
    cases h2 : decide (arc = brc)
    · have eh2 : (((arc : Nat) : Int) == ((brc : Nat) : Int)) = false := by rw [nat_eq]; exact h2
      have gh2 : ¬ ((arc : Nat) : Int) = ((brc : Nat) : Int) := by have := of_decide_eq_false h2; omega
      go_enter Try.func25, Try.ntmps25
      go_wp2_with fail
      go_ret
      exact ⟨rfl, (box1 w _).alloc _⟩
    · obtain rfl : arc = brc := of_decide_eq_true h2
      clear h2
      cases h3 : decide (ave = bve)
      · have eh3 : (((ave : Nat) : Int) == ((bve : Nat) : Int)) = false := by rw [nat_eq]; exact h3
        have gh3 : ¬ ((ave : Nat) : Int) = ((bve : Nat) : Int) := by have := of_decide_eq_false h3; omega
        go_enter Try.func25, Try.ntmps25
        go_wp2_with fail
        go_ret
        exact ⟨rfl, (box1 w _).alloc _⟩
      · obtain rfl : ave = bve := of_decide_eq_true h3
        clear h3
        cases b1
        · go_enter Try.func25, Try.ntmps25
          go_wp2_with fail
          refine ((unhide HE) _ ((box1 w _).alloc _)).mono ?_
          rintro e w2 ⟨rfl, hf2⟩
          go_wp2_with fail
          go_ret
          exact ⟨rfl, ((box1 w _).alloc _).trans0 hf2⟩
        · by_cases hne : H.length = K.length
          · rw [← hne] at HM ⊢
            obtain ⟨N, hN⟩ : ∃ N, H.length = N := ⟨_, rfl⟩
            have HN := hide (And.intro hN hne)
            rw [hN] at HM ⊢
            rw [hN] at lH
            clear hN hne
            obtain ⟨b, hb⟩ : ∃ b, sameL sameM H K = b := ⟨_, rfl⟩
            have HB := hide hb
            rw [hb, Bool.true_and]
            clear hb
            go_enter Try.func25, Try.ntmps25
            go_wp2_with fail
            refine ((unhide HE) _ ((box1 w _).alloc _)).mono ?_
            rintro e w2 ⟨rfl, hf2⟩
            obtain ⟨W1, hW1⟩ : ∃ W1, (w.alloc (.cells #[.int .u32 (acl : Nat), .int .u32 (anu : Nat), .int .u8 (aco : Nat), .int .u32 (arc : Nat), .int .u32 (ave : Nat), afv, (.slice xo N xc)] 44)).alloc (.cells #[.int .u32 (acl : Nat), .int .u32 (anu : Nat), .int .u8 (aco : Nat), .int .u32 (arc : Nat), .int .u32 (ave : Nat), bfv, (.slice yo N yc)] 44) = W1 := ⟨_, rfl⟩
            have hfw : Fr (fun _ => False) w W1 := by rw [← hW1]; exact (box1 w _).alloc _
            have k1 : W1.heap[w.heap.size]? = some (.cells #[.int .u32 (acl : Nat), .int .u32 (anu : Nat), .int .u8 (aco : Nat), .int .u32 (arc : Nat), .int .u32 (ave : Nat), afv, (.slice xo N xc)] 44) := by rw [← hW1]; exact (Below.heap_alloc _ _ _ (by simp)).trans (heap_alloc_new w _)
            have k2 : W1.heap[w.heap.size + 1]? = some (.cells #[.int .u32 (acl : Nat), .int .u32 (anu : Nat), .int .u8 (aco : Nat), .int .u32 (arc : Nat), .int .u32 (ave : Nat), bfv, (.slice yo N yc)] 44) := by
              rw [← hW1]
              have := heap_alloc_new (w.alloc (.cells #[.int .u32 (acl : Nat), .int .u32 (anu : Nat), .int .u8 (aco : Nat), .int .u32 (arc : Nat), .int .u32 (ave : Nat), afv, (.slice xo N xc)] 44)) (.cells #[.int .u32 (acl : Nat), .int .u32 (anu : Nat), .int .u8 (aco : Nat), .int .u32 (arc : Nat), .int .u32 (ave : Nat), bfv, (.slice yo N yc)] 44)
              rwa [World.size_alloc] at this
            rw [hW1] at hf2
            clear hW1
            have q1 : w2.cell? ⟨w.heap.size, 6, none⟩ = some (.slice xo N xc) := cell_of_blk ((hf2.block _ (lt_of_block k1) (fun h => h)).trans k1) rfl
            have q2 : w2.cell? ⟨w.heap.size + 1, 6, none⟩ = some (.slice yo N yc) := cell_of_blk ((hf2.block _ (lt_of_block k2) (fun h => h)).trans k2) rfl
            have HW2 := hide (hfw.trans0 hf2)
            clear hf2 hfw k1 k2
            go_wp2_with fail
            go_loopw [5] (fun iv wr => ∃ j : Nat, j ≤ N ∧ iv = .int .i64 (j : Nat) ∧ (∀ (i : Nat) f g, i < j → H[i]? = some f → K[i]? = some g → sameM f g = true) ∧ Fr (fun _ => False) w2 wr) (fun iv _ => N - (intOf iv).toNat)
            case atStart => exact ⟨0, Nat.zero_le _, rfl, fun i _ _ h => by omega, Fr.refl _ _⟩
            case round =>
              obtain ⟨j, hj, rfl, hall, hfr⟩ := hrel
              rename World => wr
              have HA := hide (And.intro hall hfr)
              clear hall
              replace q1 := (hfr.cell (p := ⟨w.heap.size, 6, none⟩) (lt_of_cell q1) (fun h => h)).trans q1
              replace q2 := (hfr.cell (p := ⟨w.heap.size + 1, 6, none⟩) (lt_of_cell q2) (fun h => h)).trans q2
              by_cases hlt : j < N
              · have hN := (unhide HN).1
                have hG := (unhide HN).2
                obtain ⟨f, hf⟩ : ∃ f, H[j]? = some f := ⟨_, List.getElem?_eq_getElem (by omega)⟩
                obtain ⟨g, hg⟩ : ∃ g, K[j]? = some g := ⟨_, List.getElem?_eq_getElem (by omega)⟩
                have hm := (unhide HM) wr ((unhide HW2).trans0 hfr)
                obtain ⟨g1, o1, rfl, c0, c1, c2, c3⟩ := hm.1.at_ j (by omega)
                obtain ⟨g2, o2, rfl, d0, d1, d2, d3⟩ := hm.2.at_ j (by omega)
                have e1 : H[j]'(by omega) = f := (List.getElem?_eq_some_iff.1 hf).2
                have e2 : K[j]'(by omega) = g := (List.getElem?_eq_some_iff.1 hg).2
                rw [e1] at c0 c1 c2 c3
                rw [e2] at d0 d1 d2 d3
                have HE := hide (And.intro hf hg)
                have hjj : (0 : Int) ≤ (j : Int) := by omega
                clear e1 e2 hf hg hfr hN hG hm
                cases hs : sameM f g
                · have hq : ∀ w : World, (binOp .neq 81 (.agg #[.int .u32 (f.au : Nat), .int .u32 (f.ev : Nat), .int .u32 (f.nf : Nat), .bool f.rd]) (.agg #[.int .u32 (g.au : Nat), .int .u32 (g.ev : Nat), .int .u32 (g.nf : Nat), .bool g.rd])).run Try.prog w = .ok (.bool true) w := fun w => by rw [neq_sm, hs]; rfl
                  obtain rfl : b = false := (unhide HB).symm.trans (sameL_at (unhide HE).1 (unhide HE).2 hs)
                  clear hs
                  go_wp2_with fail
                  go_quiet (fail)
                  go_wp2_with fail
                  go_ret
                  exact ⟨rfl, (unhide HW2).trans0 ((unhide HA).2.drewN _)⟩
                · have hq : ∀ w : World, (binOp .neq 81 (.agg #[.int .u32 (f.au : Nat), .int .u32 (f.ev : Nat), .int .u32 (f.nf : Nat), .bool f.rd]) (.agg #[.int .u32 (g.au : Nat), .int .u32 (g.ev : Nat), .int .u32 (g.nf : Nat), .bool g.rd])).run Try.prog w = .ok (.bool false) w := fun w => by rw [neq_sm, hs]; rfl
                  have HS := hide hs
                  clear hs
                  go_wp2_with fail
                  go_quiet (fail)
                  go_wp2_with fail
                  go_roundw
                  case rel =>
                    refine ⟨j + 1, by omega, by go_num, fun i f' g' hi hf hg => ?_, (unhide HA).2.drewN _⟩
                    by_cases e : i < j
                    · exact (unhide HA).1 i f' g' e hf hg
                    · obtain rfl : i = j := by omega
                      rw [(unhide HE).1] at hf
                      rw [(unhide HE).2] at hg
                      cases hf
                      cases hg
                      exact unhide HS
                  case measure => simp [intOf]; omega
              · obtain rfl : b = true := (unhide HB).symm.trans (sameL_all (unhide HN).2 (fun i f g hf hg => (unhide HA).1 i f g (by have h1 := (List.getElem?_eq_some_iff.1 hf).1; have h2 := (unhide HN).1; omega) hf hg))
                obtain rfl : j = N := by omega
                clear hfr hlt hj
                go_wp2_with fail
                go_ret
                exact ⟨rfl, (unhide HW2).trans0 (unhide HA).2⟩
          · rw [sameL_ne hne, Bool.and_false]
            have hne2 : ¬ (H.length : Int) = (K.length : Int) := by omega
            obtain ⟨N, hN⟩ : ∃ N, H.length = N := ⟨_, rfl⟩
            obtain ⟨M, hM⟩ : ∃ M, K.length = M := ⟨_, rfl⟩
            rw [hN, hM] at hne2 ⊢
            rw [hN, hM] at HM
            rw [hN] at lH
            clear HM hN hM hne
            go_enter Try.func25, Try.ntmps25
            go_wp2_with fail
            refine ((unhide HE) _ ((box1 w _).alloc _)).mono ?_
            rintro e w2 ⟨rfl, hf2⟩
            obtain ⟨W1, hW1⟩ : ∃ W1, (w.alloc (.cells #[.int .u32 (acl : Nat), .int .u32 (anu : Nat), .int .u8 (aco : Nat), .int .u32 (arc : Nat), .int .u32 (ave : Nat), afv, (.slice xo N xc)] 44)).alloc (.cells #[.int .u32 (acl : Nat), .int .u32 (anu : Nat), .int .u8 (aco : Nat), .int .u32 (arc : Nat), .int .u32 (ave : Nat), bfv, (.slice yo M yc)] 44) = W1 := ⟨_, rfl⟩
            have hfw : Fr (fun _ => False) w W1 := by rw [← hW1]; exact (box1 w _).alloc _
            have k1 : W1.heap[w.heap.size]? = some (.cells #[.int .u32 (acl : Nat), .int .u32 (anu : Nat), .int .u8 (aco : Nat), .int .u32 (arc : Nat), .int .u32 (ave : Nat), afv, (.slice xo N xc)] 44) := by rw [← hW1]; exact (Below.heap_alloc _ _ _ (by simp)).trans (heap_alloc_new w _)
            have k2 : W1.heap[w.heap.size + 1]? = some (.cells #[.int .u32 (acl : Nat), .int .u32 (anu : Nat), .int .u8 (aco : Nat), .int .u32 (arc : Nat), .int .u32 (ave : Nat), bfv, (.slice yo M yc)] 44) := by
              rw [← hW1]
              have := heap_alloc_new (w.alloc (.cells #[.int .u32 (acl : Nat), .int .u32 (anu : Nat), .int .u8 (aco : Nat), .int .u32 (arc : Nat), .int .u32 (ave : Nat), afv, (.slice xo N xc)] 44)) (.cells #[.int .u32 (acl : Nat), .int .u32 (anu : Nat), .int .u8 (aco : Nat), .int .u32 (arc : Nat), .int .u32 (ave : Nat), bfv, (.slice yo M yc)] 44)
              rwa [World.size_alloc] at this
            rw [hW1] at hf2
            clear hW1
            have q1 : w2.cell? ⟨w.heap.size, 6, none⟩ = some (.slice xo N xc) := cell_of_blk ((hf2.block _ (lt_of_block k1) (fun h => h)).trans k1) rfl
            have q2 : w2.cell? ⟨w.heap.size + 1, 6, none⟩ = some (.slice yo M yc) := cell_of_blk ((hf2.block _ (lt_of_block k2) (fun h => h)).trans k2) rfl
            have HW2 := hide (hfw.trans0 hf2)
            clear hf2 hfw k1 k2
            go_wp2_with fail
            go_ret
            exact ⟨rfl, unhide HW2⟩
theorem sameL_refl {α : Type} {e : α → α → Bool} (he : ∀ x, e x x = true) : ∀ F : List α, sameL e F F = true
  | [] => rfl
  | f :: r => by simp [sameL, he, sameL_refl he r]
theorem sameF_refl (f : F5) : sameF f f = true := by simp [sameF]
theorem sameM_refl (f : SM) : sameM f f = true := by simp [sameM]
/-- An answer is the same as itself, wherever its lists lie. -/
theorem gsameA_refl (a b : AN) (F : List F5) (H : List SM) (h1 : a.cl = b.cl) (h2 : a.nu = b.nu) (h3 : a.co = b.co) (h4 : a.rc = b.rc) (h5 : a.ve = b.ve) : gsameA a b F F H H = true := by
  simp [gsameA, sameA, h1, h2, h3, h4, h5, sameL_refl sameF_refl, sameL_refl sameM_refl]
end Go.Proofs.Ytkiepcdncegniaa

namespace Go.Proofs.Ytkiepcdncegniaa
open Go.RowKit Go.Maps

/-- A message that came in: its cells, what Take looks at, what its answer's lists hold. -/
structure MG where
  xs : List Value
  ki : Nat
  icl : Nat
  inu : Nat
  co : Nat
  a : AN
  F : List F5
  H : List SM
structure MG.Ok (w : World) (m : MG) : Prop where
  x : MsX m.xs m.ki m.icl m.inu m.co m.a
  len : m.xs.length = 35
  one : ∀ v ∈ m.xs, v.oneCell' = true
  bk : m.ki < 256
  bi : m.icl < 4294967296
  bn : m.inu < 4294967296
  bc : m.co < 256
  ac : m.a.cl < 4294967296
  an : m.a.nu < 4294967296
  f : Rd w m.a.fv m.F.length 5 (fcells m.F)
  h : Rd w m.a.hv m.H.length 4 (scells m.H)
  fl : m.F.length ≤ 1048576
  hl : m.H.length ≤ 1048576
theorem MG.Ok.fr0 {w w' : World} {m : MG} (h : m.Ok w) (hf : Fr (fun _ => False) w w') : m.Ok w' :=
  ⟨h.x, h.len, h.one, h.bk, h.bi, h.bn, h.bc, h.ac, h.an, h.f.fr0 hf, h.h.fr0 hf, h.fl, h.hl⟩
/-- Messages that came in. -/
structure MgR (w : World) (v : Value) (l : List MG) : Prop where
  f : ∃ vo c, v = .slice vo l.length c ∧ ∀ j m, l[j]? = some m → m.Ok w ∧ ∃ g o, vo = some ⟨g, o, none⟩ ∧ w.rangeAt g (o + j * 35) m.xs
  l : l.length ≤ 1048576
/-- Is it the first answer of a request? -/
def fresh (c : Nat) (cs : List SC) (m : MG) : Prop := m.ki = 3 ∧ m.a.cl = c ∧ ∃ i q, m.a.nu = i + 1 ∧ cs[i]? = some q ∧ q.d = none
/-- What a message that is none leaves. -/
structure Kept (cs cs' : List SC) : Prop where
  n : cs'.length = cs.length
  q : ∀ (i : Nat) (x : SC), cs[i]? = some x → ∃ y, cs'[i]? = some y ∧ y.d = x.d ∧ y.n ≤ x.n + 1
theorem Kept.refl (cs : List SC) : Kept cs cs := ⟨rfl, fun i x h => ⟨x, h, rfl, by omega⟩⟩
theorem Kept.busy {cs : List SC} {i : Nat} {q : SC} (hq : cs[i]? = some q) (la : Int) : Kept cs (cs.set i { q with la := la, n := q.n + 1 }) :=
  ⟨List.length_set .., fun j x hj => by
    by_cases e : i = j
    · subst e
      rw [hq] at hj
      cases hj
      have hl := (List.getElem?_eq_some_iff.1 hq).1
      exact ⟨{ q with la := la, n := q.n + 1 }, by rw [List.getElem?_set_self hl], rfl, Nat.le_refl _⟩
    · exact ⟨x, by rw [List.getElem?_set_ne e]; exact hj, rfl, by omega⟩⟩
theorem sms_of_rd {w : World} {x : Value} {l : List SM} (h : Rd w x l.length 4 (scells l)) : Sms w x l := by
  obtain ⟨xo, c, rfl, h1, h2, h3⟩ := h.f
  cases l with
  | nil => exact .inl ⟨xo, c, rfl, rfl⟩
  | cons f r =>
    obtain ⟨e0, _⟩ := scells_at (f :: r) 0 (by simp)
    obtain ⟨g, o, rfl, _⟩ := h3 _ _ e0
    refine .inr ⟨g, o, c, rfl, fun j hj => ?_⟩
    obtain ⟨d0, d1, d2, d3⟩ := scells_at (f :: r) j hj
    have k : ∀ i u, (scells (f :: r))[i]? = some u → w.cell? ⟨g, o + i, none⟩ = some u := fun i u hu => by
      obtain ⟨g', o', e, hc⟩ := h3 i u hu
      cases e
      exact hc
    exact ⟨k _ _ d0, by rw [Nat.add_assoc]; exact k _ _ d1, by rw [Nat.add_assoc]; exact k _ _ d2, by rw [Nat.add_assoc]; exact k _ _ d3⟩
/-- Take of a message that is no first answer. -/
theorem SS.takeOld {w : World} {d c : Nat} {cs : List SC} {dn : List Nat} {T : Nat → Prop} (h : SS w d c cs dn T) (m : MG) (hm : m.Ok w) (hn : ¬ fresh c cs m) (hb : ∀ q ∈ cs, q.n ≤ 1000000000000) :
    Calls Try.prog 14 #[.pointer (some ⟨d, 0, none⟩), .agg m.xs.toArray] w fun e w' => ∃ r cs', e = .returned (.int .i64 r) ∧ Kept cs cs' ∧ SS w' d c cs' dn T ∧ Fr T w w' := by
  have hT : ∀ {W : World}, Fr (fun _ => False) w W → Fr T w W := fun hf => hf.mono (fun _ _ e => e.elim)
  obtain ⟨xs, ki, icl, inu, co, a, F, H⟩ := m
  by_cases h3 : ki = 3
  · subst h3
    by_cases hu : a.cl = c ∧ a.nu ≠ 0 ∧ a.nu ≤ cs.length
    · obtain ⟨hc, h0, hl⟩ := hu
      obtain ⟨q, hq⟩ : ∃ q, cs[a.nu - 1]? = some q := ⟨_, List.getElem?_eq_getElem (by omega)⟩
      cases hd : q.d with
      | none => exact absurd ⟨rfl, hc, a.nu - 1, q, by simp only; omega, hq, hd⟩ hn
      | some x =>
        have hx := h.fdsX (List.mem_of_getElem? hq) hd
        have hf := rd_fds hm.f
        have hh := sms_of_rd hm.h
        refine (h.ansDone xs icl inu co a hm.x (a.nu - 1) q x hq hd hc (by omega) (sameA x.a a x.F F x.H H) (fun W' hf' => sameAnswer_any x.a a x.F F x.H H W' (hx.1.fr hf') (hf.fr hf') (hx.2.1.fr hf') (hh.fr hf') hx.2.2.1 hx.2.2.2)).mono ?_
        rintro e w' ⟨r, rfl, _, hfr⟩
        exact ⟨r, cs, rfl, Kept.refl _, h.fr0 hfr, hT hfr⟩
    · refine (h.ansNone xs icl inu co a hm.x (fun e => ?_) hm.ac hm.an).mono ?_
      · by_cases h0 : a.nu = 0
        · exact .inl h0
        · exact .inr (by
            have : ¬ a.nu ≤ cs.length := fun hl => hu ⟨e, h0, hl⟩
            omega)
      · rintro e w' ⟨r, rfl, _, hfr⟩
        exact ⟨r, cs, rfl, Kept.refl _, h.fr0 hfr, hT hfr⟩
  · by_cases h4 : ki = 4
    · subst h4
      by_cases hu : icl = c ∧ inu ≠ 0 ∧ inu ≤ cs.length
      · obtain ⟨hc, h0, hl⟩ := hu
        subst hc
        obtain ⟨i, rfl⟩ : ∃ i, inu = i + 1 := ⟨inu - 1, by omega⟩
        obtain ⟨q, hq⟩ : ∃ q, cs[i]? = some q := ⟨_, List.getElem?_eq_getElem (by omega)⟩
        cases hd : q.d with
        | none =>
          refine (h.busy xs co a i hm.x hm.bc q hq hd (hb q (List.mem_of_getElem? hq))).mono ?_
          rintro e w' ⟨r, rfl, _, hs, hfr⟩
          exact ⟨r, _, rfl, Kept.busy hq _, hs, hfr⟩
        | some x =>
          refine (h.busyDone xs co a i hm.x hm.bc q x hq hd).mono ?_
          rintro e w' ⟨r, rfl, _, hfr⟩
          exact ⟨r, cs, rfl, Kept.refl _, h.fr0 hfr, hT hfr⟩
      · refine (h.busyNone xs icl inu co a hm.x hm.bc (fun e => ?_) hm.bi hm.bn).mono ?_
        · by_cases h0 : inu = 0
          · exact .inl h0
          · exact .inr (by
              have : ¬ inu ≤ cs.length := fun hl => hu ⟨e, h0, hl⟩
              omega)
        · rintro e w' ⟨r, rfl, _, hfr⟩
          exact ⟨r, cs, rfl, Kept.refl _, h.fr0 hfr, hT hfr⟩
    · refine (stake_no d xs ki icl inu co a hm.x h3 h4 w).mono ?_
      rintro e w' ⟨rfl, hfr⟩
      exact ⟨1, cs, rfl, Kept.refl _, h.fr0 hfr, hT hfr⟩
/-- As many wait as are not answered. -/
theorem wl_count (cs : List SC) : (wl cs).length = nW cs := by
  unfold wl nW
  rw [List.length_filterMap_eq_countP]
  have key : ∀ n, n ≤ cs.length → List.countP (fun j => ((if (cs[j]?.any fun q => q.d.isNone) = true then some (j + 1) else none) : Option Nat).isSome) (List.range n) = List.countP (fun q => q.d.isNone) (cs.take n) := by
    intro n
    induction n with
    | zero => simp
    | succ n ih =>
      intro hn
      obtain ⟨q, hq⟩ : ∃ q, cs[n]? = some q := ⟨_, List.getElem?_eq_getElem (by omega)⟩
      rw [List.range_succ, List.countP_append, ih (by omega), List.take_add_one, List.countP_append, hq]
      cases hd : q.d <;> simp [hq, hd]
  have := key cs.length (Nat.le_refl _)
  rw [List.take_length] at this
  exact this
end Go.Proofs.Ytkiepcdncegniaa

