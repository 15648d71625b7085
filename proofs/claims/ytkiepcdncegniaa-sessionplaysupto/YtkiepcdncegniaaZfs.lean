import Derived.Test.YtkiepcdncegniaaZft
import Derived.Deep.CutBlock
namespace Go.Proofs.Ytkiepcdncegniaa
open Go.RowKit Go.Maps

theorem wpList_mkN {P : Program} {w w' : World} {ops : Array Oper} {rest : List Oper} {op : Oper} {a : Act} {Q : Exit → Act → World → Prop} (hgd : op.guard = none) (ty : TypeId) (x y : Operand) (ho : op.op = .makeSlice ty x y) (vx vy v : Value) (hx : a.eval x = vx) (hy : a.eval y = vy) (hr : (Instr.makeSlice ty vx vy).run P w = .ok v w')
    (h : wpList P ops Q rest (a.put op.dst v) w') : wpList P ops Q (op :: rest) a w :=
  wpList_plain hgd fun _ hK => by
    unfold Oper.wp execOp
    simp only [ho, hx, hy, Sem.run_bind, hr, Result.andThen_ok, Sem.run_pure]
    exact hK _ _ h
set_option maxRecDepth 100000 in
set_option maxHeartbeats 16000000 in
theorem told_any {w0 w : World} {d c : Nat} {cs : List SC} {dn : List Nat} {T : Nat → Prop} {l : List RC} (hs : SS w d c cs dn T) (hf : Fr (fun _ => False) w0 w) (base : Nat) (v : Value) (ho : OwC w base v l) (hR : Rel w0 c cs dn l) (hdl : dn.length ≤ 1048575) :
    Calls Try.prog 24 #[.pointer (some ⟨d, 0, none⟩), .agg #[.int .u32 (c : Nat), v, .int .i64 (dn.length : Nat)]] w fun e w' => e = .returned (.bool true) ∧ Fr (fun _ => False) w w' := by
  obtain ⟨ao, cap, rfl⟩ := own_formX ho
  obtain ⟨N, hN⟩ : ∃ N, l.length = N := ⟨_, rfl⟩
  obtain ⟨D, hD⟩ : ∃ D, dn.length = D := ⟨_, rfl⟩
  have hl : N ≤ 4096 := by rw [← hN, hR.n]; exact hs.len
  have HO := hide ho
  have HSS := hide hs
  have HRL := hide hR
  have HNN := hide (And.intro hN hD)
  have HF0 := hide hf
  rw [hN] at HO ⊢
  rw [hD] at hdl ⊢
  obtain ⟨W1, hW1⟩ : ∃ W1, w.alloc (.cells #[.int .u32 (c : Nat), .slice ao N cap, .int .i64 (D : Nat)] 60) = W1 := ⟨_, rfl⟩
  have hf1 : Fr (fun _ => False) w W1 := by rw [← hW1]; exact box1 w _
  have hb0 : W1.heap[w.heap.size]? = some (.cells #[.int .u32 (c : Nat), .slice ao N cap, .int .i64 (D : Nat)] 60) := by rw [← hW1]; exact heap_alloc_new w _
  have hz1 : W1.heap.size = w.heap.size + 1 := by rw [← hW1]; simp
  have c2 : W1.cell? ⟨w.heap.size, 2, none⟩ = some (.int .i64 (D : Nat)) := cell_of_blk hb0 rfl
  obtain ⟨DB, hDB⟩ : ∃ DB, W1.heap.size = DB := ⟨_, rfl⟩
  obtain ⟨i0, hi, hz0, hzz, hz2⟩ := info_parts Try.infoNu
  obtain ⟨W2, hrun, hrow, hgr⟩ := run_makeSlice_full (P := Try.prog) (w := W1) W1.heap.size 38 3 i0 (.int .i64 0) 1 Try.underlying38 hi hz0 hzz .i64 .i64 D (by omega) (by rw [hz2]; omega) (by simp only [maxLen]; omega) (Nat.le_refl _)
  have hf12 : Fr (fun _ => False) W1 W2 := (Fr.refl (fun _ => False) W1).grown hgr (fun g hg => by cases hg)
  rw [hDB] at hrun hrow
  have HMK := hide hrun
  have HB := hide (And.intro hb0 (And.intro (hf1.trans0 hf12) (And.intro hrow (And.intro hf12 (hz1.symm.trans hDB)))))
  have HOU := hide (((unhide HSS).fr0 (hf1.trans0 hf12)).out)
  clear hs hf ho hR hN hD hf1 hb0 hz1 hrun hrow hgr hf12 hi hz0 hzz hz2
  go_enter Try.func24, Try.ntmps24
  go_wp2_with (refine wpList_mkN rfl 38 (.tmp 13) (.tmp 13) rfl _ _ _ (by simp [Act.eval]) (by simp [Act.eval]) (unhide HMK) ?_)
  refine (unhide HOU).mono ?_
  rintro e w4 ⟨hv, tv, rfl, W3, R, hfo, hO⟩
  obtain ⟨ho, hc, rfl⟩ := own_formX hO.h
  obtain ⟨to_, tc, rfl⟩ := own_formX hO.t
  obtain ⟨L, hL⟩ : ∃ L, (wl cs).length = L := ⟨_, rfl⟩
  rw [hL] at hO ⊢
  have HOI := hide (And.intro hO (And.intro hfo hL))
  have HTI : Hid (TI w4 w4 DB D cs l 0 (.slice none 0 0)) := hide ⟨Fr.refl _ _, World.ownsRow_nil _ _ _ _, ⟨_, ownsRow_base (ownsRow_of_block (unhide HB).2.2.1 (fun g hg => (hfo.trans0 hO.fr).block g ((unhide HB).2.2.1.lt g hg).2 (fun h => h))) (Nat.zero_le _), fun i x hi => absurd hi (Nat.not_lt_zero _)⟩⟩
  clear HOU HMK hO hfo hL c2 hW1
  go_upto_block 0 with fail
  go_cut [5, 9, 10, 11] from 20 to 78 (fun wv kv _ _ wr => kv = .int .i64 (L : Nat) ∧ TI w4 wr DB D cs l N wv)
  case first =>
    go_wp2_with fail
    go_loopw [5, 9, 10, 11] (fun wv kv iv _ wr => ∃ m : Nat, m ≤ N ∧ iv = .int .i64 ((m : Int) + 1) ∧ kv = .int .i64 ((wlm cs m).length : Nat) ∧ TI w4 wr DB D cs l m wv) (fun _ _ iv _ _ => N + 1 - (intOf iv).toNat)
    case atStart => exact ⟨0, Nat.zero_le _, rfl, rfl, unhide HTI⟩
    case round =>
      clear HTI
      obtain ⟨m, hm, rfl, rfl, hT⟩ := hrel
      rename World => wr
      have HT := hide hT
      have hfw : Fr (fun g => g = DB) w wr := (((unhide HB).2.1.trans0 ((unhide HOI).2.1.trans0 (unhide HOI).1.fr)).mono (fun _ _ e => e.elim)).trans hT.f (fun _ _ e => e)
      have hnw : ∀ g, g < w.heap.size → g ≠ DB := fun g hg e => by have := (unhide HB).2.2.2.2; omega
      have hbr : wr.heap[w.heap.size]? = some (.cells #[.int .u32 (c : Nat), .slice ao N cap, .int .i64 (D : Nat)] 60) := by
        have h1 := (((unhide HB).2.2.2.1.trans0 ((unhide HOI).2.1.trans0 (unhide HOI).1.fr)).block _ (lt_of_block (unhide HB).1) (fun h => h)).trans (unhide HB).1
        exact (hT.f.block _ (lt_of_block h1) (fun e => by have := (unhide HB).2.2.2.2; omega)).trans h1
      have c1 : wr.cell? ⟨w.heap.size, 1, none⟩ = some (.slice ao N cap) := cell_of_blk hbr rfl
      have HFW := hide (And.intro hfw (And.intro hnw hbr))
      clear hT hfw hnw hbr
      by_cases hlt : m < N
      · have l1 : (m : Int) + 1 ≤ (N : Int) := by omega
        have l3 : (0 : Int) ≤ (m : Int) := by omega
        have l4 : (m : Int) < (N : Int) := by omega
        have hwi : wrap64 ((m : Int) + 1 - 1) = (m : Int) := by unfold wrap64; omega
        have hw2 : wrap64 ((m : Int) + 1 + 1) = (m : Int) + 1 + 1 := by unfold wrap64; omega
        obtain ⟨x, hx⟩ : ∃ x, l[m]? = some x := ⟨_, List.getElem?_eq_getElem (by have := (unhide HNN).1; omega)⟩
        obtain ⟨q, hq⟩ : ∃ q, cs[m]? = some q := ⟨_, List.getElem?_eq_getElem (by have := (unhide HNN).1; have := (unhide HRL).n; omega)⟩
        have hq0 := (unhide HRL).q m q x hq hx
        have hok := ((unhide HRL).k x (List.mem_of_getElem? hx)).1
        have hrow := unhide HO
        unfold OwC at hrow
        rw [(unhide HNN).1] at hrow
        obtain ⟨g, cp, eg, _, hg⟩ := own_one_form hrow (by omega)
        cases eg
        have hcx : wr.rangeAt g (m * 20) x.cs := fun j u hu => by
          have h20 : j < 20 := by have := (List.getElem?_eq_some_iff.1 hu).1; rwa [RC.len] at this
          have h1 := hg (m * 20 + j) u (by rw [ccells_at l m j x hx h20]; exact hu)
          exact ((unhide HFW).1.cell (p := ⟨g, m * 20 + j, none⟩) (lt_of_cell h1) ((unhide HFW).2.1 g (lt_of_cell h1))).trans h1
        have H1 := hide hok.one
        have HQ := hide (And.intro hq (And.intro hx hq0))
        obtain ⟨⟨xcl, xnu, xac, xop, xrc, xve, xwa, xow, xfv, xrs⟩, xF, xo, ⟨xdl, xdn, xdo, xdr, xdv, xgv, xhv⟩, xG, xK, xc, xb⟩ := x
        obtain ⟨xfo, xfc, e, _⟩ := hok.f.f
        simp only at e
        subst e
        obtain ⟨xgo, xgc, e, _⟩ := hok.g.f
        simp only at e
        subst e
        obtain ⟨xho, xhc, e, _⟩ := hok.k.f
        simp only at e
        subst e
        have HOK := hide hok
        simp only [RC.cs, RQ.cs, AN.cs, List.cons_append, List.nil_append] at hcx
        have HR5 := hide hcx
        obtain ⟨W6, hst6, hb6, hf6⟩ := st_all (P := Try.prog) (ty := 66) [.int .u32 0, .int .u32 0, .int .u32 0, .int .u8 0, .int .u32 0, .int .u32 0, .int .u32 0, .int .u32 0, .slice none 0 0, .string ⟨#[]⟩, .int .i64 0, .int .u32 0, .int .u32 0, .int .u8 0, .int .u32 0, .int .u32 0, .slice none 0 0, .slice none 0 0, .int .u8 0, .int .i64 0] [.int .u32 (xcl : Nat), .int .u32 (xnu : Nat), .int .u32 (xac : Nat), .int .u8 (xop : Nat), .int .u32 (xrc : Nat), .int .u32 (xve : Nat), .int .u32 (xwa : Nat), .int .u32 (xow : Nat), (.slice xfo xF.length xfc), .string xrs, .int .i64 (xo : Nat), .int .u32 (xdl : Nat), .int .u32 (xdn : Nat), .int .u8 (xdo : Nat), .int .u32 (xdr : Nat), .int .u32 (xdv : Nat), (.slice xgo xG.length xgc), (.slice xho xK.length xhc), .int .u8 (xc : Nat), .int .i64 (xb : Nat)] (heap_alloc_new wr (.cells #[.int .u32 0, .int .u32 0, .int .u32 0, .int .u8 0, .int .u32 0, .int .u32 0, .int .u32 0, .int .u32 0, .slice none 0 0, .string ⟨#[]⟩, .int .i64 0, .int .u32 0, .int .u32 0, .int .u8 0, .int .u32 0, .int .u32 0, .slice none 0 0, .slice none 0 0, .int .u8 0, .int .i64 0] 66)) rfl Try.sizeCl (unhide H1)
        have hf56 : Fr (fun _ => False) wr W6 := (box1 wr _).trans hf6 (fun g hg e => by omega)
        have d10 : W6.cell? ⟨wr.heap.size, 10, none⟩ = some (.int .i64 (xo : Nat)) := cell_of_blk hb6 rfl
        have HST6 := hide hst6
        have HB6 := hide (And.intro hb6 hf56)
        obtain ⟨XS, hXS⟩ : ∃ XS : List Value, XS = [.int .u32 (xcl : Nat), .int .u32 (xnu : Nat), .int .u32 (xac : Nat), .int .u8 (xop : Nat), .int .u32 (xrc : Nat), .int .u32 (xve : Nat), .int .u32 (xwa : Nat), .int .u32 (xow : Nat), (.slice xfo xF.length xfc), .string xrs, .int .i64 (xo : Nat), .int .u32 (xdl : Nat), .int .u32 (xdn : Nat), .int .u8 (xdo : Nat), .int .u32 (xdr : Nat), .int .u32 (xdv : Nat), (.slice xgo xG.length xgc), (.slice xho xK.length xhc), .int .u8 (xc : Nat), .int .i64 (xb : Nat)] := ⟨_, rfl⟩
        rw [← hXS] at HR5 HST6
        have hsx : (Try.prog.info? 66).map (·.size) = some XS.length := by rw [hXS]; exact Try.sizeCl
        clear hXS hst6 hb6 hf6 hf56 hcx hrow hg hok hx hq
        by_cases hxo : 0 < xo
        · have e1 : (0 : Int) < (xo : Int) := by omega
          obtain ⟨hq, hx, hq0⟩ := unhide HQ
          obtain ⟨y, hd⟩ : ∃ y, q.d = some y := by
            cases hd : q.d with
            | none => have := (hq0.w hd).1; simp only at this; omega
            | some y => exact ⟨y, rfl⟩
          obtain ⟨_, g2, _⟩ := hq0.d y hd
          simp only at g2
          obtain ⟨j, rfl⟩ : ∃ j, xo = j + 1 := ⟨xo - 1, by omega⟩
          rw [Nat.add_sub_cancel] at g2
          have hjD : j < D := by have := (List.getElem?_eq_some_iff.1 g2).1; have := (unhide HNN).2; omega
          have hwj : wrap64 ((j : Int) + 1 - 1) = (j : Int) := by unfold wrap64; omega
          have l5 : (0 : Int) ≤ (j : Int) := by omega
          have l6 : (j : Int) < (D : Int) := by omega
          obtain ⟨xs, hrx, hxs⟩ := (unhide HT).d
          have hrx6 := ownsRow_of_block hrx (fun g hg => (unhide HB6).2.block g (hrx.lt g hg).2 (fun h => h))
          obtain ⟨⟨zz, hzz⟩, zf⟩ := own_cell hrx6 (j := j) (by omega)
          obtain ⟨W7, hW7⟩ : ∃ W7, W6.setCell ⟨DB, j, none⟩ (.int .i64 ((m : Int) + 1)) = W7 := ⟨_, rfl⟩
          have hz4 : DB < w4.heap.size := by
            have h1 := ((unhide HB).2.2.1.lt DB rfl).2
            have h2 := ((unhide HOI).2.1.trans0 (unhide HOI).1.fr).size
            omega
          have HT7 : Hid (TI w4 W7 DB D cs l (m + 1) u5) := hide (by
            have f67 : Fr (fun g => g = DB) W6 W7 := by rw [← hW7]; exact (Fr.refl (fun g => g = DB) _).setCell (p := ⟨DB, j, none⟩) (.inl rfl) _
            have f47 : Fr (fun g => g = DB) wr W7 := ((unhide HB6).2.mono (fun _ _ e => e.elim)).trans f67 (fun _ _ e => e)
            refine ⟨(unhide HT).f.trans f47 (fun _ _ e => e), ?_, ⟨_, by rw [← hW7]; exact own_set hrx6 rfl j (.int .i64 ((m : Int) + 1)), fun i x hi hxi hxo => ?_⟩⟩
            · rw [wlm_done hq hd]
              exact ownsRow_of_block (unhide HT).w (fun g hg => f47.block g ((unhide HT).w.lt g hg).2 (fun e => by have := ((unhide HT).w.lt g hg).1; omega))
            · have hxl : j < xs.length := by have := hrx.1; omega
              by_cases e : i = m
              · subst e
                rw [hx] at hxi
                cases hxi
                simp only [Nat.add_sub_cancel]
                exact List.getElem?_set_self hxl
              · obtain ⟨q2, hq2⟩ : ∃ q2, cs[i]? = some q2 := ⟨_, List.getElem?_eq_getElem (by have := (List.getElem?_eq_some_iff.1 hq).1; omega)⟩
                have hr2 := (unhide HRL).q i q2 x hq2 hxi
                obtain ⟨y2, hd2⟩ : ∃ y, q2.d = some y := by
                  cases hd2 : q2.d with
                  | none => have := (hr2.w hd2).1; omega
                  | some y => exact ⟨y, rfl⟩
                have g3 := (hr2.d y2 hd2).2.1
                rw [List.getElem?_set_ne (fun e2 => by rw [← e2, g2] at g3; simp at g3; omega)]
                exact hxs i x (by omega) hxi hxo)
          have hkl : (wlm cs (m + 1)).length = (wlm cs m).length := by rw [wlm_done hq hd]
          clear hq hx hq0 g2 hrx hrx6 hxs HQ
          go_wp2_with (first | refine wpList_allocN rfl 66 rfl _ (alloc_cl wr) ?_ | refine wpList_load_mid rfl 66 (.tmp 31) rfl g (m * 20) rfl _ _ (unhide HR5) Try.underlying66 rfl hsx ?_ | refine wpList_stN rfl 66 (.tmp 11) (.tmp 32) rfl _ _ rfl rfl (unhide HST6) ?_)
          go_roundw
          case rel => exact ⟨m + 1, by omega, by go_num, by rw [hkl], unhide HT7⟩
          case measure => simp [intOf]; omega
        · obtain ⟨hq, hx, hq0⟩ := unhide HQ
          have hd : q.d = none := by
            cases hd : q.d with
            | none => rfl
            | some y => exact absurd (hq0.d y hd).1 hxo
          have e1 : ¬ (0 : Int) < (xo : Int) := fun h => hxo (Int.ofNat_lt.1 h)
          obtain ⟨K, gh, ch, gt, ct, vv, bo, bc, W7, hK, hKL, hL4, egh, egt, hap, hT7, hkl, hTW, hRQ⟩ := told_wait (unhide HSS) (unhide HF0) (unhide HRL) ((unhide HB).2.1.trans0 (unhide HOI).2.1) (Nat.le_trans (Nat.le_succ _) (Nat.le_of_eq (unhide HB).2.2.2.2)) (Nat.lt_of_lt_of_le ((unhide HB).2.2.1.lt DB rfl).2 (unhide HOI).2.1.size) (unhide HOI).1 (unhide HOI).2.2 (unhide HT) hx hq hd (unhide HB6).1 (unhide HB6).2
          cases egh
          cases egt
          simp only at hTW hRQ
          have HAP := hide hap
          have HT7 := hide hT7
          have HS : Hid (∀ W', Fr (fun _ => False) W7 W' → (fun W : World => TW W gh gt wr.heap.size K c m q vv (.slice xfo xF.length xfc)) W') := hide hTW
          have HRQ := hide hRQ
          have HKL := hide hkl
          rw [hK]
          clear hq hx hq0 hd hK hap hT7 hTW hRQ hkl HQ H1 HOK HB6 HT HFW
          have lK : ¬ (L : Int) ≤ (K : Int) := fun h => Nat.not_lt.2 (Int.ofNat_le.1 h) hKL
          have lK2 : (K : Int) < (L : Int) := Int.ofNat_lt.2 hKL
          have lK3 : (0 : Int) ≤ (K : Int) := Int.natCast_nonneg K
          have hwK := wrapS K (Nat.le_trans (Nat.le_of_lt hKL) (Nat.le_trans hL4 (by decide)))
          go_wp2_with (first | refine wpList_allocN rfl 66 rfl _ (alloc_cl wr) ?_ | refine wpList_load_mid rfl 66 (.tmp 31) rfl g (m * 20) rfl _ _ (unhide HR5) Try.underlying66 rfl hsx ?_ | refine wpList_stN rfl 66 (.tmp 11) (.tmp 32) rfl _ _ rfl rfl (unhide HST6) ?_ | refine wpList_app rfl (.tmp 42) (.tmp 44) 38 38 rfl _ _ _ (by simp [Act.eval]) (by simp [Act.eval]) (unhide HAP) ?_)
          have lKn : ¬ (L : Int) ≤ (K : Int) := fun h => Nat.not_lt.2 (Int.ofNat_le.1 h) hKL
          have lKb : decide ((L : Int) ≤ (K : Int)) = false := decide_eq_false lKn
          refine wp_region_held_drew (S := (fun W : World => TW W gh gt wr.heap.size K c m q vv (.slice xfo xF.length xfc))) (by kernel_rfl) ((unhide HS) _ (Fr.refl _ _).drew) (fun hHeld => ?_)
          refine wtk2 (i := 0) rfl hHeld ?_
          (try simp only [Act.put, nrm])
          refine wtk2 (i := 1) rfl hHeld ?_
          (try simp only [Act.put, nrm])
          refine wtk2 (i := 2) rfl hHeld ?_
          (try simp only [Act.put, nrm])
          refine wtk2 (i := 3) rfl hHeld ?_
          (try simp only [Act.put, nrm])
          refine wtk2 (i := 4) rfl hHeld ?_
          (try simp only [Act.put, nrm])
          refine wtk2 (i := 5) rfl hHeld ?_
          (try simp only [Act.put, nrm])
          refine wtk2 (i := 6) rfl hHeld ?_
          (try simp only [Act.put, nrm])
          refine wtk2 (i := 7) rfl hHeld ?_
          (try simp only [Act.put, nrm])
          refine wtk2 (i := 8) rfl hHeld ?_
          (try simp only [Act.put, nrm])
          refine wtk2 (i := 9) rfl hHeld ?_
          (try simp only [Act.put, nrm])
          refine wtk2 (i := 10) rfl hHeld ?_
          (try simp only [Act.put, nrm])
          refine wtk2 (i := 11) rfl hHeld ?_
          (try simp only [Act.put, nrm])
          refine wtk2 (i := 12) rfl hHeld ?_
          (try simp only [Act.put, nrm])
          refine wtk2 (i := 13) rfl hHeld ?_
          (try simp only [Act.put, nrm])
          refine wtk (i := 14) rfl (yieldsIf_load_mid rfl 49 (.tmp 59) rfl gh (K * 35) rfl _ _ (fun w h => h.h) Try.underlying49 rfl Try.sizeMs) hHeld ?_
          (try simp only [Act.put, nrm])
          refine wtk2 (i := 15) rfl hHeld ?_
          (try simp only [Act.put, nrm])
          refine wtk (i := 16) rfl (yieldsIf_load_mid rfl 34 (.tmp 61) rfl wr.heap.size 0 rfl _ _ (fun w h => h.b) Try.underlying34 rfl Try.sizeRq) hHeld ?_
          (try simp only [Act.put, nrm])
          refine wpAnyH_ready (rs := [17]) (by kernel_rfl) (by simp) (AllReadyH.cons rfl (fun K hK => ?_) AllReadyH.nil)
          go_simp
          refine ((unhide HRQ) _ (Fr.refl _ _).drew).mono ?_
          rintro e w8 ⟨rfl, hf8⟩
          have hf78 : Fr (fun _ => False) W7 w8 := (Fr.refl _ _).drew.trans0 hf8
          clear hf8
          try dsimp only
          refine hK.out _ _ ((unhide HS) _ hf78) (fun hHeld => ?_)
          clear hK K
          (try simp only [Act.put, nrm])
          refine wtk2 (i := 18) rfl hHeld ?_
          (try simp only [Act.put, nrm])
          refine wtk2 (i := 19) rfl hHeld ?_
          (try simp only [Act.put, nrm])
          refine wtk2 (i := 20) rfl hHeld ?_
          (try simp only [Act.put, nrm])
          refine wtk2 (i := 21) rfl hHeld ?_
          (try simp only [Act.put, nrm])
          refine wtk2 (i := 22) rfl hHeld ?_
          (try simp only [Act.put, nrm])
          refine wtk2 (i := 23) rfl hHeld ?_
          (try simp only [Act.put, nrm])
          refine wtk (i := 24) rfl (yieldsIf_load_mid rfl 49 (.tmp 69) rfl gt (K * 35) rfl _ _ (fun w h => h.t) Try.underlying49 rfl Try.sizeMs) hHeld ?_
          (try simp only [Act.put, nrm])
          refine wtk2 (i := 25) rfl hHeld ?_
          (try simp only [Act.put, nrm])
          refine wtk2 (i := 26) rfl hHeld ?_
          (try simp only [Act.put, nrm])
          refine wtk (i := 27) rfl (yieldsIf_load_mid rfl 29 (.tmp 72) rfl wr.heap.size 0 rfl _ _ (fun w h => h.i) Try.underlying29 rfl Try.sizeId2) hHeld ?_
          (try simp only [Act.put, nrm])
          refine wpAnyH_ready (rs := [28]) (by kernel_rfl) (by simp) (AllReadyH.cons rfl (fun K hK => ?_) AllReadyH.nil)
          have HAK : Hid (Calls Try.prog 40 #[.agg (tmsg c (m + 1)).toArray, .agg #[.int .u32 (c : Nat), .int .u32 ((m : Int) + 1)]] w8 fun e w' => e = .returned (.bool true) ∧ Fr (fun _ => False) w8 w') := hide (asked_true c (m + 1) w8)
          go_simp
          refine (unhide HAK).mono ?_
          clear HAK
          rintro e w9 ⟨rfl, hf9⟩
          have hf79 : Fr (fun _ => False) W7 w9 := hf78.trans0 hf9
          clear hf9
          try dsimp only
          refine hK.out _ _ ((unhide HS) _ hf79) (fun hHeld => ?_)
          clear hK K
          (try simp only [Act.put, nrm])
          refine wtk2 (i := 29) rfl hHeld ?_
          (try simp only [Act.put, nrm])
          refine wtk2 (i := 30) rfl hHeld ?_
          (try simp only [Act.put, nrm])
          refine wpAnyH_done (by kernel_rfl) ?_ _
          have HT9 : Hid (TI w4 w9 DB D cs l (m + 1) (.slice bo (K + 1) bc)) := hide ⟨(unhide HT7).f.trans hf79 (fun _ _ e => e.elim), ownsRow_of_block (unhide HT7).w (fun g hg => hf79.block g ((unhide HT7).w.lt g hg).2 (fun h => h)), by
            obtain ⟨xs, hrx, hxs⟩ := (unhide HT7).d
            exact ⟨xs, ownsRow_of_block hrx (fun g hg => hf79.block g (hrx.lt g hg).2 (fun h => h)), hxs⟩⟩
          clear hHeld HS HRQ hf78 hf79 HT7
          go_wp2_with fail
          go_roundw
          case rel => exact ⟨m + 1, hlt, by go_num, by rw [unhide HKL, hwK]; rfl, unhide HT9⟩
          case measure => simp [intOf]; omega

      · obtain rfl : m = N := by omega
        have l1 : ¬ (m : Int) + 1 ≤ (m : Int) := by omega
        have hkl : (wlm cs m).length = L := by
          have h1 := (unhide HNN).1
          have h2 := (unhide HRL).n
          rw [show m = cs.length by omega, wlm_all]
          exact (unhide HOI).2.2
        rw [hkl]
        go_wp2_with fail
        go_meet
        case rel => exact ⟨rfl, unhide HT⟩
  case rest =>
    obtain ⟨e9, hT⟩ := hcut
    subst e9
    have hDw := (unhide HB).2.2.2.2
    have hfw : Fr (fun g => g = DB) w wc := (((unhide HB).2.1.trans0 ((unhide HOI).2.1.trans0 (unhide HOI).1.fr)).mono (fun _ _ e => e.elim)).trans hT.f (fun _ _ e => e)
    have HFZ : Hid (Fr (fun _ => False) w wc) := hide ((Fr.refl (fun _ => False) w).trans hfw (fun g hg e => by omega))
    have HSC := hide ((unhide HSS).fr hfw (fun g hg e => by have := (unhide HSS).lt g hg; omega))
    have hbr : wc.heap[w.heap.size]? = some (.cells #[.int .u32 (c : Nat), .slice ao N cap, .int .i64 (D : Nat)] 60) := by
      have h1 := (((unhide HB).2.2.2.1.trans0 ((unhide HOI).2.1.trans0 (unhide HOI).1.fr)).block _ (lt_of_block (unhide HB).1) (fun h => h)).trans (unhide HB).1
      exact (hT.f.block _ (lt_of_block h1) (fun e => by omega)).trans h1
    have hNc : N = cs.length := by have h1 := (unhide HNN).1; have h2 := (unhide HRL).n; omega
    have hwt := hT.w
    rw [hNc, wlm_all] at hwt
    have hL := (unhide HOI).2.2
    obtain ⟨wo, wk, ew⟩ := own_formX hwt
    rw [hL] at ew
    subst ew
    obtain ⟨xs, hrx, hxs⟩ := hT.d
    have hxe : xs = dn.map (fun k : Nat => Value.int .i64 (k : Nat)) := by
      have hxl := hrx.1
      have hdD := (unhide HNN).2
      apply List.ext_getElem?
      intro j
      by_cases hj : j < D
      · obtain ⟨k, hk⟩ : ∃ k, dn[j]? = some k := ⟨_, List.getElem?_eq_getElem (by omega)⟩
        obtain ⟨i, x, e1, e2, e3⟩ := (unhide HRL).g j k hk
        have h4 := hxs i x (by have := (List.getElem?_eq_some_iff.1 e2).1; have := (unhide HNN).1; omega) e2 (by omega)
        rw [e3, Nat.add_sub_cancel] at h4
        rw [h4, List.getElem?_map, hk, e1]
        rfl
      · rw [List.getElem?_eq_none (by omega), List.getElem?_eq_none (by rw [List.length_map]; omega)]
    rw [hxe] at hrx
    have one1 : ∀ (l : List Nat), ∀ u ∈ l.map (fun k : Nat => Value.int .i64 (k : Nat)), u.oneCell' = true := fun l u hu => by
      obtain ⟨k, _, rfl⟩ := List.mem_map.1 hu
      rfl
    have one2 : ∀ (l : List (Nat × Nat)), ∀ u ∈ icells l, u.oneCell' = true := fun l u hu => by
      simp only [icells, List.mem_flatMap] at hu
      obtain ⟨f, _, hu⟩ := hu
      simp at hu
      rcases hu with rfl | rfl <;> rfl
    have HWT : Hid (∀ W', Fr (fun _ => False) wc W' → Rd W' (.slice wo L wk) (wl cs).length 1 ((wl cs).map fun k : Nat => .int .i64 (k : Nat))) := hide (fun W' hf' => (own_rd hwt (one1 _)).fr0 hf')
    have HDT : Hid (∀ W', Fr (fun _ => False) wc W' → Rd W' (.slice (some ⟨DB, 0, none⟩) D D) dn.length 1 (dn.map fun k : Nat => .int .i64 (k : Nat))) := hide (fun W' hf' => by rw [(unhide HNN).2]; exact (own_rd hrx (one1 _)).fr0 hf')
    have HS : Hid (∀ W', Fr (fun _ => False) wc W' → (fun W : World => W.cell? ⟨w.heap.size, 0, none⟩ = some (.int .u32 (c : Nat))) W') := hide (fun W' hf' => cell_of_blk ((hf'.block _ (lt_of_block hbr) (fun h => h)).trans hbr) rfl)
    have HON := hide one2
    have hsl := hl
    clear hT hfw hbr hNc hwt hrx hxs hxe one1 one2 hDw hL HB HTI
    go_wp2_with fail
    refine wp_region_held_drew (S := (fun W : World => W.cell? ⟨w.heap.size, 0, none⟩ = some (.int .u32 (c : Nat)))) (by kernel_rfl) ((unhide HS) _ (Fr.refl _ _).drew) (fun hHeld => ?_)
    refine wtk2 (i := 0) rfl hHeld ?_
    (try simp only [Act.put, nrm])
    refine wtk2 (i := 1) rfl hHeld ?_
    (try simp only [Act.put, nrm])
    refine wtk2 (i := 2) rfl hHeld ?_
    (try simp only [Act.put, nrm])
    refine wtk2 (i := 3) rfl hHeld ?_
    (try simp only [Act.put, nrm])
    refine wtk2 (i := 4) rfl hHeld ?_
    (try simp only [Act.put, nrm])
    refine wtk2 (i := 5) rfl hHeld ?_
    (try simp only [Act.put, nrm])
    refine wtk2 (i := 6) rfl hHeld ?_
    (try simp only [Act.put, nrm])
    refine wtk2 (i := 7) rfl hHeld ?_
    (try simp only [Act.put, nrm])
    refine wtk2 (i := 8) rfl hHeld ?_
    (try simp only [Act.put, nrm])
    refine wtk2 (i := 9) rfl hHeld ?_
    (try simp only [Act.put, nrm])
    refine wtk2 (i := 10) rfl hHeld ?_
    (try simp only [Act.put, nrm])
    refine wtk2 (i := 11) rfl hHeld ?_
    (try simp only [Act.put, nrm])
    refine wtk2 (i := 13) rfl hHeld ?_
    (try simp only [Act.put, nrm])
    refine wtk2 (i := 14) rfl hHeld ?_
    (try simp only [Act.put, nrm])
    refine wtk2 (i := 15) rfl hHeld ?_
    (try simp only [Act.put, nrm])
    refine wpAnyH_ready (rs := [12]) (by kernel_rfl) (by simp) (AllReadyH.cons rfl (fun K hK => ?_) AllReadyH.nil)
    go_simp
    refine ((unhide HSC).fr0 (Fr.refl _ _).drew).waiting.mono ?_
    rintro e w8 ⟨v8, rfl, ho8, hf8⟩
    have h8 : Fr (fun _ => False) wc w8 := (Fr.refl _ _).drew.trans0 hf8
    have HV8 : Hid (Rd w8 v8 (wl cs).length 2 (icells ((wl cs).map fun k => (c, k)))) := hide (by
      have := own_rd ho8 ((unhide HON) _)
      rwa [List.length_map] at this)
    clear ho8 hf8
    try dsimp only
    refine hK.out _ _ ((unhide HS) _ h8) (fun hHeld => ?_)
    clear hK K
    (try simp only [Act.put, nrm])
    refine wpAnyH_ready (rs := [16]) (by kernel_rfl) (by simp) (AllReadyH.cons rfl (fun K hK => ?_) AllReadyH.nil)
    have HI := hide (ids_true v8 (.slice wo L wk) c (wl cs) w8 (unhide HV8) ((unhide HWT) w8 h8) (by have := wl_le0 cs; have := (unhide HSS).len; omega) (fun k hk => by have := wl_small cs k hk; have := (unhide HSS).len; omega))
    go_simp
    refine (unhide HI).mono ?_
    clear HI
    rintro e w9 ⟨rfl, hf9⟩
    have h9 : Fr (fun _ => False) wc w9 := h8.trans0 hf9
    clear hf9
    try dsimp only
    refine hK.out _ _ ((unhide HS) _ h9) (fun hHeld => ?_)
    clear hK K
    (try simp only [Act.put, nrm])
    refine wtk2 (i := 17) rfl hHeld ?_
    (try simp only [Act.put, nrm])
    refine wtk2 (i := 18) rfl hHeld ?_
    (try simp only [Act.put, nrm])
    refine wtk2 (i := 19) rfl hHeld ?_
    (try simp only [Act.put, nrm])
    refine wtk2 (i := 21) rfl hHeld ?_
    (try simp only [Act.put, nrm])
    refine wtk2 (i := 22) rfl hHeld ?_
    (try simp only [Act.put, nrm])
    refine wtk2 (i := 23) rfl hHeld ?_
    (try simp only [Act.put, nrm])
    refine wpAnyH_ready (rs := [20]) (by kernel_rfl) (by simp) (AllReadyH.cons rfl (fun K hK => ?_) AllReadyH.nil)
    go_simp
    refine ((unhide HSC).fr0 h9).done.mono ?_
    rintro e w10 ⟨v10, rfl, ho10, hf10⟩
    have h10 : Fr (fun _ => False) wc w10 := h9.trans0 hf10
    have HV10 : Hid (Rd w10 v10 dn.length 2 (icells (dn.map fun k => (c, k)))) := hide (by
      have := own_rd ho10 ((unhide HON) _)
      rwa [List.length_map] at this)
    clear ho10 hf10
    try dsimp only
    refine hK.out _ _ ((unhide HS) _ h10) (fun hHeld => ?_)
    clear hK K
    (try simp only [Act.put, nrm])
    refine wpAnyH_ready (rs := [24]) (by kernel_rfl) (by simp) (AllReadyH.cons rfl (fun K hK => ?_) AllReadyH.nil)
    have HI := hide (ids_true v10 (.slice (some ⟨DB, 0, none⟩) D D) c dn w10 (unhide HV10) ((unhide HDT) w10 h10) (by rw [(unhide HNN).2]; omega) (fun k hk => by
      obtain ⟨j, hj⟩ := List.getElem?_of_mem hk
      obtain ⟨i, x, e1, e2, _⟩ := (unhide HRL).g j k hj
      have := (List.getElem?_eq_some_iff.1 e2).1
      have := (unhide HNN).1
      omega))
    go_simp
    refine (unhide HI).mono ?_
    clear HI
    rintro e w11 ⟨rfl, hf11⟩
    have h11 : Fr (fun _ => False) wc w11 := h10.trans0 hf11
    clear hf11
    try dsimp only
    refine hK.out _ _ ((unhide HS) _ h11) (fun hHeld => ?_)
    clear hK K
    (try simp only [Act.put, nrm])
    refine wtk2 (i := 25) rfl hHeld ?_
    (try simp only [Act.put, nrm])
    refine wtk2 (i := 26) rfl hHeld ?_
    (try simp only [Act.put, nrm])
    refine wpAnyH_done (by kernel_rfl) ?_ _
    have HE := hide ((unhide HFZ).trans0 h11)
    clear hHeld HS h8 h9 h10 h11
    go_wp2_with fail
    go_ret
    exact ⟨rfl, unhide HE⟩

end Go.Proofs.Ytkiepcdncegniaa
