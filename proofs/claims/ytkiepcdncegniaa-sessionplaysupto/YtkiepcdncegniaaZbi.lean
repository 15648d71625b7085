import Derived.Test.YtkiepcdncegniaaZbh
namespace Go.Proofs.Ytkiepcdncegniaa
open Go.RowKit Go.Maps

theorem step_del {P : Program} {w w' : World} {ops : Array Oper} {op : Oper} {a : Act} {K : Act → World → Prop} {Q : Exit → Act → World → Prop} {E : Prop} (hgd : op.guard = none) (t u : TypeId) (m x : Operand) (ho : op.op = .call { callee := .builtin .delete, args := #[m, x], argTypes := #[t, u] })
    (vm vx v : Value) (hm : a.eval m = vm) (hx : a.eval x = vx) (hr : (Builtin.delete_ #[t, u] op.type #[vm, vx]).run P w = .ok v w')
    (h : K (a.put op.dst v) w') : if Region.wanted op (yielded ops a.tmps) = true then Oper.wp P op a w K Q else E := by
  have hw : Region.wanted op (yielded ops a.tmps) = true := by simp [Region.wanted, hgd]
  rw [if_pos hw]
  unfold Oper.wp execOp
  simp only [ho, resolve, invoke, builtin, Sem.run_bind, Sem.run_pure, Result.andThen_ok, List.map_toArray, List.map_cons, List.map_nil, hm, hx, hr]
  exact h
theorem step_app {P : Program} {w w' : World} {ops : Array Oper} {o : Oper} {a : Act} {K : Act → World → Prop} {Q : Exit → Act → World → Prop} {E : Prop} (hgd : o.guard = none) (s x : Operand) (t u : TypeId)
    (ho : o.op = .call { callee := .builtin .append, args := #[s, x], argTypes := #[t, u] }) (vs vx v' : Value) (hs : a.eval s = vs) (hx : a.eval x = vx) (hr : (Builtin.append_ #[t, u] o.type #[vs, vx]).run P w = .ok v' w')
    (h : K (a.put o.dst v') w') : if Region.wanted o (yielded ops a.tmps) = true then Oper.wp P o a w K Q else E := by
  have hw : Region.wanted o (yielded ops a.tmps) = true := by simp [Region.wanted, hgd]
  rw [if_pos hw]
  unfold Oper.wp execOp
  simp only [ho, resolve, invoke, builtin, Sem.run_bind, Sem.run_pure, Result.andThen_ok, List.map_toArray, List.map_cons, List.map_nil, hs, hx, hr]
  exact h
set_option maxRecDepth 100000 in
set_option maxHeartbeats 8000000 in
/-- takeAnswer of a request that waits. -/
theorem sta_wait (d mw ma c : Nat) (cs : List SC) (dn : List Nat) (dv : Value) (T : Nat → Prop) (w : World) (h : SsAt w d mw ma c cs dn dv T) (i : Nat) (q : SC) (hq : cs[i]? = some q) (hd : q.d = none) (co rc ve : Nat) (fv hv : Value) (F : List F5) (H : List SM)
    (hF : Rd w fv F.length 5 (fcells F)) (hH : Rd w hv H.length 4 (scells H)) (hFl : F.length ≤ 1048576) (hHl : H.length ≤ 1048576) (hdl : dn.length ≤ 1048575) :
    Calls Try.prog 27 #[.pointer (some ⟨d, 0, none⟩), .agg #[.int .u32 (c : Nat), .int .u32 ((i : Int) + 1), .int .u8 (co : Nat), .int .u32 (rc : Nat), .int .u32 (ve : Nat), fv, hv]] w fun e w' => e = .returned (.int .i64 0) ∧ ∃ v u dv', SsAt w' d mw ma c (cs.set i { q with d := some ⟨⟨c, i + 1, co, rc, ve, v, u⟩, F, H⟩ }) (dn ++ [i + 1]) dv' (fun g => T g ∨ Nb w w' g) ∧ Fr (fun g => g = mw ∨ g = ma ∨ dv.ownBlock = some g ∨ g = d) w w' := by
  have hiN : ((i : Int) + 1) = (((i + 1 : Nat)) : Int) := rfl
  obtain ⟨em, km, hmb⟩ := h.wm.blk
  obtain ⟨ea, ka, hab⟩ := h.am.blk
  have hil := (List.getElem?_eq_some_iff.1 hq).1
  have hcl := h.len
  have hc16 := h.c16
  have hdm := h.dm
  have hdvd : ∀ g, dv.ownBlock = some g → g ≠ d ∧ g ≠ mw ∧ g ≠ ma := fun g hg => h.dn.ne h (by decide) hg
  have HL : Hid (∀ W', Fr (fun _ => False) w W' → (Instr.lookup 83 (.map (some mw)) (.agg #[.int .u32 (c : Nat), .int .u32 ((i : Int) + 1)]) true).run Try.prog W' = .ok (.tuple #[.agg q.cs.toArray, .bool true]) W') := hide (fun W' hf => (h.look_w hq hd W' hf).1)
  have HS : Hid (∀ W', Fr (fun g => g = mw ∨ g = ma ∨ dv.ownBlock = some g) (w.alloc (.cells #[.int .u32 (c : Nat), .int .u32 ((i : Int) + 1), .int .u8 (co : Nat), .int .u32 (rc : Nat), .int .u32 (ve : Nat), fv, hv] 44)) W' → W'.heap[d]? = some (.cells #[.int .u32 (c : Nat), .map (some mw), .map (some ma), dv] 86) ∧ W'.heap[w.heap.size]? = some (.cells #[.int .u32 (c : Nat), .int .u32 ((i : Int) + 1), .int .u8 (co : Nat), .int .u32 (rc : Nat), .int .u32 (ve : Nat), fv, hv] 44)) := hide (fun W' hf => by
    have hlm := h.lt mw h.own.2.1
    have hla := h.lt ma h.own.2.2
    have hld := h.lt d h.own.1
    refine ⟨(hf.block d (by simp; omega) (fun e => ?_)).trans ((Below.heap_alloc _ _ d hld).trans h.blk), (hf.block _ (by simp) (fun e => ?_)).trans (heap_alloc_new w _)⟩
    · rcases e with e | e | e
      · exact hdm.1 e
      · exact hdm.2 e
      · exact (hdvd d e).1 rfl
    · rcases e with e | e | e
      · omega
      · omega
      · have := (h.dn.o.lt _ e).2; omega)
  have HX := hide (And.intro h (And.intro hF hH))
  have HM := hide (And.intro hmb hab)
  clear hF hH hmb hab
  have HK := hide (And.intro hq (And.intro hd (And.intro hil (And.intro hcl hc16))))
  clear hq hd hil hcl hc16 hdm hdvd h hiN
  go_enter Try.func27, Try.ntmps27
  go_wp2_with fail
  obtain ⟨W1, hW1⟩ : ∃ W1, w.alloc (.cells #[.int .u32 (c : Nat), .int .u32 ((i : Int) + 1), .int .u8 (co : Nat), .int .u32 (rc : Nat), .int .u32 (ve : Nat), fv, hv] 44) = W1 := ⟨_, rfl⟩
  have hf1 : Fr (fun _ => False) w W1 := by rw [← hW1]; exact box1 w _
  have HZ : Hid (W1.heap.size = w.heap.size + 1) := hide (by rw [← hW1]; simp)
  rw [hW1] at HS
  rw [hW1]
  clear hW1
  have HS1 : Hid (∀ W', Fr (fun _ => False) W1 W' → W'.cell? ⟨d, 1, none⟩ = some (.map (some mw)) ∧ W'.cell? ⟨w.heap.size, 0, none⟩ = some (.int .u32 (c : Nat)) ∧ W'.cell? ⟨w.heap.size, 1, none⟩ = some (.int .u32 ((i : Int) + 1)) ∧ (Instr.lookup 83 (.map (some mw)) (.agg #[.int .u32 (c : Nat), .int .u32 ((i : Int) + 1)]) true).run Try.prog W' = .ok (.tuple #[.agg q.cs.toArray, .bool true]) W') := hide (fun W' hf => by
    have hb := (unhide HS) W' (hf.mono (fun _ _ e => e.elim))
    exact ⟨cell_of_blk hb.1 rfl, cell_of_blk hb.2 rfl, cell_of_blk hb.2 rfl, (unhide HL) W' (hf1.trans0 hf)⟩)
  have HS3 : Hid (∀ W', Fr (fun g => g = mw ∨ g = ma ∨ dv.ownBlock = some g) W1 W' → W'.cell? ⟨d, 1, none⟩ = some (.map (some mw)) ∧ W'.cell? ⟨w.heap.size, 0, none⟩ = some (.int .u32 (c : Nat)) ∧ W'.cell? ⟨w.heap.size, 1, none⟩ = some (.int .u32 ((i : Int) + 1))) := hide (fun W' hf => by
    have hb := (unhide HS) W' hf
    exact ⟨cell_of_blk hb.1 rfl, cell_of_blk hb.2 rfl, cell_of_blk hb.2 rfl⟩)
  have HS4 : Hid (∀ W', Fr (fun g => g = mw ∨ g = ma ∨ dv.ownBlock = some g) W1 W' → W'.cell? ⟨d, 2, none⟩ = some (.map (some ma)) ∧ W'.cell? ⟨w.heap.size, 0, none⟩ = some (.int .u32 (c : Nat)) ∧ W'.cell? ⟨w.heap.size, 1, none⟩ = some (.int .u32 ((i : Int) + 1)) ∧ W'.rangeAt w.heap.size 0 [.int .u32 (c : Nat), .int .u32 ((i : Int) + 1), .int .u8 (co : Nat), .int .u32 (rc : Nat), .int .u32 (ve : Nat), fv, hv]) := hide (fun W' hf => by
    have hb := (unhide HS) W' hf
    exact ⟨cell_of_blk hb.1 rfl, cell_of_blk hb.2 rfl, cell_of_blk hb.2 rfl, range_of_block hb.2⟩)
  have HS5 : Hid (∀ W', Fr (fun g => g = mw ∨ g = ma ∨ dv.ownBlock = some g) W1 W' → W'.cell? ⟨d, 3, none⟩ = some dv ∧ W'.cell? ⟨w.heap.size, 0, none⟩ = some (.int .u32 (c : Nat)) ∧ W'.cell? ⟨w.heap.size, 1, none⟩ = some (.int .u32 ((i : Int) + 1))) := hide (fun W' hf => by
    have hb := (unhide HS) W' hf
    exact ⟨cell_of_blk hb.1 rfl, cell_of_blk hb.2 rfl, cell_of_blk hb.2 rfl⟩)
  refine wp_region_held_drew (S := (fun W => W.cell? ⟨d, 1, none⟩ = some (.map (some mw)) ∧ W.cell? ⟨w.heap.size, 0, none⟩ = some (.int .u32 (c : Nat)) ∧ W.cell? ⟨w.heap.size, 1, none⟩ = some (.int .u32 ((i : Int) + 1)) ∧ (Instr.lookup 83 (.map (some mw)) (.agg #[.int .u32 (c : Nat), .int .u32 ((i : Int) + 1)]) true).run Try.prog W = .ok (.tuple #[.agg q.cs.toArray, .bool true]) W)) (by kernel_rfl) ((unhide HS1) _ (Fr.refl _ _).drew) (fun hHeld => ?_)
  refine wtk2 (i := 0) rfl hHeld ?_
  (try simp only [Act.put, nrm])
  refine wtk2 (i := 1) rfl hHeld ?_
  (try simp only [Act.put, nrm])
  refine wtk2 (i := 2) rfl hHeld ?_
  (try simp only [Act.put, nrm])
  refine wtk2 (i := 3) rfl hHeld ?_
  (try simp only [Act.put, nrm])
  refine wtk2 (i := 4) rfl hHeld ?_
  (try simp only [Act.put, nrm])
  refine wtk2 (i := 5) rfl hHeld ?_
  (try simp only [Act.put, nrm])
  refine wtk2 (i := 6) rfl hHeld ?_
  (try simp only [Act.put, nrm])
  refine wtk2 (i := 7) rfl hHeld ?_
  (try simp only [Act.put, nrm])
  refine wtk2 (i := 8) rfl hHeld ?_
  (try simp only [Act.put, nrm])
  refine wtk2 (i := 9) rfl hHeld ?_
  (try simp only [Act.put, nrm])
  refine wpAnyH_ready (rs := [10]) (by kernel_rfl) (by simp) (AllReadyH.cons rfl (fun K hK => ?_) AllReadyH.nil)
  go_simp
  refine hK.out _ _ ((unhide HS1) _ ((Fr.refl _ _).drew.alloc _)) (fun hHeld => ?_)
  clear hK K
  (try simp only [Act.put, nrm])
  have hb0 : (W1.drew.alloc (.cells [.int .u32 0, .int .u32 0, .int .u32 0, .int .u8 0, .int .u32 0, .int .u32 0, .int .u32 0, .int .u32 0, .slice none 0 0, .string ⟨#[]⟩, .int .i64 0, .int .i64 0].toArray 89)).heap[W1.heap.size]? = some (.cells [.int .u32 0, .int .u32 0, .int .u32 0, .int .u8 0, .int .u32 0, .int .u32 0, .int .u32 0, .int .u32 0, .slice none 0 0, .string ⟨#[]⟩, .int .i64 0, .int .i64 0].toArray 89) := heap_alloc_new W1.drew _
  obtain ⟨W8, hst, hb8, hf8⟩ := st_all (P := Try.prog) (ty := 89) [.int .u32 0, .int .u32 0, .int .u32 0, .int .u8 0, .int .u32 0, .int .u32 0, .int .u32 0, .int .u32 0, .slice none 0 0, .string ⟨#[]⟩, .int .i64 0, .int .i64 0] q.cs hb0 rfl Try.sizeCa (SC.one ((unhide HX).1.qs q (List.mem_of_getElem? (unhide HK).1)) (unhide HK).2.1)
  have hf18 : Fr (fun _ => False) W1 W8 := ((Fr.refl _ _).drew.alloc _).trans hf8 (fun k hk e => by omega)
  have HF8 := hide hf18
  have HST := hide hst
  clear hst hb8 hf8 hf18 hb0
  refine wpAnyH_ready (rs := [11]) (by kernel_rfl) (by simp) (AllReadyH.cons rfl (fun K hK => ?_) AllReadyH.nil)
  refine step_stN rfl 89 (.tmp 5) (.tmp 17) rfl _ _ (by simp [Act.eval]) (by simp [Act.eval]) (unhide HST) ?_
  refine hK.out _ _ ((unhide HS1) _ (unhide HF8)) (fun hHeld => ?_)
  clear hK K
  (try simp only [Act.put, nrm])
  refine wtk2 (i := 12) rfl hHeld ?_
  (try simp only [Act.put, nrm])
  refine wpAnyH_done (by kernel_rfl) ?_ _
  clear hHeld HS1 HST HL
  have hfw8 : Fr (fun _ => False) w W8.drew := (hf1.trans0 (unhide HF8)).drew
  obtain ⟨W9, hdel, hm9, hf9⟩ := ((unhide HX).1.fr0 hfw8).wm.del (by have := (unhide HK).2.2.2.2; omega) Try.underlying83 (k := i + 1) (by have := (unhide HK).2.2.1; have := (unhide HK).2.2.2.1; omega) (by rw [fW_at (unhide HK).1 (unhide HK).2.1]; rfl) 0
  have hdel' : (Builtin.delete_ #[83, 29] 0 #[.map (some mw), .agg #[.int .u32 (c : Nat), .int .u32 ((i : Int) + 1)]]).run Try.prog W8.drew = .ok (.tuple #[]) W9 := hdel
  have hf19 : Fr (fun g => g = mw ∨ g = ma ∨ dv.ownBlock = some g) W1 W9 := ((unhide HF8).drew.mono (fun _ _ e => e.elim)).trans hf9 (fun _ _ e => .inl e)
  have hfm9 : Fr (fun g => g = mw) w W9 := (hfw8.mono (fun _ _ e => e.elim)).trans hf9 (fun _ _ e => e)
  have HD9 := hide hdel'
  have H9 := hide (And.intro hm9 (And.intro hf19 hfm9))
  clear hdel hdel' hm9 hf9 hf19 hfm9
  go_wp2_with fail
  refine wp_region_held_drew (S := (fun W => W.cell? ⟨d, 1, none⟩ = some (.map (some mw)) ∧ W.cell? ⟨w.heap.size, 0, none⟩ = some (.int .u32 (c : Nat)) ∧ W.cell? ⟨w.heap.size, 1, none⟩ = some (.int .u32 ((i : Int) + 1)))) (by kernel_rfl) ((unhide HS3) _ ((unhide HF8).drew.mono (fun _ _ e => e.elim))) (fun hHeld => ?_)
  refine wtk2 (i := 0) rfl hHeld ?_
  (try simp only [Act.put, nrm])
  refine wtk2 (i := 1) rfl hHeld ?_
  (try simp only [Act.put, nrm])
  refine wtk2 (i := 2) rfl hHeld ?_
  (try simp only [Act.put, nrm])
  refine wtk2 (i := 3) rfl hHeld ?_
  (try simp only [Act.put, nrm])
  refine wtk2 (i := 4) rfl hHeld ?_
  (try simp only [Act.put, nrm])
  refine wtk2 (i := 5) rfl hHeld ?_
  (try simp only [Act.put, nrm])
  refine wpAnyH_ready (rs := [6]) (by kernel_rfl) (by simp) (AllReadyH.cons rfl (fun K hK => ?_) AllReadyH.nil)
  refine step_del rfl 83 29 (.tmp 23) (.tmp 25) rfl _ _ _ (by simp [Act.eval]) (by simp [Act.eval]) (unhide HD9) ?_
  refine hK.out _ _ ((unhide HS3) _ (unhide H9).2.1) (fun hHeld => ?_)
  clear hK K
  (try simp only [Act.put, nrm])
  refine wpAnyH_done (by kernel_rfl) ?_ _
  clear hHeld HS3 HD9 hfw8
  go_wp2_with fail
  refine wp_region_held_drew (S := (fun W => W.cell? ⟨d, 2, none⟩ = some (.map (some ma)) ∧ W.cell? ⟨w.heap.size, 0, none⟩ = some (.int .u32 (c : Nat)) ∧ W.cell? ⟨w.heap.size, 1, none⟩ = some (.int .u32 ((i : Int) + 1)) ∧ W.rangeAt w.heap.size 0 [.int .u32 (c : Nat), .int .u32 ((i : Int) + 1), .int .u8 (co : Nat), .int .u32 (rc : Nat), .int .u32 (ve : Nat), fv, hv])) (by kernel_rfl) ((unhide HS4) _ (unhide H9).2.1.drew) (fun hHeld => ?_)
  refine wtk2 (i := 0) rfl hHeld ?_
  (try simp only [Act.put, nrm])
  refine wtk2 (i := 1) rfl hHeld ?_
  (try simp only [Act.put, nrm])
  refine wtk2 (i := 2) rfl hHeld ?_
  (try simp only [Act.put, nrm])
  refine wtk2 (i := 3) rfl hHeld ?_
  (try simp only [Act.put, nrm])
  refine wtk2 (i := 4) rfl hHeld ?_
  (try simp only [Act.put, nrm])
  refine wtk2 (i := 5) rfl hHeld ?_
  (try simp only [Act.put, nrm])
  refine wtk (i := 6) rfl (yieldsIf_load_mid rfl 44 (.tmp 3) rfl w.heap.size 0 rfl _ _ (fun w h => h.2.2.2) Try.underlying44 rfl Try.sizeAn) hHeld ?_
  (try simp only [Act.put, nrm])
  refine wpAnyH_ready (rs := [7]) (by kernel_rfl) (by simp) (AllReadyH.cons rfl (fun K hK => ?_) AllReadyH.nil)
  have HOA := hide (ownAns_any ⟨c, i + 1, co, rc, ve, fv, hv⟩ F.length H.length (fcells F) (scells H) W9.drew ((unhide HX).2.1.fr (unhide H9).2.2.drew (rd_not (unhide HX).2.1 (unhide HM).1)) ((unhide HX).2.2.fr (unhide H9).2.2.drew (rd_not (unhide HX).2.2 (unhide HM).1)) hFl hHl)
  go_simp
  refine (unhide HOA).mono ?_
  rintro e W10 ⟨v, u, rfl, hF10, hH10, hf10⟩
  clear HOA
  have hf110 : Fr (fun g => g = mw ∨ g = ma ∨ dv.ownBlock = some g) W1 W10 := (unhide H9).2.1.drew.trans hf10 (fun _ _ e => e.elim)
  have hfm10 : Fr (fun g => g = mw) w W10 := (unhide H9).2.2.drew.trans hf10 (fun _ _ e => e.elim)
  have hm10 : MpR W10 mw c (nW cs - 1) (fun j => if j = i + 1 then none else fW cs j) := (unhide H9).1.keep (hf10.block mw (by obtain ⟨e, k, hb⟩ := (unhide H9).1.blk; exact lt_of_block hb) (fun h => h))
  have ham : MpR W10 ma c (nA cs) (fA cs) := (unhide HX).1.am.keep (hfm10.block ma ((unhide HX).1.lt ma (unhide HX).1.own.2.2) (fun e => (unhide HX).1.ap e.symm))
  have hnn := nWA cs
  obtain ⟨W11, hup, ha11, hf11⟩ := ham.put (by have := (unhide HK).2.2.2.2; omega) (by have := (unhide HK).2.2.2.1; omega) Try.underlying84 (k := i + 1) (by have := (unhide HK).2.2.1; have := (unhide HK).2.2.2.1; omega) (AN.v ⟨c, i + 1, co, rc, ve, v, u⟩)
  rw [fA_wt (unhide HK).1 (unhide HK).2.1] at ha11
  have hup' : (Instr.mapUpdate 84 (.map (some ma)) (.agg #[.int .u32 (c : Nat), .int .u32 ((i : Int) + 1)]) (AN.v ⟨c, i + 1, co, rc, ve, v, u⟩)).run Try.prog W10 = .ok () W11 := hup
  have hf111 : Fr (fun g => g = mw ∨ g = ma ∨ dv.ownBlock = some g) W1 W11 := hf110.trans hf11 (fun _ _ e => .inr (.inl e))
  have hfm11 : Fr (fun g => g = mw ∨ g = ma) w W11 := (hfm10.mono (fun _ _ e => .inl e)).trans hf11 (fun _ _ e => .inr e)
  have hm11 : MpR W11 mw c (nW cs - 1) (fun j => if j = i + 1 then none else fW cs j) := hm10.keep (hf11.block mw (by obtain ⟨e, k, hb⟩ := hm10.blk; exact lt_of_block hb) (unhide HX).1.ap)
  have hszw : w.heap.size ≤ W9.heap.size := (unhide H9).2.2.size
  have hmal := (unhide HX).1.lt ma (unhide HX).1.own.2.2
  have hF11 : W11.ownsRow w.heap.size 79 5 v F.length (fcells F) := ownsRow_base (ownsRow_of_block hF10 (fun g hg => hf11.block g (hF10.lt g hg).2 (fun e => by have := (hF10.lt g hg).1; have : W9.drew.heap.size = W9.heap.size := rfl; omega))) hszw
  have hH11 : W11.ownsRow w.heap.size 81 4 u H.length (scells H) := ownsRow_base (ownsRow_of_block hH10 (fun g hg => hf11.block g (hH10.lt g hg).2 (fun e => by have := (hH10.lt g hg).1; have : W9.drew.heap.size = W9.heap.size := rfl; omega))) hszw
  have HUP := hide hup'
  have H11 := hide (And.intro ha11 (And.intro hf111 (And.intro hfm11 (And.intro hm11 (And.intro hF11 hH11)))))
  have HF10 := hide hf110
  clear hup hup' ha11 hf11 hf111 hfm11 hm11 hF11 hH11 hF10 hH10 hf10 hfm10 hm10 ham hnn hszw hmal
  try dsimp only
  refine hK.out _ _ ((unhide HS4) _ hf110) (fun hHeld => ?_)
  clear hK K
  (try simp only [Act.put, nrm])
  clear hf110
  refine wpAnyH_ready (rs := [8]) (by kernel_rfl) (by simp) (AllReadyH.cons rfl (fun K hK => ?_) AllReadyH.nil)
  refine step_mu rfl 84 (.tmp 29) (.tmp 31) (.tmp 33) rfl _ _ _ (by simp [Act.eval]) (by simp [Act.eval]) (by simp [Act.eval]) (unhide HUP) ?_
  refine hK.out _ _ ((unhide HS4) _ (unhide H11).2.1) (fun hHeld => ?_)
  clear hK K
  (try simp only [Act.put, nrm])
  refine wpAnyH_done (by kernel_rfl) ?_ _
  clear hHeld HS4 HUP HF10
  go_wp2_with fail
  have hdo : W11.ownsRow 0 29 2 dv dn.length (icells (dn.map fun k => (c, k))) := ownsRow_of_block (unhide HX).1.dn.o (fun g hg => (unhide H11).2.2.1.block g ((unhide HX).1.dn.o.lt g hg).2 (fun e => by
    have h1 := (unhide HX).1.dn.ne (unhide HX).1 (by decide) hg
    rcases e with e | e
    · exact h1.2.1 e
    · exact h1.2.2 e))
  obtain ⟨ao, cap, W13, hap, ho13, hf13, ht13⟩ := app_id W11.drew dv (dn.map fun k => (c, k)) (c, i + 1) (by rw [List.length_map]; exact hdo) (by rw [List.length_map]; exact hdl)
  rw [List.length_map] at hap ho13 ht13
  have hap' : (Builtin.append_ #[37, 37] 37 #[dv, .slice (some ⟨W11.heap.size, 0, none⟩) 1 1]).run Try.prog (W11.drew.alloc (.cells #[.int .u32 (c : Nat), .int .u32 ((i : Int) + 1)] 29)) = .ok (.slice ao (dn.length + 1) cap) W13 := hap
  have hf113 : Fr (fun g => g = mw ∨ g = ma ∨ dv.ownBlock = some g) W1 W13 := (unhide H11).2.1.drew.trans hf13 (fun _ _ e => .inr (.inr e))
  have HAP := hide hap'
  have H13 := hide (And.intro ho13 (And.intro hf13 (And.intro ht13 hf113)))
  clear hap hap' ho13 hf13 ht13 hf113 hdo
  refine wp_region_last (n := 11) (m := 11) (S := (fun W => W.cell? ⟨d, 3, none⟩ = some dv ∧ W.cell? ⟨w.heap.size, 0, none⟩ = some (.int .u32 (c : Nat)) ∧ W.cell? ⟨w.heap.size, 1, none⟩ = some (.int .u32 ((i : Int) + 1)))) (by kernel_rfl) rfl rfl rfl (by kernel_rfl) (by kernel_rfl) ((unhide HS5) _ (unhide H11).2.1.drew) (fun hHeld => ?_)
  refine wtk2 (i := 0) rfl hHeld ?_
  (try simp only [Act.put, nrm])
  refine wtk2 (i := 1) rfl hHeld ?_
  (try simp only [Act.put, nrm])
  refine wtk2 (i := 2) rfl hHeld ?_
  (try simp only [Act.put, nrm])
  refine wtk2 (i := 3) rfl hHeld ?_
  (try simp only [Act.put, nrm])
  refine wtk2 (i := 4) rfl hHeld ?_
  (try simp only [Act.put, nrm])
  refine wtk2 (i := 5) rfl hHeld ?_
  (try simp only [Act.put, nrm])
  refine wtk2 (i := 6) rfl hHeld ?_
  (try simp only [Act.put, nrm])
  refine wpAnyH_ready (rs := [7]) (by kernel_rfl) (by simp) (AllReadyH.cons rfl (fun K hK => ?_) AllReadyH.nil)
  go_simp
  refine hK.out _ _ ((unhide HS5) _ ((unhide H11).2.1.drew.alloc _)) (fun hHeld => ?_)
  clear hK K
  (try simp only [Act.put, nrm])
  refine wpAnyH_ready (rs := [8]) (by kernel_rfl) (by simp) (AllReadyH.cons rfl (fun K hK => ?_) AllReadyH.nil)
  refine step_app rfl (.tmp 38) (.tmp 41) 37 37 rfl _ _ _ (by simp [Act.eval]) (by simp [Act.eval]) (unhide HAP) ?_
  refine hK.out _ _ ((unhide HS5) _ (unhide H13).2.2.2) (fun hHeld => ?_)
  clear hK K
  (try simp only [Act.put, nrm])
  refine wtk2 (i := 9) rfl hHeld ?_
  (try simp only [Act.put, nrm])
  refine wtk2 (i := 10) rfl hHeld ?_
  (try simp only [Act.put, nrm])
  refine wpAnyH_done (by kernel_rfl) ?_ _
  have hb13 := ((unhide HS) _ (unhide H13).2.2.2).1
  have c3 : W13.cell? ⟨d, 3, none⟩ = some dv := cell_of_blk hb13 rfl
  have z3 : W13.frozen? ⟨d, 3, none⟩ = false := frz_of_blk hb13
  have hblk := blkset hb13 3 (.slice ao (dn.length + 1) cap)
  have hbl2 : (W13.setCell ⟨d, 3, none⟩ (.slice ao (dn.length + 1) cap)).heap[d]? = some (.cells #[.int .u32 (c : Nat), .map (some mw), .map (some ma), .slice ao (dn.length + 1) cap] 86) := by simpa using hblk
  have HEND : Hid (∃ v u dv', SsAt (W13.setCell ⟨d, 3, none⟩ (.slice ao (dn.length + 1) cap)) d mw ma c (cs.set i { q with d := some ⟨⟨c, i + 1, co, rc, ve, v, u⟩, F, H⟩ }) (dn ++ [i + 1]) dv' (fun g => T g ∨ Nb w (W13.setCell ⟨d, 3, none⟩ (.slice ao (dn.length + 1) cap)) g) ∧ Fr (fun g => g = mw ∨ g = ma ∨ dv.ownBlock = some g ∨ g = d) w (W13.setCell ⟨d, 3, none⟩ (.slice ao (dn.length + 1) cap))) := hide (by
    have h := (unhide HX).1
    have h11 := unhide H11
    have h13 := unhide H13
    have hlt := h.lt d h.own.1
    have hfw : Fr (fun g => g = mw ∨ g = ma ∨ dv.ownBlock = some g ∨ g = d) w (W13.setCell ⟨d, 3, none⟩ (.slice ao (dn.length + 1) cap)) := by
      refine Fr.setCell (p := ⟨d, 3, none⟩) ?_ (.inl (.inr (.inr (.inr rfl)))) _
      refine (h11.2.2.1.drew.mono (fun g _ e => ?_)).trans h13.2.1 (fun g _ e => .inr (.inr (.inl e)))
      rcases e with e | e
      · exact .inl e
      · exact .inr (.inl e)
    have hk : ∀ g, W11.heap[g]? ≠ none → dv.ownBlock ≠ some g → g ≠ d → (W13.setCell ⟨d, 3, none⟩ (.slice ao (dn.length + 1) cap)).heap[g]? = W11.heap[g]? := fun g hg h1 h2 => by
      have hgl : g < W11.heap.size := by
        rcases Nat.lt_or_ge g W11.heap.size with hx | hx
        · exact hx
        · exact absurd (Array.getElem?_eq_none hx) hg
      exact (Below.heap_setCell W13 ⟨d, 3, none⟩ _ g h2).trans (h13.2.1.block g hgl h1)
    have hdm := h.dm
    have hnd : ∀ g, dv.ownBlock = some g → g ≠ d ∧ g ≠ mw ∧ g ≠ ma := fun g hg => h.dn.ne h (by decide) hg
    have hdvl : ∀ g, dv.ownBlock = some g → g < w.heap.size := fun g hg => (h.dn.o.lt g hg).2
    have hmw := h11.2.2.2.1.keep (w' := W13.setCell ⟨d, 3, none⟩ (.slice ao (dn.length + 1) cap)) (hk mw (by obtain ⟨a, b, hb⟩ := h11.2.2.2.1.blk; rw [hb]; simp) (fun e => (hnd mw e).2.1 rfl) (fun e => hdm.1 e.symm))
    have hma := h11.1.keep (w' := W13.setCell ⟨d, 3, none⟩ (.slice ao (dn.length + 1) cap)) (hk ma (by obtain ⟨a, b, hb⟩ := h11.1.blk; rw [hb]; simp) (fun e => (hnd ma e).2.2 rfl) (fun e => hdm.2 e.symm))
    have hrow : ∀ {e z n : Nat} {x : Value} {xs : List Value}, W11.ownsRow w.heap.size e z x n xs → (W13.setCell ⟨d, 3, none⟩ (.slice ao (dn.length + 1) cap)).ownsRow w.heap.size e z x n xs := fun hr => ownsRow_of_block hr (fun g hg => by
      have hgl := hr.lt g hg
      refine hk g (by rw [Array.getElem?_eq_getElem hgl.2]; simp) (fun e => ?_) (by omega)
      have := hdvl g e
      omega)
    refine ⟨_, _, .slice ao (dn.length + 1) cap, h.answer (unhide HK).1 (unhide HK).2.1 ⟨c, i + 1, co, rc, ve, v, u⟩ F H hFl hHl (by omega) _ hfw hbl2 hmw (by simpa using hma) ?_ (fun g hg => ?_) (hrow h11.2.2.2.2.1) (hrow h11.2.2.2.2.2), hfw⟩
    · rw [List.map_append]
      refine ownsRow_of_block h13.1 (fun g hg => Below.heap_setCell W13 ⟨d, 3, none⟩ _ g (fun e => ?_))
      obtain ⟨cur, hb⟩ := own_blk h13.1 hg
      have e2 : g = d := e
      rw [e2, hb13] at hb
      simp at hb
    · rcases h13.2.2.1 g hg with e | e
      · exact .inl e
      · exact .inr (Nat.le_trans h11.2.2.1.size e))
  clear HX HM HK HS HF8 H9 H11 H13 HAP hblk hbl2 hb13 hHeld HS5
  simp only [lastQ]
  go_simp
  go_wp2_with fail
  go_ret
  exact ⟨rfl, unhide HEND⟩
end Go.Proofs.Ytkiepcdncegniaa
