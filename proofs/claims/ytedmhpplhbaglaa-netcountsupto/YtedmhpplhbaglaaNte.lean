import Derived.Test.YtedmhpplhbaglaaNtd
namespace Go.Proofs.Ytedmhpplhbaglaa
open Go.RowKit Go.ChangeShapes Go.WideShapes Go.Maps

/-- A whole struct is stored into its box. -/
theorem setCells_blk (g t : Nat) : ∀ (vs olds pre : List Value) (o : Nat) (w : World), w.heap[g]? = some (.cells (pre ++ olds).toArray t) → olds.length = vs.length → pre.length = o → (w.setCells g o vs).heap[g]? = some (.cells (pre ++ vs).toArray t)
  | [], olds, pre, o, w, h, hl, _ => by
    obtain rfl := List.eq_nil_of_length_eq_zero hl
    exact h
  | v :: vs, [], pre, o, w, h, hl, _ => by cases hl
  | v :: vs, a :: olds, pre, o, w, h, hl, ho => by
    rw [World.setCells]
    have := setCells_blk g t vs olds (pre ++ [v]) (o + 1) (w.setCell ⟨g, o, none⟩ v) (by rw [blkset h]; subst ho; simp) (by simpa using hl) (by simp [ho])
    simpa using this
theorem setCells_fr (g : Nat) : ∀ (vs : List Value) (o : Nat) (w : World), Fr (fun k => k = g) w (w.setCells g o vs)
  | [], o, w => Fr.refl _ _
  | v :: vs, o, w => by
    rw [World.setCells]
    exact ((Fr.refl (fun k => k = g) w).setCell (p := ⟨g, o, none⟩) (.inl rfl) v).trans (setCells_fr g vs (o + 1) _) (fun _ _ h => h)
theorem st_all {P : Program} {W : World} {g t ty : Nat} (olds news : List Value) (hb : W.heap[g]? = some (.cells olds.toArray t)) (hl : olds.length = news.length) (hi : (P.info? ty).map (·.size) = some news.length) (h1 : ∀ v ∈ news, v.oneCell' = true) :
    ∃ W8, (Instr.storeAt ty (.pointer (some ⟨g, 0, none⟩)) (.agg news.toArray)).run P W = .ok () W8 ∧ W8.heap[g]? = some (.cells news.toArray t) ∧ Fr (fun k => k = g) W W8 := by
  refine ⟨W.setCells g 0 news, run_storeAt_mid W g 0 ty news.toArray (fun j hj => ?_) (by simpa using hi) (all_oneCell_toArray h1), ?_, setCells_fr g news 0 W⟩
  · have hj : j < news.length := by simpa using hj
    have hj2 : j < olds.length := by omega
    refine ⟨?_, by simp [World.frozen?, hb]⟩
    simp [World.cell?, hb, hj2]
  · have := setCells_blk g t news olds [] 0 W (by simpa using hb) hl rfl
    simpa using this
theorem wpList_stN {P : Program} {w w' : World} {ops : Array Oper} {rest : List Oper} {op : Oper} {a : Act} {Q : Exit → Act → World → Prop} (hgd : op.guard = none) (ty : TypeId) (x y : Operand) (ho : op.op = .store ty x y)
    (p v : Value) (hx : a.eval x = p) (hy : a.eval y = v) (hr : (Instr.storeAt ty p v).run P w = .ok () w')
    (h : wpList P ops Q rest (a.put op.dst undef) w') : wpList P ops Q (op :: rest) a w :=
  wpList_plain hgd fun _ hK => by
    unfold Oper.wp execOp
    simp only [ho, hx, hy, Sem.run_bind, hr, Result.andThen_ok, Sem.run_pure]
    exact hK _ _ h
theorem range_of_block {W : World} {b : Nat} {cs : List Value} {t : TypeId} (h : W.heap[b]? = some (.cells cs.toArray t)) : W.rangeAt b 0 cs := by
  intro j v hv
  simp only [World.cell?, h]
  simpa using hv
theorem results_cell_mid {P : Program} {fn : Func} {p : Tmp} {ty : TypeId} (h : fn.results = #[.cell p ty]) (tmps : Array Value) (w : World) (b o : Nat) (cs : List Value) (d : TypeDesc)
    (hp : tmps.getD p undef = .pointer (some ⟨b, o, none⟩)) (hc : w.rangeAt b o cs)
    (hu : P.underlying ty = some d) (hd : d.isRow = true) (hi : (P.info? ty).map (·.size) = some cs.length) :
    (results fn tmps).run P w = .ok (.agg cs.toArray) w := by
  have hp' : tmps[p]?.getD undef = .pointer (some ⟨b, o, none⟩) := by simpa using hp
  simp [results, h, hp', asAddr, run_loadVar_mid w b o ty cs d hc hu hd hi]
theorem results_cellt {P : Program} {fn : Func} {p u : Tmp} {ty : TypeId} (h : fn.results = #[.cell p ty, .tmp u]) (tmps : Array Value) (w : World) (b o : Nat) (cs : List Value) (d : TypeDesc) (x : Value)
    (hp : tmps.getD p undef = .pointer (some ⟨b, o, none⟩)) (hx : tmps.getD u undef = x) (hc : w.rangeAt b o cs)
    (hu : P.underlying ty = some d) (hd : d.isRow = true) (hi : (P.info? ty).map (·.size) = some cs.length) :
    (results fn tmps).run P w = .ok (.tuple #[.agg cs.toArray, x]) w := by
  have hp' : tmps[p]?.getD undef = .pointer (some ⟨b, o, none⟩) := by simpa using hp
  have hx' : tmps[u]?.getD undef = x := by simpa using hx
  simp [results, h, hp', hx', asAddr, run_loadVar_mid w b o ty cs d hc hu hd hi]
theorem results4 {fn : Func} {t u v x : Tmp} (h : fn.results = #[.tmp t, .tmp u, .tmp v, .tmp x]) (tmps : Array Value) (P : Program) (w : World) :
    (results fn tmps).run P w = .ok (.tuple #[tmps.getD t undef, tmps.getD u undef, tmps.getD v undef, tmps.getD x undef]) w := by
  simp [results, h]
theorem Try.zeroPk (w : World) : (zeroValue 34).run Try.prog w = .ok (.agg #[.int .i64 0, .int .i64 0, .int .i64 0, .slice none 0 0]) w := by kernel_rfl
theorem NtAt.look_no {w : World} {d m : Nat} {pl : Int} {ps : List PK} {sv : Nat → Option Addr × Nat} {T : Nat → Prop} (h : NtAt w d m pl ps sv T) (z : Int) (hz : (Lit.int .i64 z).wf = true) (hu : und ps z = false) :
    (Instr.lookup 56 (.map (some m)) (.int .i64 z) true).run Try.prog w = .ok (.tuple #[.agg #[.int .i64 0, .int .i64 0, .int .i64 0, .slice none 0 0], .bool false]) w := by
  obtain ⟨D, hown, hD⟩ := h.map
  obtain ⟨v, q, hr, hv⟩ := hown.look_ok Try.iK (t := 56) Try.underlying56 (Try.zeroPk w) (RV_v ⟨0, 0, 0, none, 0, 0⟩) (key_int z hz)
  have hh : Maps.has D (.int .i64 z) = false := (hD.has z).trans hu
  rw [Maps.atKey_of_not_has hh] at hv
  obtain ⟨p, rfl, e⟩ := RV_inv hv
  cases e
  rw [hr, hh]
  rfl
theorem NtAt.look_yes {w : World} {d m : Nat} {pl : Int} {ps : List PK} {sv : Nat → Option Addr × Nat} {T : Nat → Prop} (h : NtAt w d m pl ps sv T) (k : Nat) (p : PK) (hk : ps[k]? = some p) (hp : p.gone = 0) (hl : ps.length ≤ 1048576) (ok : Bool) :
    (Instr.lookup 56 (.map (some m)) (.int .i64 ((k : Int) + 1)) ok).run Try.prog w = .ok (if ok then .tuple #[.agg #[.int .i64 ((k : Int) + 1), .int .i64 p.f, .int .i64 p.t, .slice (sv k).1 p.b.length (sv k).2], .bool true] else .agg #[.int .i64 ((k : Int) + 1), .int .i64 p.f, .int .i64 p.t, .slice (sv k).1 p.b.length (sv k).2]) w := by
  obtain ⟨D, hown, hD⟩ := h.map
  have hlt := (List.getElem?_eq_some_iff.1 hk).1
  have hu : und ps ((k : Int) + 1) = true := by rw [und_nat, hk]; simp [hp]
  have hh : Maps.has D (.int .i64 ((k : Int) + 1)) = true := (hD.has _).trans hu
  cases ok with
  | true =>
    obtain ⟨v, q, hr, hv⟩ := hown.look_ok Try.iK (t := 56) Try.underlying56 (Try.zeroPk w) (RV_v ⟨0, 0, 0, none, 0, 0⟩) (key_int _ (wf_nat k (by omega)))
    rw [hD.at_ k p hk hp] at hv
    obtain ⟨p', rfl, e⟩ := RV_inv hv
    cases e
    rw [hr, hh]
    rfl
  | false =>
    obtain ⟨v, q, hr, hv⟩ := hown.lookup Try.iK (t := 56) Try.underlying56 (Try.zeroPk w) (RV_v ⟨0, 0, 0, none, 0, 0⟩) (key_int _ (wf_nat k (by omega)))
    rw [hD.at_ k p hk hp] at hv
    obtain ⟨p', rfl, e⟩ := RV_inv hv
    cases e
    rw [hr]
    rfl
set_option maxRecDepth 100000 in
/-- Copy of what is not under way. -/
theorem copy_no (d m : Nat) (pl z : Int) (ps : List PK) (sv : Nat → Option Addr × Nat) (T : Nat → Prop) (w : World) (h : NtAt w d m pl ps sv T) (hz : (Lit.int .i64 z).wf = true) (hu : und ps z = false) :
    Calls Try.prog 10 #[.pointer (some ⟨d, 0, none⟩), .int .i64 z] w fun e w' => e = .returned (.tuple #[.int .i64 0, .int .i64 15]) ∧ Fr (fun _ => False) w w' := by
  have c1 := h.cells.2.1
  have hlk := h.look_no z hz hu
  clear h hz hu
  go_enter Try.func10, Try.ntmps10
  go_wp2
  go_ret2
  exact ⟨rfl, box1 _ _⟩
set_option maxRecDepth 100000 in
/-- Copy of a packet that is under way. -/
theorem copy_ok (d m k : Nat) (pl : Int) (ps : List PK) (p : PK) (sv : Nat → Option Addr × Nat) (T : Nat → Prop) (w : World) (h : NtAt w d m pl ps sv T) (hk : ps[k]? = some p) (hp : p.gone = 0) (hn : ps.length ≤ 1048576) :
    Calls Try.prog 10 #[.pointer (some ⟨d, 0, none⟩), .int .i64 ((k : Int) + 1)] w fun e w' => e = .returned (.tuple #[.int .i64 ((ps.length : Int) + 1), .int .i64 0]) ∧ ∃ sv', NtAt w' d m pl (ps ++ [{ p with cp := true }]) sv' T ∧ Fr (fun k => k = d ∨ k = m) w w' := by
  obtain ⟨c0, c1, c2, c3, c4, c5, fz⟩ := h.cells
  have f3 := fz 3
  have hlk := h.look_yes k p hk hp hn true
  simp only [if_true] at hlk
  have hsum := cSC ps
  have hdm := h.dm
  have hdl := h.lt.1
  obtain ⟨W1, hW1⟩ : ∃ W1, W1 = (w.setCell ⟨d, 3, none⟩ (.int .i64 ((cC ps : Int) + 1))).alloc (.cells #[.int .i64 ((k : Int) + 1), .int .i64 p.f, .int .i64 p.t, .slice (sv k).1 p.b.length (sv k).2] 34) := ⟨_, rfl⟩
  have HP : Hid (Calls Try.prog 20 #[.pointer (some ⟨d, 0, none⟩), .agg #[.int .i64 ((k : Int) + 1), .int .i64 p.f, .int .i64 p.t, .slice (sv k).1 p.b.length (sv k).2]] W1 fun e w' => e = .returned (.int .i64 ((ps.length : Int) + 1)) ∧ ∃ sv', NtAt w' d m pl (ps ++ [{ p with cp := true }]) sv' T ∧ Fr (fun k => k = d ∨ k = m) w w') := by
    obtain ⟨D, hown, hD⟩ := h.map
    have hfw : Fr (fun k => k = d) w W1 := by rw [hW1]; exact (((Fr.refl (fun k => k = d) w).setCell (p := ⟨d, 3, none⟩) (.inl rfl) _).alloc _)
    have hblk : W1.heap[d]? = some (.cells (NC pl m (ps ++ [{ p with cp := true }])) 58) := by
      rw [hW1, Below.heap_alloc _ _ _ (by simpa using hdl), blkset h.blk, NC_copy _ _ _ _ hp]
    have hownW := ownsMap_keep hown (hfw.block m h.lt.2 (fun e => hdm e.symm))
    refine (nput_any d m ps.length (cS ps) (cC ps + 1) ⟨(k : Int) + 1, p.f, p.t, (sv k).1, p.b.length, (sv k).2⟩ D W1 (cell_of_blk hblk (by rw [NC_copy _ _ _ _ hp]; simp [NC])) (cell_of_blk hblk (by rw [NC_copy _ _ _ _ hp]; simp [NC])) (cell_of_blk hblk (by rw [NC_copy _ _ _ _ hp]; simp [NC])) hownW hn (by omega) (by omega)).mono ?_
    rintro e w' ⟨rfl, ho, hf'⟩
    have en : ((cS ps : Int) + ((cC ps + 1 : Nat) : Int)) = (ps.length : Int) + 1 := by omega
    rw [en] at ho ⊢
    have hfr : Fr (fun k => k = d ∨ k = m) w w' := (hfw.mono (fun _ _ h => .inl h)).trans hf' (fun _ _ h => .inr h)
    have hns : ∀ g, T g → g ≠ d ∧ g ≠ m ∧ g < w'.heap.size := fun g hg => ⟨(h.ns g hg).1, (h.ns g hg).2.1, Nat.lt_of_lt_of_le (h.ns g hg).2.2 hfr.size⟩
    refine ⟨rfl, _, h.put { p with cp := true } hp (h.lim p (List.mem_of_getElem? hk)) (sv k) hD ((hf'.block d (lt_of_block hblk) hdm).trans hblk) ho hown ?_ (fun g o e => h.own k p hk hp g o e) (fun g hg => hg) hns hfr, hfr⟩
    refine (h.src k p hk hp).fr hfr (fun g o n c e2 => ?_)
    cases hs : (sv k).1 with
    | none => rw [hs] at e2; cases e2
    | some a =>
      rw [hs] at e2
      cases e2
      have := h.ns g (h.own k p hk hp g o hs)
      omega
  have hcs : cC ps ≤ 1048576 := by omega
  have hne : ¬ w.heap.size = d := by omega
  clear h c0 c2 c4 c5 fz hsum hdm hk hp
  generalize (sv k).1 = a at *
  generalize (sv k).2 = b at *
  rw [hW1] at HP
  clear hW1 W1
  go_enter Try.func10, Try.ntmps10
  go_wp2_with fail
  refine (unhide HP).mono ?_
  rintro e w3 ⟨rfl, hfin⟩
  have H3 := hide hfin
  clear hfin HP
  go_wp2_with fail
  go_ret2
  exact ⟨rfl, unhide H3⟩
set_option maxRecDepth 100000 in
/-- Drop of what is not under way. -/
theorem drop_no (d m : Nat) (pl z : Int) (ps : List PK) (sv : Nat → Option Addr × Nat) (T : Nat → Prop) (w : World) (h : NtAt w d m pl ps sv T) (hz : (Lit.int .i64 z).wf = true) (hu : und ps z = false) :
    Calls Try.prog 14 #[.pointer (some ⟨d, 0, none⟩), .int .i64 z] w fun e w' => e = .returned (.int .i64 15) ∧ Fr (fun _ => False) w w' := by
  have c1 := h.cells.2.1
  have hlk := h.look_no z hz hu
  clear h hz hu
  go_enter Try.func14, Try.ntmps14
  go_wp2
  go_ret
  exact ⟨rfl, box1 _ _⟩
set_option maxRecDepth 100000 in
/-- A packet that is under way lost: its number taken out, the count turned. -/
theorem loseOne_any (d m n : Nat) (z : Int) (L : Nat) (D : DataW PV) (w : World) (c1 : w.cell? ⟨d, 1, none⟩ = some (.map (some m))) (c5 : w.cell? ⟨d, 5, none⟩ = some (.int .i64 (L : Nat))) (f5 : w.frozen? ⟨d, 5, none⟩ = false) (hown : w.ownsMap Try.prog 3 RV m n D) (hdm : d ≠ m) (hz : (Lit.int .i64 z).wf = true) (hL : L ≤ 1048576) :
    Calls Try.prog 25 #[.pointer (some ⟨d, 0, none⟩), .int .i64 z] w fun e w' => e = .returned (.tuple #[]) ∧ ∃ w1, (Builtin.delete_ #[56, 3] 0 #[.map (some m), .int .i64 z]).run Try.prog w = .ok (.tuple #[]) w1 ∧ w.mapTurned w1 m ∧ w' = w1.setCell ⟨d, 5, none⟩ (.int .i64 ((L : Int) + 1)) := by
  obtain ⟨w1, hr, ho, ht⟩ := hown.drop Try.iK (t := 56) Try.underlying56 (key_int z hz) 0
  have c5' : w1.cell? ⟨d, 5, none⟩ = some (.int .i64 (L : Nat)) := ((Fr.turned ht).cell (p := ⟨d, 5, none⟩) (lt_of_cell c5) hdm).trans c5
  have f5' : w1.frozen? ⟨d, 5, none⟩ = false := ((Fr.turned ht).frozen (p := ⟨d, 5, none⟩) (lt_of_cell c5) hdm).trans f5
  have HF := hide (And.intro hr ht)
  clear ho ht hown
  go_enter Try.func25, Try.ntmps25
  go_wp2
  go_end0
  exact ⟨rfl, w1, (unhide HF).1, (unhide HF).2, rfl⟩
set_option maxRecDepth 100000 in
/-- Drop of a packet that is under way. -/
theorem drop_ok (d m k : Nat) (pl : Int) (ps : List PK) (p : PK) (sv : Nat → Option Addr × Nat) (T : Nat → Prop) (w : World) (h : NtAt w d m pl ps sv T) (hk : ps[k]? = some p) (hp : p.gone = 0) (hn : ps.length ≤ 1048576) :
    Calls Try.prog 14 #[.pointer (some ⟨d, 0, none⟩), .int .i64 ((k : Int) + 1)] w fun e w' => e = .returned (.int .i64 0) ∧ NtAt w' d m pl (ps.set k { p with gone := 2 }) sv T ∧ Fr (fun k => k = d ∨ k = m) w w' := by
  obtain ⟨c0, c1, c2, c3, c4, c5, fz⟩ := h.cells
  have hlk := h.look_yes k p hk hp hn true
  simp only [if_true] at hlk
  have hkl := (List.getElem?_eq_some_iff.1 hk).1
  have HL : Hid (∀ o, Calls Try.prog 25 #[.pointer (some ⟨d, 0, none⟩), .int .i64 ((k : Int) + 1)] (w.alloc o) fun e w' => e = .returned (.tuple #[]) ∧ NtAt w' d m pl (ps.set k { p with gone := 2 }) sv T ∧ Fr (fun k => k = d ∨ k = m) w w') := fun o => by
    have hA := h.fr0 (box1 w o)
    obtain ⟨a0, a1, a2, a3, a4, a5, az⟩ := hA.cells
    obtain ⟨D, hown, hD⟩ := hA.map
    refine (loseOne_any d m ps.length _ (cL ps) D (w.alloc o) a1 a5 (az 5) hown h.dm (wf_nat k (by omega)) (Nat.le_trans (List.countP_le_length) hn)).mono ?_
    rintro e w' ⟨rfl, w1, hr, ht, rfl⟩
    obtain ⟨w1', hr', ho', _⟩ := hown.drop Try.iK (t := 56) Try.underlying56 (key_int _ (wf_nat k (by omega))) 0
    have e1 : w1' = w1 := by rw [hr'] at hr; injection hr
    subst e1
    have hfr : Fr (fun k => k = d ∨ k = m) (w.alloc o) (w1'.setCell ⟨d, 5, none⟩ (.int .i64 ((cL ps : Int) + 1))) := ((Fr.turned ht).mono (fun _ _ h => .inr h)).setCell (p := ⟨d, 5, none⟩) (.inl (.inl rfl)) _
    have hb1 : w1'.heap[d]? = some (.cells (NC pl m ps) 58) := ((Fr.turned ht).block d hA.lt.1 h.dm).trans hA.blk
    refine ⟨rfl, hA.del k { p with gone := 2 } hkl (by simp) (h.lim p (List.mem_of_getElem? hk)) hD ?_ (ho'.setCell (fun e => h.dm e.symm) _) hfr, ((box1 w o).mono (fun _ _ h => h.elim)).trans hfr (fun _ _ h => h)⟩
    rw [blkset hb1, (NC_gone pl m ps k p hk hp).2]
  clear h c0 c2 c3 c4 c5 fz hk hp
  generalize (sv k).1 = a at *
  generalize (sv k).2 = b at *
  go_enter Try.func14, Try.ntmps14
  go_wp2_with fail
  refine ((unhide HL) _).mono ?_
  rintro e w3 ⟨rfl, hfin⟩
  have H3 := hide hfin
  clear hfin HL
  go_wp2_with fail
  go_ret
  exact ⟨rfl, unhide H3⟩
set_option maxRecDepth 100000 in
theorem count_any (d m : Nat) (pl : Int) (ps : List PK) (sv : Nat → Option Addr × Nat) (T : Nat → Prop) (w : World) (h : NtAt w d m pl ps sv T) :
    Calls Try.prog 16 #[.pointer (some ⟨d, 0, none⟩)] w fun e w' => e = .returned (.tuple #[.int .i64 (cS ps : Nat), .int .i64 (cC ps : Nat), .int .i64 (cD ps : Nat), .int .i64 (cL ps : Nat)]) ∧ ∃ q, w' = w.drewN q := by
  obtain ⟨c0, c1, c2, c3, c4, c5, fz⟩ := h.cells
  clear h fz c0 c1
  go_enter Try.func16, Try.ntmps16
  go_wp2_with fail
  go_quiet (fail)
  go_wp2_with fail
  (try simp only [Exit.inBlock, Exit.then])
  refine bodyPost_ret (results4 rfl _ _ _) rfl ?_
  exact ⟨rfl, _, rfl⟩
set_option maxRecDepth 100000 in
/-- A packet with bytes of its own. -/
theorem handed_any (n f t : Int) (x : Value) (l : List Nat) (w : World) (hx : Src w x l) (hl : l.length ≤ 1048576) :
    Calls Try.prog 24 #[.agg #[.int .i64 n, .int .i64 f, .int .i64 t, x]] w fun e w' => ∃ ao c, e = .returned (.agg #[.int .i64 n, .int .i64 f, .int .i64 t, .slice ao l.length c]) ∧ w'.ownsRow w.heap.size 5 1 (.slice ao l.length c) l.length (cellsOf l) ∧ Fr (fun _ => False) w w' := by
  obtain ⟨xo, xc, rfl⟩ := hx.form
  have HC : Hid (∀ W, Fr (fun _ => False) w W → Calls Try.prog 21 #[.slice xo l.length xc] W fun e w' => ∃ ao c, e = .returned (.slice ao l.length c) ∧ w'.ownsRow W.heap.size 5 1 (.slice ao l.length c) l.length (cellsOf l) ∧ Fr (fun _ => False) W w') := fun W hW => by
    refine (clone_any _ l W (hx.fr hW (fun _ _ _ _ _ h => h)) (by omega)).mono ?_
    rintro e w' ⟨v, rfl, hv, hf⟩
    obtain ⟨ao, c, rfl⟩ := own_form hv
    exact ⟨ao, c, rfl, hv, hf⟩
  clear hx
  go_enter Try.func24, Try.ntmps24
  go_wp2_with fail
  refine ((unhide HC) _ (box2 w _ _)).mono ?_
  rintro e w2 ⟨ao, c, rfl, hv, hf⟩
  have hs : w.heap.size + 2 ≤ w2.heap.size := by simpa using hf.size
  have b0 : w2.heap[w.heap.size]? = some (.cells #[.int .i64 n, .int .i64 f, .int .i64 t, .slice xo l.length xc] 34) := by
    rw [hf.block _ (by simp; omega) (fun h => h), Below.heap_alloc _ _ _ (by simp), heap_alloc_new]
  have b1 : w2.heap[w.heap.size + 1]? = some (.cells #[.int .i64 0, .int .i64 0, .int .i64 0, .slice none 0 0] 34) := by
    rw [hf.block _ (by simp) (fun h => h)]
    have := heap_alloc_new (w.alloc (.cells #[.int .i64 n, .int .i64 f, .int .i64 t, .slice xo l.length xc] 34)) (.cells #[.int .i64 0, .int .i64 0, .int .i64 0, .slice none 0 0] 34)
    simpa using this
  have k3 : w2.cell? ⟨w.heap.size, 3, none⟩ = some (.slice xo l.length xc) := cell_of_blk b0 rfl
  have z3 : w2.frozen? ⟨w.heap.size, 3, none⟩ = false := by simp [World.frozen?, b0]
  have b0' := blkset b0 3 (.slice ao l.length c)
  have hne : w.heap.size + 1 ≠ w.heap.size := by omega
  have b1' : (w2.setCell ⟨w.heap.size, 3, none⟩ (.slice ao l.length c)).heap[w.heap.size + 1]? = some (.cells #[.int .i64 0, .int .i64 0, .int .i64 0, .slice none 0 0] 34) := (((Fr.refl (fun k => k = w.heap.size) w2).setCell (p := ⟨w.heap.size, 3, none⟩) (.inl rfl) _).block _ (by omega) hne).trans b1
  obtain ⟨W8, hr8, hb8, hf8⟩ := st_all (P := Try.prog) (ty := 34) _ [.int .i64 n, .int .i64 f, .int .i64 t, .slice ao l.length c] b1' rfl (by kernel_rfl) (by simp [Value.oneCell'])
  have hfr : Fr (fun k => k = w.heap.size ∨ k = w.heap.size + 1) w2 W8 := ((Fr.refl (fun k => k = w.heap.size ∨ k = w.heap.size + 1) w2).setCell (p := ⟨w.heap.size, 3, none⟩) (.inl (.inl rfl)) _).trans hf8 (fun _ _ h => .inr h)
  have hrg : W8.rangeAt (w.heap.size + 1) 0 [.int .i64 n, .int .i64 f, .int .i64 t, .slice ao l.length c] := range_of_block hb8
  have hv8 : W8.ownsRow w.heap.size 5 1 (.slice ao l.length c) l.length (cellsOf l) := ownsRow_of_block (own_mono hv (by simp; omega)) (fun g hg => hfr.block g (hv.lt g hg).2 (by have := (hv.lt g hg).1; simp at this; omega))
  have hF : Fr (fun _ => False) w W8 := ((box2 w _ _).trans hf (fun _ _ h => h)).trans hfr (fun i hi h => by omega)
  have HR := hide hr8
  have H8 := hide (And.intro hrg (And.intro hv8 hF))
  have k0 : w2.cell? ⟨w.heap.size, 0, none⟩ = some (.int .i64 n) := cell_of_blk b0 rfl
  have k1 : w2.cell? ⟨w.heap.size, 1, none⟩ = some (.int .i64 f) := cell_of_blk b0 rfl
  have k2 : w2.cell? ⟨w.heap.size, 2, none⟩ = some (.int .i64 t) := cell_of_blk b0 rfl
  clear hr8 hrg hv8 hF hfr hf8 hb8 b1' b0' b1 b0 hf hv HC hs hne
  go_wp2_with (refine wpList_stN rfl 34 (.tmp 2) (.tmp 7) rfl _ _ rfl rfl (unhide HR) ?_)
  (try simp only [Exit.inBlock, Exit.then])
  refine bodyPost_ret (results_cell_mid rfl _ _ (w.heap.size + 1) 0 [.int .i64 n, .int .i64 f, .int .i64 t, .slice ao l.length c] _ rfl (unhide H8).1 Try.underlying34 rfl (by kernel_rfl)) rfl ?_
  exact ⟨ao, c, rfl, (unhide H8).2⟩
end Go.Proofs.Ytedmhpplhbaglaa
