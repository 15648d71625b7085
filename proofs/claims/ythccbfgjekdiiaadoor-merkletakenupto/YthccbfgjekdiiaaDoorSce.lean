import Derived.Test.YthccbfgjekdiiaaDoorSby
namespace Go.Proofs.YthccbfgjekdiiaaDoor
open Go.RowKit

/-- A whole row is loaded at a step of a region that draws. -/
theorem step_ld {P : Program} {w : World} {ops : Array Oper} {op : Oper} {a : Act} {K : Act → World → Prop} {Q : Exit → Act → World → Prop} {E : Prop} (hgd : op.guard = none) (ty : TypeId) (x : Operand) (ho : op.op = .load ty x)
    (b o : Nat) (hx : a.eval x = .pointer (some ⟨b, o, none⟩)) (cs : List Value) (d : TypeDesc) (hc : w.rangeAt b o cs) (hu : P.underlying ty = some d) (hd : d.isRow = true) (hi : (P.info? ty).map (·.size) = some cs.length)
    (h : K (a.put op.dst (.agg cs.toArray)) w) : if Region.wanted op (yielded ops a.tmps) = true then Oper.wp P op a w K Q else E := by
  have hw : Region.wanted op (yielded ops a.tmps) = true := by simp [Region.wanted, hgd]
  rw [if_pos hw]
  exact wp_load_mid ty x ho b o hx cs d hc hu hd hi h
/-- A whole row is stored at a step of a region that draws. -/
theorem step_st {P : Program} {w : World} {ops : Array Oper} {op : Oper} {a : Act} {K : Act → World → Prop} {Q : Exit → Act → World → Prop} {E : Prop} (hgd : op.guard = none) (ty : TypeId) (x y : Operand) (ho : op.op = .store ty x y)
    (b o : Nat) (cells : Array Value) (hx : a.eval x = .pointer (some ⟨b, o, none⟩)) (hy : a.eval y = .agg cells) (ht : w.there b o cells.size) (hi : (P.info? ty).map (·.size) = some cells.size) (h1 : cells.all (·.oneCell') = true)
    (h : K (a.put op.dst undef) (w.setCells b o cells.toList)) : if Region.wanted op (yielded ops a.tmps) = true then Oper.wp P op a w K Q else E := by
  have hw : Region.wanted op (yielded ops a.tmps) = true := by simp [Region.wanted, hgd]
  rw [if_pos hw]
  exact wp_store_mid ty x y ho b o cells hx hy ht hi h1 h

abbrev o6_0 : Oper := { dst := some 38, op := Op.move (Operand.tmp 0), type := 121, pos := "sha.go:31", after := #[], guard := none }
abbrev o6_1 : Oper := { dst := some 39, op := Op.move (Operand.tmp 0), type := 121, pos := "sha.go:31", after := #[], guard := none }
abbrev o6_2 : Oper := { dst := some 40, op := Op.nilCheck (Operand.tmp 39), type := 0, pos := "sha.go:31", after := #[{ on := 1, ground := Ground.data }], guard := none }
abbrev o6_3 : Oper := { dst := some 41, op := Op.fieldAddr 93 (Operand.tmp 40) 0, type := 0, pos := "sha.go:31", after := #[{ on := 2, ground := Ground.data }], guard := none }
abbrev o6_4 : Oper := { dst := some 42, op := Op.load 88 (Operand.tmp 41), type := 88, pos := "sha.go:31", after := #[{ on := 3, ground := Ground.data }], guard := none }
abbrev o6_5 : Oper := { dst := some 43, op := Op.move (Operand.tmp 0), type := 121, pos := "sha.go:31", after := #[], guard := none }
abbrev o6_6 : Oper := { dst := some 44, op := Op.nilCheck (Operand.tmp 43), type := 0, pos := "sha.go:31", after := #[{ on := 5, ground := Ground.data }], guard := none }
abbrev o6_7 : Oper := { dst := some 45, op := Op.fieldAddr 93 (Operand.tmp 44) 1, type := 0, pos := "sha.go:31", after := #[{ on := 6, ground := Ground.data }], guard := none }
abbrev o6_8 : Oper := { dst := some 46, op := Op.load 90 (Operand.tmp 45), type := 90, pos := "sha.go:31", after := #[{ on := 7, ground := Ground.data }], guard := none }
abbrev o6_9 : Oper := { dst := some 47, op := Op.call { callee := Callee.value (Operand.func 83), args := #[Operand.tmp 42, Operand.tmp 46], argTypes := #[88, 90] }, type := 88, pos := "sha.go:31", after := #[{ on := 4, ground := Ground.data }, { on := 8, ground := Ground.data }], guard := none }
abbrev o6_10 : Oper := { dst := some 48, op := Op.nilCheck (Operand.tmp 38), type := 0, pos := "sha.go:31", after := #[{ on := 0, ground := Ground.data }, { on := 0, ground := Ground.phase }, { on := 1, ground := Ground.phase }, { on := 2, ground := Ground.phase }, { on := 3, ground := Ground.phase }, { on := 4, ground := Ground.phase }, { on := 5, ground := Ground.phase }, { on := 6, ground := Ground.phase }, { on := 7, ground := Ground.phase }, { on := 8, ground := Ground.phase }, { on := 9, ground := Ground.phase }], guard := none }
abbrev o6_11 : Oper := { dst := some 49, op := Op.fieldAddr 93 (Operand.tmp 48) 0, type := 0, pos := "sha.go:31", after := #[{ on := 10, ground := Ground.data }, { on := 0, ground := Ground.phase }, { on := 1, ground := Ground.phase }, { on := 2, ground := Ground.phase }, { on := 3, ground := Ground.phase }, { on := 4, ground := Ground.phase }, { on := 5, ground := Ground.phase }, { on := 6, ground := Ground.phase }, { on := 7, ground := Ground.phase }, { on := 8, ground := Ground.phase }, { on := 9, ground := Ground.phase }], guard := none }
abbrev o6_12 : Oper := { dst := none, op := Op.store 88 (Operand.tmp 49) (Operand.tmp 47), type := 0, pos := "sha.go:31", after := #[{ on := 11, ground := Ground.data }, { on := 9, ground := Ground.data }, { on := 9, ground := Ground.chain }, { on := 0, ground := Ground.phase }, { on := 1, ground := Ground.phase }, { on := 2, ground := Ground.phase }, { on := 3, ground := Ground.phase }, { on := 4, ground := Ground.phase }, { on := 5, ground := Ground.phase }, { on := 6, ground := Ground.phase }, { on := 7, ground := Ground.phase }, { on := 8, ground := Ground.phase }, { on := 9, ground := Ground.phase }], guard := none }
def ops6 : Array Oper := #[o6_0, o6_1, o6_2, o6_3, o6_4, o6_5, o6_6, o6_7, o6_8, o6_9, o6_10, o6_11, o6_12]
theorem ev_put (a : Act) (d e : Nat) (v : Value) : (a.put (some d) v).eval (.tmp e) = if d = e ∧ d < a.tmps.size then v else a.eval (.tmp e) := by
  by_cases h : d = e
  · subst h
    by_cases h2 : d < a.tmps.size
    · simp [Act.eval, Act.put, h2]
    · simp [Act.eval, Act.put, h2]
  · simp [Act.eval, Act.put, h, Array.getElem?_setIfInBounds_ne h]
theorem put_size (a : Act) (d : Nat) (v : Value) : (a.put (some d) v).tmps.size = a.tmps.size := by simp [Act.put]
/-- An operation that yields at a step of a region that draws. -/
theorem step_run {P : Program} {w : World} {ops : Array Oper} {op : Oper} {a : Act} {K : Act → World → Prop} {Q : Exit → Act → World → Prop} {E : Prop} {v : Value} (hgd : op.guard = none) (hr : (execOp a.eval op).run P w = .ok (.value v) w) (h : K (a.put op.dst v) w) : if Region.wanted op (yielded ops a.tmps) = true then Oper.wp P op a w K Q else E := by
  have hw : Region.wanted op (yielded ops a.tmps) = true := by simp [Region.wanted, hgd]
  rw [if_pos hw]
  unfold Oper.wp
  rw [hr]
  exact h
theorem x_move {P : Program} (r : Operand → Value) (o : Oper) (x : Operand) (ho : o.op = .move x) (w : World) : (execOp r o).run P w = .ok (.value (r x)) w := by
  unfold execOp
  simp only [ho]
  rfl
theorem x_nil {P : Program} (r : Operand → Value) (o : Oper) (x : Operand) (ho : o.op = .nilCheck x) (A : Addr) (h : r x = .pointer (some A)) (w : World) : (execOp r o).run P w = .ok (.value (.pointer (some A))) w := by
  unfold execOp
  simp only [ho, h]
  rfl
theorem x_f0 (r : Operand → Value) (o : Oper) (x : Operand) (ho : o.op = .fieldAddr 93 x 0) (b f : Nat) (h : r x = .pointer (some ⟨b, f, none⟩)) (w : World) : (execOp r o).run Tryd.prog w = .ok (.value (.pointer (some ⟨b, f, none⟩))) w := by
  unfold execOp
  simp only [ho, h]
  go_simp
  try with_reducible rfl
theorem x_f1 (r : Operand → Value) (o : Oper) (x : Operand) (ho : o.op = .fieldAddr 93 x 1) (b f : Nat) (h : r x = .pointer (some ⟨b, f, none⟩)) (w : World) : (execOp r o).run Tryd.prog w = .ok (.value (.pointer (some ⟨b, f + 8, none⟩))) w := by
  unfold execOp
  simp only [ho, h]
  go_simp
  try with_reducible rfl
theorem x_fold (a : Act) (o : Oper) (x y : Operand) (tys : Array TypeId) (ho : o.op = .call { callee := .value (.func 83), args := #[x, y], argTypes := tys }) (vx vy : Value) (hx : a.eval x = vx) (hy : a.eval y = vy) (w : World) : (execOp a.eval o).run Tryd.prog w = .ok (.enter 83 #[vx, vy]) w := by
  unfold execOp
  simp only [ho, resolve, List.map_toArray, List.map_cons, List.map_nil, hx, hy]
  go_simp
  try with_reducible rfl
/-- fold is called at a step of a region that draws. -/
theorem step_fold {w : World} {ops : Array Oper} {op : Oper} {a : Act} {K : Act → World → Prop} {Q : Exit → Act → World → Prop} {E : Prop} (hgd : op.guard = none) (x y : Operand) (tys : Array TypeId) (ho : op.op = .call { callee := .value (.func 83), args := #[x, y], argTypes := tys })
    (s : S8) (l : List Nat) (hs : s.ok) (hl : l.length = 64) (hb : ∀ j, l.getD j 0 < 256) (hk : GK w) (hx : a.eval x = .agg s.cells.toArray) (hy : a.eval y = .agg (V8 l).toArray)
    (h : ∀ w2, Fr (fun _ => False) w w2 → K (a.put op.dst (.agg (fo s l).cells.toArray)) w2) : if Region.wanted op (yielded ops a.tmps) = true then Oper.wp Tryd.prog op a w K Q else E := by
  have hw : Region.wanted op (yielded ops a.tmps) = true := by simp [Region.wanted, hgd]
  rw [if_pos hw]
  unfold Oper.wp
  rw [x_fold a op x y tys ho _ _ hx hy w]
  refine (fold_any s l w hs hl hb hk).mono ?_
  rintro e w' ⟨rfl, hf⟩
  exact h w' hf

section
variable {P : Program} {md : Region.Mode} {ops : Array Oper} {Q : Exit → Act → World → Prop} {fuel : Nat} {ls : Array Bool} {a : Act} {w : World}
theorem any_one {i : Nat} {op : Oper} (hr : Region.ready md ops ls = [i]) (ho : ops[i]? = some op) (h : ∀ K : Act → World → Prop, (∀ a w, wpAny P md ops Q fuel (ls.setIfInBounds i true) a w → K a w) → if Region.wanted op (yielded ops a.tmps) = true then Oper.wp P op a w K Q else K (a.put op.dst undef) w) : wpAny P md ops Q (fuel + 1) ls a w :=
  wpAny_ready hr (by simp) (AllReady.cons ho h AllReady.nil)
theorem any_two {i j : Nat} {op oq : Oper} (hr : Region.ready md ops ls = [i, j]) (ho : ops[i]? = some op) (hq : ops[j]? = some oq) (h : ∀ K : Act → World → Prop, (∀ a w, wpAny P md ops Q fuel (ls.setIfInBounds i true) a w → K a w) → if Region.wanted op (yielded ops a.tmps) = true then Oper.wp P op a w K Q else K (a.put op.dst undef) w)
    (h2 : ∀ K : Act → World → Prop, (∀ a w, wpAny P md ops Q fuel (ls.setIfInBounds j true) a w → K a w) → if Region.wanted oq (yielded ops a.tmps) = true then Oper.wp P oq a w K Q else K (a.put oq.dst undef) w) : wpAny P md ops Q (fuel + 1) ls a w :=
  wpAny_ready hr (by simp) (AllReady.cons ho h (AllReady.cons hq h2 AllReady.nil))
/-- Two loads of whole rows, in either order. -/
theorem any_ld2 {i j : Nat} {op oq : Oper} (hr : Region.ready md ops ls = [i, j]) (hri : Region.ready md ops (ls.setIfInBounds i true) = [j]) (hrj : Region.ready md ops (ls.setIfInBounds j true) = [i]) (ho : ops[i]? = some op) (hq : ops[j]? = some oq) (hgo : op.guard = none) (hgq : oq.guard = none) (di dj xi xj ti tj : Nat) (hne : ¬ di = dj) (hdi : op.dst = some di) (hdj : oq.dst = some dj) (hoi : op.op = .load ti (.tmp xi)) (hoj : oq.op = .load tj (.tmp xj)) (hxj : ¬ di = xj) (hxi : ¬ dj = xi)
    (b f b' f' : Nat) (hx : a.eval (.tmp xi) = .pointer (some ⟨b, f, none⟩)) (hy : a.eval (.tmp xj) = .pointer (some ⟨b', f', none⟩)) (cs cs' : List Value) (d d' : TypeDesc) (hc : w.rangeAt b f cs) (hc' : w.rangeAt b' f' cs') (hu : P.underlying ti = some d) (hu' : P.underlying tj = some d') (hd : d.isRow = true) (hd' : d'.isRow = true) (hi : (P.info? ti).map (·.size) = some cs.length) (hi' : (P.info? tj).map (·.size) = some cs'.length)
    (h1 : wpAny P md ops Q fuel ((ls.setIfInBounds i true).setIfInBounds j true) ((a.put (some di) (.agg cs.toArray)).put (some dj) (.agg cs'.toArray)) w) (hls : (ls.setIfInBounds j true).setIfInBounds i true = (ls.setIfInBounds i true).setIfInBounds j true) : wpAny P md ops Q (fuel + 1 + 1) ls a w := by
  refine any_two hr ho hq (fun K hK => ?_) (fun K hK => ?_)
  · refine step_ld hgo ti (.tmp xi) hoi b f hx cs d hc hu hd hi ?_
    refine hK _ _ ?_
    refine any_one hri hq (fun K' hK' => ?_)
    refine step_ld hgq tj (.tmp xj) hoj b' f' (by rw [hdi, ev_put, if_neg (fun h => hxj h.1)]; exact hy) cs' d' hc' hu' hd' hi' ?_
    refine hK' _ _ ?_
    rw [hdi, hdj]
    exact h1
  · refine step_ld hgq tj (.tmp xj) hoj b' f' hy cs' d' hc' hu' hd' hi' ?_
    refine hK _ _ ?_
    refine any_one hrj ho (fun K' hK' => ?_)
    refine step_ld hgo ti (.tmp xi) hoi b f (by rw [hdj, ev_put, if_neg (fun h => hxi h.1)]; exact hx) cs d hc hu hd hi ?_
    refine hK' _ _ ?_
    rw [hdi, hdj, hls, Act.put_comm _ _ _ (by intro q hq e; cases hq; cases e; exact hne rfl)]
    exact h1
/-- An operation that yields, and nothing else is ready. -/
theorem any_run {i : Nat} {op : Oper} (hr : Region.ready md ops ls = [i]) (ho : ops[i]? = some op) (hgd : op.guard = none) (di : Nat) (hdi : op.dst = some di) {v : Value} (hx : (execOp a.eval op).run P w = .ok (.value v) w) (h : wpAny P md ops Q fuel (ls.setIfInBounds i true) (a.put (some di) v) w) : wpAny P md ops Q (fuel + 1) ls a w := by
  refine any_one hr ho (fun K hK => ?_)
  refine step_run hgd hx ?_
  refine hK _ _ ?_
  rw [hdi]
  exact h
theorem any_st {i : Nat} {op : Oper} (hr : Region.ready md ops ls = [i]) (ho : ops[i]? = some op) (hgd : op.guard = none) (hdi : op.dst = none) (ty : TypeId) (x y : Operand) (hop : op.op = .store ty x y)
    (b o : Nat) (cells : Array Value) (hx : a.eval x = .pointer (some ⟨b, o, none⟩)) (hy : a.eval y = .agg cells) (ht : w.there b o cells.size) (hi : (P.info? ty).map (·.size) = some cells.size) (h1 : cells.all (·.oneCell') = true)
    (h : wpAny P md ops Q fuel (ls.setIfInBounds i true) a (w.setCells b o cells.toList)) : wpAny P md ops Q (fuel + 1) ls a w := by
  refine any_one hr ho (fun K hK => ?_)
  refine step_st hgd ty x y hop b o cells hx hy ht hi h1 ?_
  refine hK _ _ ?_
  rw [hdi]
  exact h
theorem any_fold {i : Nat} {op : Oper} (hr : Region.ready md ops ls = [i]) (ho : ops[i]? = some op) (hgd : op.guard = none) (di : Nat) (hdi : op.dst = some di) (x y : Operand) (tys : Array TypeId) (hop : op.op = .call { callee := .value (.func 83), args := #[x, y], argTypes := tys })
    (s : S8) (l : List Nat) (hs : s.ok) (hl : l.length = 64) (hb : ∀ j, l.getD j 0 < 256) (hk : GK w) (hx : a.eval x = .agg s.cells.toArray) (hy : a.eval y = .agg (V8 l).toArray)
    (h : ∀ w2, Fr (fun _ => False) w w2 → wpAny Tryd.prog md ops Q fuel (ls.setIfInBounds i true) (a.put (some di) (.agg (fo s l).cells.toArray)) w2) : wpAny Tryd.prog md ops Q (fuel + 1) ls a w := by
  refine any_one hr ho (fun K hK => ?_)
  refine step_fold hgd x y tys hop s l hs hl hb hk hx hy (fun w2 hf => ?_)
  refine hK _ _ ?_
  rw [hdi]
  exact h w2 hf
end

/-- What the temporaries hold behind region 6. -/
def put6 (a : Act) (b o : Nat) (st bl r : Value) : Act :=
  (((((((((((a.put (some 38) (.pointer (some ⟨b, o, none⟩))).put (some 39) (.pointer (some ⟨b, o, none⟩))).put (some 40) (.pointer (some ⟨b, o, none⟩))).put (some 41) (.pointer (some ⟨b, o, none⟩))).put (some 43) (.pointer (some ⟨b, o, none⟩))).put (some 44) (.pointer (some ⟨b, o, none⟩))).put (some 45) (.pointer (some ⟨b, o + 8, none⟩))).put (some 42) st).put (some 46) bl).put (some 47) r).put (some 48) (.pointer (some ⟨b, o, none⟩))).put (some 49) (.pointer (some ⟨b, o, none⟩))
set_option linter.unusedSimpArgs false in
set_option maxHeartbeats 400000 in
set_option maxRecDepth 100000 in
/-- Region 6: the block is folded. -/
theorem reg6 {Q : Exit → Act → World → Prop} (hQ : ∀ c (a : Act) d v w, Q (.panic c) (a.put d v) w → Q (.panic c) a w) (a : Act) (w : World) (b o t : Nat) (s : S8) (F : Nat → Nat) (ha : 49 < a.tmps.size) (h0 : a.eval (.tmp 0) = .pointer (some ⟨b, o, none⟩))
    (hH : HsAt w b o s F t) (hg : GK w) (hs : s.ok) (hF : ∀ j, j < 64 → F j < 256)
    (h : ∀ w2, Fr (fun _ => False) w w2 → Q .normal (put6 a b o (.agg s.cells.toArray) (.agg (V8 (rl F)).toArray) (.agg (fo s (rl F)).cells.toArray)) (w2.setCells b o (fo s (rl F)).cells)) :
    (Code.region 6 ops6 true).wp Tryd.prog Q a w := by
  have g38 : 38 < a.tmps.size := by omega
  have g39 : 39 < a.tmps.size := by omega
  have g40 : 40 < a.tmps.size := by omega
  have g41 : 41 < a.tmps.size := by omega
  have g42 : 42 < a.tmps.size := by omega
  have g43 : 43 < a.tmps.size := by omega
  have g44 : 44 < a.tmps.size := by omega
  have g45 : 45 < a.tmps.size := by omega
  have g46 : 46 < a.tmps.size := by omega
  have g47 : 47 < a.tmps.size := by omega
  have g48 : 48 < a.tmps.size := by omega
  refine wp_region_any (by kernel_rfl) ?_
  change wpAny _ _ _ _ _ _ _ (World.drew _)
  refine wpAny_take (i := 0) (oi := o6_0) (v := .pointer (some ⟨b, o, none⟩)) rfl (by kernel_rfl) (by kernel_rfl) (by kernel_rfl) (fun _ _ _ h => hQ _ _ _ _ _ h) (Or.inl ⟨by rfl, fun w => by rw [x_move _ _ (.tmp 0) rfl]; simp [ev_put, put_size, *]⟩) ?_
  refine wpAny_take (i := 1) (oi := o6_1) (v := .pointer (some ⟨b, o, none⟩)) rfl (by kernel_rfl) (by kernel_rfl) (by kernel_rfl) (fun _ _ _ h => hQ _ _ _ _ _ h) (Or.inl ⟨by rfl, fun w => by rw [x_move _ _ (.tmp 0) rfl]; simp [ev_put, put_size, *]⟩) ?_
  refine wpAny_take (i := 2) (oi := o6_2) (v := .pointer (some ⟨b, o, none⟩)) rfl (by kernel_rfl) (by kernel_rfl) (by kernel_rfl) (fun _ _ _ h => hQ _ _ _ _ _ h) (Or.inl ⟨by rfl, fun w => x_nil _ _ (.tmp 39) rfl _ (by simp [ev_put, put_size, *]) w⟩) ?_
  refine wpAny_take (i := 3) (oi := o6_3) (v := .pointer (some ⟨b, o, none⟩)) rfl (by kernel_rfl) (by kernel_rfl) (by kernel_rfl) (fun _ _ _ h => hQ _ _ _ _ _ h) (Or.inl ⟨by rfl, fun w => x_f0 _ _ (.tmp 40) rfl _ _ (by simp [ev_put, put_size, *]) w⟩) ?_
  refine wpAny_take (i := 5) (oi := o6_5) (v := .pointer (some ⟨b, o, none⟩)) rfl (by kernel_rfl) (by kernel_rfl) (by kernel_rfl) (fun _ _ _ h => hQ _ _ _ _ _ h) (Or.inl ⟨by rfl, fun w => by rw [x_move _ _ (.tmp 0) rfl]; simp [ev_put, put_size, *]⟩) ?_
  refine wpAny_take (i := 6) (oi := o6_6) (v := .pointer (some ⟨b, o, none⟩)) rfl (by kernel_rfl) (by kernel_rfl) (by kernel_rfl) (fun _ _ _ h => hQ _ _ _ _ _ h) (Or.inl ⟨by rfl, fun w => x_nil _ _ (.tmp 43) rfl _ (by simp [ev_put, put_size, *]) w⟩) ?_
  refine wpAny_take (i := 7) (oi := o6_7) (v := .pointer (some ⟨b, o + 8, none⟩)) rfl (by kernel_rfl) (by kernel_rfl) (by kernel_rfl) (fun _ _ _ h => hQ _ _ _ _ _ h) (Or.inl ⟨by rfl, fun w => x_f1 _ _ (.tmp 44) rfl _ _ (by simp [ev_put, put_size, *]) w⟩) ?_
  obtain ⟨A, hA⟩ : ∃ A, (((((((a.put o6_0.dst (.pointer (some ⟨b, o, none⟩))).put o6_1.dst (.pointer (some ⟨b, o, none⟩))).put o6_2.dst (.pointer (some ⟨b, o, none⟩))).put o6_3.dst (.pointer (some ⟨b, o, none⟩))).put o6_5.dst (.pointer (some ⟨b, o, none⟩))).put o6_6.dst (.pointer (some ⟨b, o, none⟩))).put o6_7.dst (.pointer (some ⟨b, o + 8, none⟩))) = A := ⟨_, rfl⟩
  rw [hA]
  have e41 : A.eval (.tmp 41) = .pointer (some ⟨b, o, none⟩) := by rw [← hA]; simp [ev_put, put_size, g38, g39, g40, g41, g42, g43, g44, g45, g46, g47, g48]
  have e45 : A.eval (.tmp 45) = .pointer (some ⟨b, o + 8, none⟩) := by rw [← hA]; simp [ev_put, put_size, g38, g39, g40, g41, g42, g43, g44, g45, g46, g47, g48]
  have e38 : A.eval (.tmp 38) = .pointer (some ⟨b, o, none⟩) := by rw [← hA]; simp [ev_put, put_size, g38, g39, g40, g41, g42, g43, g44, g45, g46, g47, g48]
  have hAs : A.tmps.size = a.tmps.size := by rw [← hA]; simp [put_size]
  have hr1 : w.drew.rangeAt b o s.cells := hH.st
  have hr2 : w.drew.rangeAt b (o + 8) (V8 (rl F)) := hH.restR
  have hi2 : (Tryd.prog.info? 90).map (·.size) = some (V8 (rl F)).length := by rw [V8_len, rl_len]; exact info_bl
  have hput : put6 a b o (.agg s.cells.toArray) (.agg (V8 (rl F)).toArray) (.agg (fo s (rl F)).cells.toArray) = ((((A.put (some 42) (.agg s.cells.toArray)).put (some 46) (.agg (V8 (rl F)).toArray)).put (some 47) (.agg (fo s (rl F)).cells.toArray)).put (some 48) (.pointer (some ⟨b, o, none⟩))).put (some 49) (.pointer (some ⟨b, o, none⟩)) := by rw [← hA]; rfl
  rw [hput] at h
  have hgd : GK w.drew := hg
  have hH2 : ∀ w2, Fr (fun _ => False) w.drew w2 → HsAt w2 b o s F t := fun w2 hf => hH.fr (S := fun _ => False) (Fr.trans (S := fun _ => False) (⟨rfl, rfl, rfl, Nat.le_refl _, fun _ _ _ => rfl⟩ : Fr (fun _ => False) w w.drew) hf (fun _ _ h => h)) (fun h => h)
  refine any_ld2 (i := 4) (j := 8) (op := o6_4) (oq := o6_8) (by kernel_rfl) (by kernel_rfl) (by kernel_rfl) (by kernel_rfl) (by kernel_rfl) rfl rfl 42 46 41 45 88 90 (by decide) rfl rfl rfl rfl (by decide) (by decide) b o b (o + 8) e41 e45 s.cells (V8 (rl F)) _ _ hr1 hr2 Tryd.underlying88 Tryd.underlying90 rfl rfl info_st hi2 ?_ (by kernel_rfl)
  refine any_fold (i := 9) (op := o6_9) (by kernel_rfl) (by kernel_rfl) rfl 47 rfl (.tmp 42) (.tmp 46) _ rfl s (rl F) hs (rl_len F) (rl_lt F hF) hgd (by simp [ev_put, put_size, hAs, g42, g46]) (by simp [ev_put, put_size, hAs, g42, g46]) (fun w2 hf => ?_)
  refine any_run (i := 10) (op := o6_10) (by kernel_rfl) (by kernel_rfl) rfl 48 rfl (x_nil _ _ (.tmp 38) rfl ⟨b, o, none⟩ (by simp [ev_put, put_size, e38]) _) ?_
  refine any_run (i := 11) (op := o6_11) (by kernel_rfl) (by kernel_rfl) rfl 49 rfl (x_f0 _ _ (.tmp 48) rfl b o (by simp [ev_put, put_size, hAs, g48]) _) ?_
  refine any_st (i := 12) (op := o6_12) (by kernel_rfl) (by kernel_rfl) rfl rfl 88 (.tmp 49) (.tmp 47) rfl b o (fo s (rl F)).cells.toArray (by simp [ev_put, put_size, hAs, ha]) (by simp [ev_put, put_size, hAs, g47]) (hH2 w2 hf).thereS info_st (all_oneCell_toArray (V32_one (fo s (rl F)).vals)) ?_
  refine wpAny_done (by kernel_rfl) ?_ _
  exact h w2 (Fr.trans (S := fun _ => False) (⟨rfl, rfl, rfl, Nat.le_refl _, fun _ _ _ => rfl⟩ : Fr (fun _ => False) w w.drew) hf (fun _ _ h => h))
end Go.Proofs.YthccbfgjekdiiaaDoor
