import Derived.Test.YthccbfgjekdiiaaDoorSrb
import Derived.Test.YthccbfgjekdiiaaDoorSrd
import Derived.Test.YthccbfgjekdiiaaDoorSce
namespace Go.Proofs.YthccbfgjekdiiaaDoor
open Go.RowKit

theorem pd_at (m : List Nat) (i : Nat) (hi : i < m.length + 1 + zN m + 8) : (pd m).getD i 0 = if i < m.length then m.getD i 0 else if i = m.length then 128 else if i < m.length + 1 + zN m then 0 else lb m (i - (m.length + 1 + zN m)) := by
  have e : pd m = m ++ ([128] ++ (List.replicate (zN m) 0 ++ (List.range 8).map (lb m))) := by simp [pd, pdk, pdz]
  rw [e, List.getD, List.getD]
  by_cases h1 : i < m.length
  · rw [if_pos h1, List.getElem?_append_left h1]
  · rw [if_neg h1, List.getElem?_append_right (by omega)]
    by_cases h2 : i = m.length
    · rw [if_pos h2, show i - m.length = 0 by omega]; rfl
    · rw [if_neg h2, List.getElem?_append_right (by simp; omega), List.length_singleton]
      by_cases h3 : i < m.length + 1 + zN m
      · rw [if_pos h3, List.getElem?_append_left (by simp; omega), List.getElem?_replicate, if_pos (by omega)]; rfl
      · rw [if_neg h3, List.getElem?_append_right (by simp; omega), List.length_replicate, List.getElem?_map, List.getElem?_range (by omega), Option.map_some, Option.getD_some]
        congr 1
        omega
theorem pd_len (m : List Nat) : (pd m).length = m.length + 1 + zN m + 8 := pdk_len m 8
theorem bt_eq (m : List Nat) (hm : m.length ≤ 16000000) : 8 * m.length % 18446744073709551616 = 8 * m.length := Nat.mod_eq_of_lt (by omega)
/-- The padded bytes, block by block, give the hash. -/
theorem dig_pd (m : List Nat) (hm : m.length ≤ 16000000) : ssn (pd m) ((pd m).length / 64) = dig m := by
  have e : pd m = m ++ ([128] ++ (List.replicate (zN m) 0 ++ (List.range 8).map (lb m))) := by simp [pd, pdk, pdz]
  have hq : ssn (pd m) (m.length / 64) = ssn m (m.length / 64) := by rw [e]; exact ssn_app _ _ _ (by omega)
  have hz : zN m = (119 - m.length % 64) % 64 := rfl
  rw [pd_len, dig, fin]
  by_cases h : m.length % 64 < 56
  · rw [if_pos h, show (m.length + 1 + zN m + 8) / 64 = m.length / 64 + 1 by omega]
    show fo (ssn (pd m) (m.length / 64)) (mb (pd m) (m.length / 64)) = _
    rw [hq]
    congr 1
    refine rl_congr _ _ (fun j hj => ?_)
    rw [pd_at m _ (by omega), lenk, pad, rfn, bt_eq m hm]
    by_cases h1 : 64 ≤ j + 8
    · rw [if_neg (by omega), if_neg (by omega), if_neg (by omega), if_pos h1, lb]
      congr 3
      omega
    · rw [if_neg h1]
      by_cases h2 : j = m.length % 64
      · rw [if_pos h2, if_neg (by omega), if_pos (by omega)]
      · rw [if_neg h2]
        by_cases h3 : j < m.length % 64
        · rw [if_pos h3, if_pos (by omega)]
        · rw [if_neg h3, if_neg (by omega), if_neg (by omega), if_pos (by omega)]
  · rw [if_neg h, show (m.length + 1 + zN m + 8) / 64 = m.length / 64 + 1 + 1 by omega]
    show fo (fo (ssn (pd m) (m.length / 64)) (mb (pd m) (m.length / 64))) (mb (pd m) (m.length / 64 + 1)) = _
    rw [hq]
    have e1 : mb (pd m) (m.length / 64) = rl (pad (rfn m) (m.length % 64)) := by
      refine rl_congr _ _ (fun j hj => ?_)
      rw [pd_at m _ (by omega), pad, rfn]
      by_cases h2 : j = m.length % 64
      · rw [if_pos h2, if_neg (by omega), if_pos (by omega)]
      · rw [if_neg h2]
        by_cases h3 : j < m.length % 64
        · rw [if_pos h3, if_pos (by omega)]
        · rw [if_neg h3, if_neg (by omega), if_neg (by omega), if_pos (by omega)]
    have e2 : mb (pd m) (m.length / 64 + 1) = rl (lenk (fun _ => 0) (8 * m.length % 18446744073709551616) 8) := by
      refine rl_congr _ _ (fun j hj => ?_)
      rw [pd_at m _ (by omega), lenk, bt_eq m hm]
      by_cases h1 : 64 ≤ j + 8
      · rw [if_neg (by omega), if_neg (by omega), if_neg (by omega), if_pos h1, lb]
        congr 3
        omega
      · rw [if_neg h1, if_neg (by omega), if_neg (by omega), if_pos (by omega)]
    rw [e1, e2]
theorem may_yes (i : Int) (w : World) (h1 : 1 ≤ i) (h2 : i ≤ 32) : Calls Tryd.prog 18 #[.int .i64 i] w fun e w' => e = .returned (.bool true) ∧ w' = w := by
  go_enter Tryd.func18, Tryd.ntmps18
  go_wp2_with fail
  go_ret
  exact ⟨rfl, rfl⟩
theorem may_no (i : Int) (w : World) (h : i < 1 ∨ 32 < i) : Calls Tryd.prog 18 #[.int .i64 i] w fun e w' => e = .returned (.bool false) ∧ w' = w := by
  by_cases h1 : 1 ≤ i
  · have h2 : ¬ i ≤ 32 := by omega
    go_enter Tryd.func18, Tryd.ntmps18
    go_wp2_with fail
    go_ret
    exact ⟨rfl, rfl⟩
  · go_enter Tryd.func18, Tryd.ntmps18
    go_wp2_with fail
    go_ret
    exact ⟨rfl, rfl⟩
theorem OB.at_ {w wr : World} {xo : Option Addr} {cp : Nat} {l : List Nat} (h : OB w wr xo cp l) (hl : 0 < l.length) : ∃ g, xo = some ⟨g, 0, none⟩ ∧ w.heap.size ≤ g ∧ g < wr.heap.size ∧ l.length ≤ cp ∧ ∀ j v, (cellsOf l)[j]? = some v → wr.cell? ⟨g, j, none⟩ = some v := by
  have ho := h.own
  have hlt := h.own.lt
  rcases h.own.2 with ⟨_, e⟩ | ⟨g, cap, cur, e, h1, h2, h3, h4, h5, h6⟩
  · omega
  · simp only [Value.slice.injEq, true_and] at e
    obtain ⟨rfl, rfl⟩ := e
    refine ⟨g, rfl, h1, (hlt g rfl).2, h3, fun j v hv => ?_⟩
    have hj : j < l.length * 1 := by
      have := (List.getElem?_eq_some_iff.1 hv).1
      rw [cellsOf_length] at this
      omega
    rw [ho.cellAt j hj, hv]
theorem OB.base {w wr wq : World} {xo : Option Addr} {cp : Nat} {l : List Nat} (h : OB wr wq xo cp l) (hf : Fr (fun _ => False) w wr) : OB w wq xo cp l := by
  refine ⟨⟨h.own.1, ?_⟩, hf.trans h.fr (fun _ _ h => h)⟩
  rcases h.own.2 with h0 | ⟨g, cap, cur, e1, e2, e3⟩
  · exact .inl h0
  · exact .inr ⟨g, cap, cur, e1, Nat.le_trans hf.size e2, e3⟩
/-- A block of bytes of one's own. -/
theorem OB.block {w wr : World} {g cp : Nat} {l : List Nat} (h : OB w wr (some ⟨g, 0, none⟩) cp l) (hb : ∀ v ∈ l, v < 256) (k : Nat) (hk : 64 * k + 64 ≤ l.length) : wr.rangeAt g (64 * k) (V8 (mb l k)) := fun j v hv => by
  obtain ⟨g', e, _, _, _, hc⟩ := h.at_ (by omega)
  simp only [Option.some.injEq, Addr.mk.injEq] at e
  obtain ⟨rfl, _⟩ := e
  obtain ⟨hj, rfl⟩ := V8_at _ j v hv
  rw [mb, rl_len] at hj
  rw [mb, rl_at _ j hj]
  refine hc (64 * k + j) _ ?_
  have hlt : 64 * k + j < l.length := by omega
  simp only [cellsOf, List.getElem?_map, List.getD, List.getElem?_eq_getElem hlt, Option.map_some, Option.getD_some, B, Nat.mod_eq_of_lt (hb _ (List.getElem_mem hlt))]
theorem mb_lt' (M : List Nat) (hM : ∀ v ∈ M, v < 256) (k j : Nat) : (mb M k).getD j 0 < 256 := by
  refine rl_lt _ (fun j _ => ?_) j
  rw [List.getD]
  rcases e : M[64 * k + j]? with _ | v
  · decide
  · exact hM v (List.mem_of_getElem? e)
theorem pd_lt (m : List Nat) (hm : ∀ v ∈ m, v < 256) : ∀ v ∈ pd m, v < 256 := fun v hv => by
  simp only [pd, pdk, pdz, List.mem_append, List.mem_map, List.mem_replicate, List.mem_singleton] at hv
  rcases hv with ((h | h) | h) | ⟨t, _, rfl⟩
  · exact hm v h
  · omega
  · omega
  · exact lb_lt m t
theorem sby_take_succ (z : S8) (t : Nat) (h : t < 32) : (sby z).take t ++ [sbf z t] = (sby z).take (t + 1) := by
  rw [List.take_add_one]
  congr 1
  rw [sby, List.getElem?_map, List.getElem?_range h]; rfl
abbrev p8_0 : Oper := { dst := some 22, op := Op.load 137 (Operand.tmp 6), type := 137, pos := "sha.go:84", after := #[], guard := none }
abbrev p8_1 : Oper := { dst := some 23, op := Op.move (Operand.tmp 5), type := 25, pos := "sha.go:84", after := #[], guard := none }
abbrev p8_2 : Oper := { dst := some 24, op := Op.move (Operand.tmp 7), type := 3, pos := "sha.go:84", after := #[], guard := none }
abbrev p8_3 : Oper := { dst := some 25, op := Op.move (Operand.tmp 7), type := 3, pos := "sha.go:84", after := #[], guard := none }
abbrev p8_4 : Oper := { dst := some 26, op := Op.binOp BinOp.add 3 (Operand.tmp 25) (Operand.const (Value.int IntKind.i64 64)) 3, type := 3, pos := "sha.go:84", after := #[{ on := 3, ground := Ground.data }], guard := none }
abbrev p8_5 : Oper := { dst := some 27, op := Op.slice 25 (Operand.tmp 23) (some (Operand.tmp 24)) (some (Operand.tmp 26)) none, type := 25, pos := "sha.go:84", after := #[{ on := 1, ground := Ground.data }, { on := 2, ground := Ground.data }, { on := 4, ground := Ground.data }], guard := none }
abbrev p8_6 : Oper := { dst := some 28, op := Op.call { callee := Callee.value (Operand.func 105), args := #[Operand.tmp 22, Operand.tmp 27], argTypes := #[137, 25] }, type := 137, pos := "sha.go:84", after := #[{ on := 0, ground := Ground.data }, { on := 5, ground := Ground.data }], guard := none }
abbrev p8_7 : Oper := { dst := none, op := Op.store 137 (Operand.tmp 6) (Operand.tmp 28), type := 0, pos := "sha.go:84", after := #[{ on := 6, ground := Ground.data }, { on := 6, ground := Ground.chain }, { on := 0, ground := Ground.phase }, { on := 1, ground := Ground.phase }, { on := 2, ground := Ground.phase }, { on := 3, ground := Ground.phase }, { on := 4, ground := Ground.phase }, { on := 5, ground := Ground.phase }, { on := 6, ground := Ground.phase }], guard := none }
def opsP : Array Oper := #[p8_0, p8_1, p8_2, p8_3, p8_4, p8_5, p8_6, p8_7]
theorem x_add64 (r : Operand → Value) (o : Oper) (x : Operand) (ho : o.op = .binOp .add 3 x (.const (.int .i64 64)) 3) (i : Int) (h : r x = .int .i64 i) (hc : r (.const (.int .i64 64)) = .int .i64 64) (hw : IntKind.i64.wrap (i + 64) = i + 64) (w : World) : (execOp r o).run Tryd.prog w = .ok (.value (.int .i64 (i + 64))) w := by
  unfold execOp
  simp only [ho, h, hc]
  go_simp
  try with_reducible rfl
theorem x_sl (r : Operand → Value) (o : Oper) (x y z : Operand) (ho : o.op = .slice 25 x (some y) (some z) none) (g n cp i : Nat) (h : r x = .slice (some ⟨g, 0, none⟩) n cp) (hy : r y = .int .i64 (i : Nat)) (hz : r z = .int .i64 ((i : Nat) + 64)) (h1 : i + 64 ≤ cp) (w : World) : (execOp r o).run Tryd.prog w = .ok (.value (.slice (some ⟨g, i, none⟩) 64 (cp - i))) w := by
  have h2 : (i : Int) + 64 ≤ (cp : Int) := by omega
  have h3 : (0 : Int) ≤ (i : Int) + 64 := by omega
  have h4 : (i : Int) ≤ (i : Int) + 64 := by omega
  have h5 : ((i : Int) + 64).toNat = i + 64 := by omega
  have h6 : i + 64 - i = 64 := by omega
  have h7 : ¬ cp = i := by omega
  have h8 : ¬ cp - i = 0 := by omega
  unfold execOp
  simp only [ho, h, hy, hz, Option.map_some, Option.map_none]
  go_simp
  try with_reducible rfl
theorem x_gfold (a : Act) (o : Oper) (x y : Operand) (tys : Array TypeId) (ho : o.op = .call { callee := .value (.func 105), args := #[x, y], argTypes := tys }) (vx vy : Value) (hx : a.eval x = vx) (hy : a.eval y = vy) (w : World) : (execOp a.eval o).run Tryd.prog w = .ok (.enter 105 #[vx, vy]) w := by
  unfold execOp
  simp only [ho, resolve, List.map_toArray, List.map_cons, List.map_nil, hx, hy]
  go_simp
  try with_reducible rfl
/-- What the temporaries hold behind the region. -/
def putP (a : Act) (ps sl : Value) (i : Nat) (h r : Value) : Act :=
  ((((((a.put (some 23) ps).put (some 24) (.int .i64 (i : Nat))).put (some 25) (.int .i64 (i : Nat))).put (some 26) (.int .i64 ((i : Nat) + 64))).put (some 27) sl).put (some 22) h).put (some 28) r
set_option linter.unusedSimpArgs false in
set_option maxHeartbeats 400000 in
set_option maxRecDepth 100000 in
/-- A block of the padded bytes is folded. -/
theorem regP {Q : Exit → Act → World → Prop} (hQ : ∀ c (a : Act) d v w, Q (.panic c) (a.put d v) w → Q (.panic c) a w) (a : Act) (w : World) (b g n cp i : Nat) (s : S8) (l : List Nat) (ha : 28 < a.tmps.size) (h6 : a.eval (.tmp 6) = .pointer (some ⟨b, 0, none⟩)) (h5 : a.eval (.tmp 5) = .slice (some ⟨g, 0, none⟩) n cp) (h7 : a.eval (.tmp 7) = .int .i64 (i : Nat))
    (hw : IntKind.i64.wrap ((i : Int) + 64) = (i : Int) + 64) (hi : i + 64 ≤ cp) (hE : Et8 w b s) (hg : GR w) (hs : s.ok) (hl : l.length = 64) (hb : ∀ j, l.getD j 0 < 256) (hc : w.rangeAt g i (V8 l))
    (h : ∀ w2, Fr (fun _ => False) w w2 → Q .normal (putP a (.slice (some ⟨g, 0, none⟩) n cp) (.slice (some ⟨g, i, none⟩) 64 (cp - i)) i (.agg (V64 s.vals).toArray) (.agg (V64 (fo s l).vals).toArray)) (w2.setCells b 0 (V64 (fo s l).vals))) :
    (Code.region 8 opsP true).wp Tryd.prog Q a w := by
  have g22 : 22 < a.tmps.size := by omega
  have g23 : 23 < a.tmps.size := by omega
  have g24 : 24 < a.tmps.size := by omega
  have g25 : 25 < a.tmps.size := by omega
  have g26 : 26 < a.tmps.size := by omega
  have g27 : 27 < a.tmps.size := by omega
  refine wp_region_any (by kernel_rfl) ?_
  change wpAny _ _ _ _ _ _ _ (World.drew _)
  refine wpAny_take (i := 1) (oi := p8_1) (v := .slice (some ⟨g, 0, none⟩) n cp) rfl (by kernel_rfl) (by kernel_rfl) (by kernel_rfl) (fun _ _ _ h => hQ _ _ _ _ _ h) (Or.inl ⟨by rfl, fun w => by rw [x_move _ _ (.tmp 5) rfl]; simp [ev_put, put_size, h5, h6, h7, g22, g23, g24, g25, g26, g27]⟩) ?_
  refine wpAny_take (i := 2) (oi := p8_2) (v := .int .i64 (i : Nat)) rfl (by kernel_rfl) (by kernel_rfl) (by kernel_rfl) (fun _ _ _ h => hQ _ _ _ _ _ h) (Or.inl ⟨by rfl, fun w => by rw [x_move _ _ (.tmp 7) rfl]; simp [ev_put, put_size, h5, h6, h7, g22, g23, g24, g25, g26, g27]⟩) ?_
  refine wpAny_take (i := 3) (oi := p8_3) (v := .int .i64 (i : Nat)) rfl (by kernel_rfl) (by kernel_rfl) (by kernel_rfl) (fun _ _ _ h => hQ _ _ _ _ _ h) (Or.inl ⟨by rfl, fun w => by rw [x_move _ _ (.tmp 7) rfl]; simp [ev_put, put_size, h5, h6, h7, g22, g23, g24, g25, g26, g27]⟩) ?_
  refine wpAny_take (i := 4) (oi := p8_4) (v := .int .i64 ((i : Nat) + 64)) rfl (by kernel_rfl) (by kernel_rfl) (by kernel_rfl) (fun _ _ _ h => hQ _ _ _ _ _ h) (Or.inl ⟨by rfl, fun w => x_add64 _ _ (.tmp 25) rfl _ (by simp [ev_put, put_size, h5, h6, h7, g22, g23, g24, g25, g26, g27]) rfl hw w⟩) ?_
  refine wpAny_take (i := 5) (oi := p8_5) (v := .slice (some ⟨g, i, none⟩) 64 (cp - i)) rfl (by kernel_rfl) (by kernel_rfl) (by kernel_rfl) (fun _ _ _ h => hQ _ _ _ _ _ h) (Or.inl ⟨by rfl, fun w => x_sl _ _ (.tmp 23) (.tmp 24) (.tmp 26) rfl g n cp i (by simp [ev_put, put_size, h5, h6, h7, g22, g23, g24, g25, g26, g27]) (by simp [ev_put, put_size, h5, h6, h7, g22, g23, g24, g25, g26, g27]) (by simp [ev_put, put_size, h5, h6, h7, g22, g23, g24, g25, g26, g27]) hi w⟩) ?_
  obtain ⟨A, hA⟩ : ∃ A, (((((a.put p8_1.dst (.slice (some ⟨g, 0, none⟩) n cp)).put p8_2.dst (.int .i64 (i : Nat))).put p8_3.dst (.int .i64 (i : Nat))).put p8_4.dst (.int .i64 ((i : Nat) + 64))).put p8_5.dst (.slice (some ⟨g, i, none⟩) 64 (cp - i))) = A := ⟨_, rfl⟩
  rw [hA]
  have e6 : A.eval (.tmp 6) = .pointer (some ⟨b, 0, none⟩) := by rw [← hA]; simp [ev_put, put_size, h5, h6, h7, g22, g23, g24, g25, g26, g27]
  have e27 : A.eval (.tmp 27) = .slice (some ⟨g, i, none⟩) 64 (cp - i) := by rw [← hA]; simp [ev_put, put_size, h5, h6, h7, g22, g23, g24, g25, g26, g27]
  have hAs : A.tmps.size = a.tmps.size := by rw [← hA]; simp [put_size]
  have hput : putP a (.slice (some ⟨g, 0, none⟩) n cp) (.slice (some ⟨g, i, none⟩) 64 (cp - i)) i (.agg (V64 s.vals).toArray) (.agg (V64 (fo s l).vals).toArray) = (A.put (some 22) (.agg (V64 s.vals).toArray)).put (some 28) (.agg (V64 (fo s l).vals).toArray) := by rw [← hA]; rfl
  rw [hput] at h
  have hgd : GR w.drew := hg
  have hr1 : w.drew.rangeAt b 0 (V64 s.vals) := hE.range
  have hr2 : w.drew.rangeAt g i (V8 l) := hc
  have hE2 : ∀ w2, Fr (fun _ => False) w.drew w2 → w2.there b 0 8 := fun w2 hf => (hE.fr (S := fun _ => False) (Fr.trans (S := fun _ => False) (⟨rfl, rfl, rfl, Nat.le_refl _, fun _ _ _ => rfl⟩ : Fr (fun _ => False) w w.drew) hf (fun _ _ h => h)) (fun h => h)).there
  refine any_one (i := 0) (op := p8_0) (by kernel_rfl) (by kernel_rfl) (fun K hK => ?_)
  refine step_ld rfl 137 (.tmp 6) rfl b 0 e6 (V64 s.vals) _ hr1 Tryd.underlying137 rfl info_h64 (hK _ _ ?_)
  refine any_one (i := 6) (op := p8_6) (by kernel_rfl) (by kernel_rfl) (fun K hK => ?_)
  rw [if_pos (by rfl)]
  unfold Oper.wp
  rw [x_gfold _ _ (.tmp 22) (.tmp 27) _ rfl (.agg (V64 s.vals).toArray) (.slice (some ⟨g, i, none⟩) 64 (cp - i)) (by simp [ev_put, put_size, hAs, g22]) (by simp [ev_put, put_size, e27]) _]
  refine (gfold_any s l g i (cp - i) w.drew hs hl hb hr2 hgd).mono ?_
  rintro e w2 ⟨rfl, hf⟩
  refine hK _ _ ?_
  refine any_st (i := 7) (op := p8_7) (by kernel_rfl) (by kernel_rfl) rfl rfl 137 (.tmp 6) (.tmp 28) rfl b 0 (V64 (fo s l).vals).toArray (by simp [ev_put, put_size, e6]) (by simp [ev_put, put_size, hAs, ha]) (hE2 w2 hf) info_h64 (all_oneCell_toArray (V64_one _)) ?_
  refine wpAny_done (by kernel_rfl) ?_ _
  exact h w2 (Fr.trans (S := fun _ => False) (⟨rfl, rfl, rfl, Nat.le_refl _, fun _ _ _ => rfl⟩ : Fr (fun _ => False) w w.drew) hf (fun _ _ h => h))
set_option maxRecDepth 100000 in
set_option maxHeartbeats 1000000 in
theorem gsum_in (n : Nat) (x : Value) (m : List Nat) (w : World) (hg : GR w) (hx : Src w x m) (hc : ∀ v ∈ m, v < 256) (hm : m.length ≤ 16000000) (h1 : 1 ≤ n) (h2 : n ≤ 32) :
    Calls Tryd.prog 89 #[.int .i64 n, x] w fun e w' => ∃ yo yc, e = .returned (.slice yo n yc) ∧ OB w w' yo yc ((sby (dig m)).take n) := by
  obtain ⟨xo, xc, rfl⟩ := hx.form
  have hz1 := zero_h64
  have HG := hide (And.intro hg (And.intro hx (And.intro hc hm)))
  clear hg hx hc hm
  generalize hL : m.length = L at *
  have i1 : (1 : Int) ≤ (n : Int) := by omega
  have i2 : (n : Int) ≤ 32 := by omega
  go_enter Tryd.func89, Tryd.ntmps89
  go_wp2_with fail
  refine (may_yes n w i1 i2).mono ?_
  rintro e w0 ⟨rfl, rfl⟩
  go_wp2_with fail
  refine (padded_any _ m w0 (unhide HG).2.1 (by rw [hL]; exact (unhide HG).2.2.2)).mono ?_
  rintro e w1 ⟨ao, cp, rfl, hO⟩
  have hg1 := (unhide HG).1.fr0 hO.fr
  have hB : w1.rangeAt 2 0 (V64 st0.vals) := fun j v hv => by
    obtain ⟨hj, rfl⟩ := V64_at _ j v hv
    rw [Nat.zero_add]
    exact hg1.2.1 j hj
  have hi8 : (Tryd.prog.info? 137).map (·.size) = some (V64 st0.vals).length := info_h64
  obtain ⟨w2, hw2⟩ : ∃ w2, (w1.alloc (.cells (Array.replicate 8 (.int .u64 0)) 137)).setCells w1.heap.size 0 (V64 st0.vals) = w2 := ⟨_, rfl⟩
  have h2a := et8_zero w1 137
  have hE2 : Et8 w2 w1.heap.size st0 := by rw [← hw2]; exact Et8.put h2a.there st0
  have hF12 : Fr (fun _ => False) w1 w2 := by rw [← hw2]; exact Fr.setCells ((Fr.refl _ _).alloc _) (.inr (Nat.le_refl _)) _
  have H2 := hide (And.intro hO (And.intro hg1 (And.intro hB (And.intro hi8 (And.intro hw2 (And.intro h2a.there (And.intro hE2 hF12)))))))
  clear hO hg1 hB hi8 hw2 h2a hE2 hF12
  go_wp2_with (first
    | (refine wpList_load_mid rfl 137 (.global 2) rfl 2 0 rfl (V64 st0.vals) _ (unhide H2).2.2.1 Tryd.underlying137 rfl (unhide H2).2.2.2.1 ?_)
    | (refine wpList_store_to rfl 137 (.tmp 6) (.tmp 15) rfl w1.heap.size 0 (V64 st0.vals).toArray rfl rfl (unhide H2).2.2.2.2.2.1 (unhide H2).2.2.2.1 (all_oneCell_toArray (V64_one _)) w2 (unhide H2).2.2.2.2.1 ?_))
  obtain ⟨g, rfl, hgl, hgu, hcp, _⟩ := (unhide H2).1.at_ (by rw [pd_len]; omega)
  have hlen : (pd m).length % 64 = 0 := by
    have hz : zN m = (119 - m.length % 64) % 64 := rfl
    rw [pd_len]; omega
  have hple : (pd m).length ≤ 16000200 := by
    have hz : zN m < 64 := Nat.mod_lt _ (by decide)
    have := (unhide HG).2.2.2
    rw [pd_len]; omega
  have hdig := dig_pd m (by rw [hL]; exact (unhide HG).2.2.2)
  have hpb := pd_lt m (unhide HG).2.2.1
  have hOP : OB w0 w1 (some ⟨g, 0, none⟩) cp (pd m) := (unhide H2).1
  generalize pd m = M at *
  generalize hP : M.length = P at *
  have H3 := hide (And.intro hgl (And.intro hgu (And.intro hcp (And.intro hlen (And.intro hple (And.intro hdig (And.intro hpb (And.intro hOP hP))))))))
  clear hgl hgu hcp hlen hple hdig hpb hOP hP
  go_loopw [7] (fun i wr => ∃ k : Nat, 64 * k ≤ P ∧ i = .int .i64 ((64 * k : Nat) : Int) ∧ Et8 wr w1.heap.size (ssn M k) ∧ Fr (fun x => x = w1.heap.size) w2 wr) (fun i _ => P - (intOf i).toNat)
  case atStart => exact ⟨0, Nat.zero_le _, rfl, (unhide H2).2.2.2.2.2.2.1, Fr.refl _ _⟩
  case round =>
    obtain ⟨k, hk, rfl, hE, hF⟩ := hrel
    rename World => wr
    have hlen := (unhide H3).2.2.2.1
    have hple := (unhide H3).2.2.2.2.1
    have hgu := (unhide H3).2.1
    have hFw : Fr (fun _ => False) w1 wr := fr_new hF (unhide H2).2.2.2.2.2.2.2 (Nat.le_refl _)
    by_cases hlt : 64 * k < P
    · have hlt' : ((64 * k : Nat) : Int) < (P : Int) := by omega
      have hw64 : IntKind.i64.wrap (((64 * k : Nat) : Int) + 64) = ((64 * k : Nat) : Int) + 64 := by rw [IntKind.wrap_i64]; omega
      have hbl : wr.rangeAt g (64 * k) (V8 (mb M k)) := fun j v hv => by
        have h1 := (unhide H3).2.2.2.2.2.2.2.1.block (unhide H3).2.2.2.2.2.2.1 k (by rw [(unhide H3).2.2.2.2.2.2.2.2]; omega) j v hv
        exact (hFw.cell (p := ⟨g, 64 * k + j, none⟩) hgu (fun h => h)).trans h1
      have hcp := (unhide H3).2.2.1
      have hgr := (unhide H2).2.1.fr0 hFw
      have HI := hide (And.intro hE (And.intro hF (And.intro hbl (And.intro hgr (And.intro hw64 hcp)))))
      clear hE hF hbl hgr hFw hcp hgu hw64
      generalize hI : 64 * k = I at *
      go_wp2_with fail
      refine wp_region_noPanic (regP (fun _ _ _ _ _ h => h) _ _ w1.heap.size g P cp I (ssn M k) (mb M k) (by simp) rfl rfl rfl (unhide HI).2.2.2.2.1 (by have := (unhide HI).2.2.2.2.2; omega) (unhide HI).1 (unhide HI).2.2.2.1 (ssn_ok M k) (rl_len _) (mb_lt' M (unhide H3).2.2.2.2.2.2.1 k) (unhide HI).2.2.1 (fun w5 hf => NoPanic.normal ?_))
      have hth : w5.there w1.heap.size 0 8 := ((unhide HI).1.fr hf (fun h => h)).there
      have hN1 : Et8 (w5.setCells w1.heap.size 0 (V64 (fo (ssn M k) (mb M k)).vals)) w1.heap.size (ssn M (k + 1)) := Et8.put hth _
      have hN2 : Fr (fun x => x = w1.heap.size) w2 (w5.setCells w1.heap.size 0 (V64 (fo (ssn M k) (mb M k)).vals)) := Fr.setCells ((unhide HI).2.1.trans (hf.mono (T := fun x => x = w1.heap.size) (fun _ _ h => h.elim)) (fun _ _ h => h)) (.inl rfl) _
      have HN := hide (And.intro hN1 hN2)
      clear hN1 hN2 hth hf
      simp only [putP, Act.put, List.setIfInBounds_toArray, List.set_cons_zero, List.set_cons_succ]
      have r64 : IntKind.i64.wrap ((I : Int) + 64) = (I : Int) + 64 := by rw [IntKind.wrap_i64]; omega
      go_wp2_with fail
      refine ⟨⟨k + 1, by omega, by rw [show 64 * (k + 1) = I + 64 by omega]; go_num, (unhide HN).1, (unhide HN).2⟩, by simp [intOf]; omega⟩
    · have hPe : 64 * k = P := by omega
      have hE2 : Et8 wr w1.heap.size (dig m) := by
        rw [← (unhide H3).2.2.2.2.2.1, ← hPe, show 64 * k / 64 = k by omega]; exact hE
      have hF0 : Fr (fun _ => False) w0 wr := (unhide H2).1.fr.trans hFw (fun _ _ h => h)
      have hok : (dig m).ok := by rw [← (unhide H3).2.2.2.2.2.1]; exact ssn_ok _ _
      have HE := hide (And.intro hE2 (And.intro hF0 (And.intro hok hFw)))
      clear hE2 hF0 hok hE hF hFw hlen hple hgu
      generalize hI : 64 * k = I at *
      have hge : ¬ (I : Int) < (P : Int) := by omega
      go_wp2_with fail
      clear hge
      generalize hz : dig m = z at *
      go_loopw [8, 9] (fun v i wq => ∃ (t : Nat) (yo : Option Addr) (yc : Nat), t ≤ n ∧ i = .int .i64 (t : Nat) ∧ v = .slice yo t yc ∧ OB wr wq yo yc ((sby z).take t)) (fun _ i _ => n - (intOf i).toNat)
      case atStart => exact ⟨0, none, 0, Nat.zero_le _, rfl, rfl, ⟨own_nil _ _, Fr.refl _ _⟩⟩
      case round =>
        obtain ⟨t, yo, yc, ht, rfl, rfl, hO⟩ := hrel
        rename World => wq
        by_cases hlt : t < n
        · have hlt' : (t : Int) < (n : Int) := by omega
          have hcl : wq.cell? ⟨w1.heap.size, t / 4, none⟩ = _ := ((unhide HE).1.fr hO.fr (fun h => h)).at_ (t / 4) (by omega)
          have hb := vals_lt z (unhide HE).2.2.1 (t / 4) (by omega)
          have hsl : ((sby z).take t).length = t := by rw [List.length_take, sby_len]; omega
          obtain ⟨a4, c4, w4, hr4, hO4⟩ := hO.app1 (sbf z t) (Nat.mod_lt _ (by decide)) (by rw [hsl]; omega)
          rw [List.length_append, hsl] at hr4
          rw [sby_take_succ z t (by omega)] at hO4
          have hsf : sbf z t = z.vals.getD (t / 4) 0 / 2 ^ (24 - 8 * (t % 4)) % 256 := rfl
          have hsb : sbf z t < 256 := Nat.mod_lt _ (by decide)
          generalize z.vals.getD (t / 4) 0 = y at *
          have hsh : bits .and .u64 ((y : Int) / 2 ^ (24 - 8 * (t % 4))) 255 = ((sbf z t : Nat) : Int) := by
            have e1 : (y : Int) / 2 ^ (24 - 8 * (t % 4)) = ((y / 2 ^ (24 - 8 * (t % 4)) : Nat) : Int) := by simp
            rw [e1, and_255 _ (Nat.lt_of_le_of_lt (Nat.div_le_self _ _) (by omega)), hsf]
          clear hsf
          generalize sbf z t = V at *
          have e11 : IntKind.u8.wrap (V : Int) = (V : Int) := by rw [IntKind.wrap_u8]; omega
          have d1 : (0 : Int) ≤ (t : Int) / 4 := by omega
          have d2 : (t : Int) / 4 < 8 := by omega
          have d3 : ((t : Int) / 4).toNat = t / 4 := by omega
          have d4 : (0 : Int) ≤ 24 - 8 * ((t : Int) % 4) := by omega
          have d5 : (24 - 8 * ((t : Int) % 4)).toNat = 24 - 8 * (t % 4) := by omega
          have d6 : IntKind.i64.wrap (8 * ((t : Int) % 4)) = 8 * ((t : Int) % 4) := by rw [IntKind.wrap_i64]; omega
          have d7 : IntKind.i64.wrap (24 - 8 * ((t : Int) % 4)) = 24 - 8 * ((t : Int) % 4) := by rw [IntKind.wrap_i64]; omega
          have d8 : IntKind.u64.wrap (24 - 8 * ((t : Int) % 4)) = 24 - 8 * ((t : Int) % 4) := by rw [IntKind.wrap_u64]; omega
          have d9 : IntKind.i64.wrap ((t : Int) / 4) = (t : Int) / 4 := by rw [IntKind.wrap_i64]; omega
          have HR4 := hide hr4
          have HO4 := hide hO4
          clear hr4 hO4 hO hsl
          go_wp2_with (at_builtin; refine wpList_app rfl (.tmp 34) (.tmp 47) 25 25 rfl _ _ _ rfl rfl (unhide HR4) ?_)
          exact ⟨⟨t + 1, _, _, by omega, by go_num, rfl, unhide HO4⟩, by simp [intOf]; omega⟩
        · have hte : t = n := by omega
          have hlt' : ¬ (t : Int) < (n : Int) := by omega
          have hO2 := hO.base (unhide HE).2.1
          have HQ := hide (And.intro hO2 hte)
          clear hO hO2 hte
          go_wp2_with fail
          go_ret
          obtain ⟨h3, h4⟩ := unhide HQ
          subst h4
          refine ⟨yo, yc, rfl, ?_⟩
          exact h3
set_option maxRecDepth 100000 in
theorem gsum_out (i : Int) (x : Value) (w : World) (h : i < 1 ∨ 32 < i) : Calls Tryd.prog 89 #[.int .i64 i, x] w fun e w' => e = .returned (.slice none 0 0) ∧ w' = w := by
  go_enter Tryd.func89, Tryd.ntmps89
  go_wp2_with fail
  refine (may_no i w h).mono ?_
  rintro e w0 ⟨rfl, rfl⟩
  go_wp2_with fail
  go_ret
  exact ⟨rfl, rfl⟩
theorem gsum_T (i : Int) (x : Value) (m : List Nat) (w : World) (hg : GR w) (hx : Src w x m) (hc : ∀ v ∈ m, v < 256) (hm : m.length ≤ 16000000) :
    Calls Tryd.prog 89 #[.int .i64 i, x] w fun e w' => ∃ yo yc, e = .returned (.slice yo (sm i m).length yc) ∧ OB w w' yo yc (sm i m) := by
  by_cases h : 1 ≤ i ∧ i ≤ 32
  · obtain ⟨n, rfl⟩ : ∃ n : Nat, i = (n : Int) := ⟨i.toNat, by omega⟩
    refine (gsum_in n x m w hg hx hc hm (by omega) (by omega)).mono ?_
    rintro e w' ⟨yo, yc, rfl, hO⟩
    refine ⟨yo, yc, by rw [sm_len h, Int.toNat_natCast], ?_⟩
    rw [sm, if_pos h, Int.toNat_natCast]
    exact hO
  · refine (gsum_out i x w (by omega)).mono ?_
    rintro e w' ⟨rfl, rfl⟩
    rw [sm, if_neg h]
    exact ⟨none, 0, rfl, own_nil _ _, Fr.refl _ _⟩
end Go.Proofs.YthccbfgjekdiiaaDoor
