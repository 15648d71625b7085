import Derived.Test.YtoflkfnmbighaaaBase
import Derived.Laws.OwnMore
import Derived.Lib.SlBytesConst
import Derived.Lib.ConvBytes
import Derived.Lib.AppendStr
import Derived.Deep.Cut
import Derived.Deep.CutRange
import Derived.BigQuiet
import Derived.Deep.QuietTactic
import Derived.KernelRfl
import Derived.Deep.RegionHeld3
import Derived.Deep.MidRow
import Derived.Laws.MakeOwn
import Derived.Laws.IdiomCopy
namespace Go.Proofs.Ytoflkfnmbighaaa
open Go.RowKit

theorem Try.info5 : (Try.prog.info? 5).map (fun i => (i.zero, i.size, i.bytes)) = some (some (.int .u8 0), 1, 1) := by kernel_rfl
theorem box1 (w : World) (a : Obj) : Fr (fun _ => False) w (w.alloc a) := (Fr.refl _ _).alloc _
theorem own_mono {w : World} {base base' n : Nat} {v : Value} {xs : List Value} (h : w.ownsRow base 5 1 v n xs) (hb : base' ≤ base) : w.ownsRow base' 5 1 v n xs := by
  refine ⟨h.1, ?_⟩
  rcases h.2 with h | ⟨g, c, cur, e1, e2, e3⟩
  · exact .inl h
  · exact .inr ⟨g, c, cur, e1, Nat.le_trans hb e2, e3⟩
theorem ownsRow_of_block {w w' : World} {base e size n : Nat} {v : Value} {xs : List Value} (h : w.ownsRow base e size v n xs) (hb : ∀ g, v.ownBlock = some g → w'.heap[g]? = w.heap[g]?) : w'.ownsRow base e size v n xs := by
  refine ⟨h.1, ?_⟩
  rcases h.2 with h0 | ⟨g, cap, cur, e1, e2, e3, e4⟩
  · exact .inl h0
  · exact .inr ⟨g, cap, cur, e1, e2, (hb g (by rw [e1]; rfl)).trans e3, e4⟩
theorem box2 (w : World) (a b : Obj) : Fr (fun _ => False) w ((w.alloc a).alloc b) := ((Fr.refl _ _).alloc _).alloc _
theorem cellsOf_append (a b : List Nat) : cellsOf (a ++ b) = cellsOf a ++ cellsOf b := by simp [cellsOf]
theorem cellsOf_length (a : List Nat) : (cellsOf a).length = a.length := by simp [cellsOf]
theorem cellsOf_one (a : List Nat) : ∀ u ∈ cellsOf a, u.oneCell' = true := by
  intro u hu
  simp only [cellsOf, List.mem_map] at hu
  obtain ⟨c, _, rfl⟩ := hu
  rfl
/-- Where a slice of bytes lies, and what it holds. -/
def Src (w : World) (x : Value) (l : List Nat) : Prop :=
  (x = .slice none 0 0 ∧ l = []) ∨ (∃ g o c, x = .slice (some ⟨g, o, none⟩) l.length c ∧ ∀ j v, (cellsOf l)[j]? = some v → w.cell? ⟨g, o + j, none⟩ = some v) ∨ ∃ a c, x = .slice (some a) 0 c ∧ l = []
theorem Src.fr {w w' : World} {x : Value} {l : List Nat} {S : Nat → Prop} (h : Src w x l) (hf : Fr S w w') (hS : ∀ g o m c, x = .slice (some ⟨g, o, none⟩) m c → ¬ S g) : Src w' x l := by
  rcases h with h | ⟨g, o, c, hx, hc⟩ | h
  · exact .inl h
  · exact .inr (.inl ⟨g, o, c, hx, fun j v hv => (hf.cell (p := ⟨g, o + j, none⟩) (lt_of_cell (hc j v hv)) (hS g o _ c hx)).trans (hc j v hv)⟩)
  · exact .inr (.inr h)
theorem Src.form {w : World} {x : Value} {l : List Nat} (h : Src w x l) : ∃ xo xc, x = .slice xo l.length xc := by
  rcases h with ⟨rfl, rfl⟩ | ⟨g, o, c, rfl, _⟩ | ⟨a, c, rfl, rfl⟩
  · exact ⟨none, 0, rfl⟩
  · exact ⟨_, c, rfl⟩
  · exact ⟨_, c, rfl⟩
theorem src_at {w : World} {xo : Option Addr} {n xc : Nat} {a : List Nat} (h : Src w (.slice xo n xc) a) (k : Nat) (hk : k < a.length) : ∃ g o, xo = some ⟨g, o, none⟩ ∧ w.cell? ⟨g, o + k, none⟩ = some (.int .u8 ((a[k] % 256 : Nat) : Int)) := by
  rcases h with ⟨_, e⟩ | ⟨g, o, c, hx, hc⟩ | ⟨_, _, _, e⟩
  · subst e; simp at hk
  · simp only [Value.slice.injEq] at hx
    exact ⟨g, o, hx.1, hc k _ (by simp [cellsOf, hk, B])⟩
  · subst e; simp at hk
theorem own_form {w : World} {base n : Nat} {v : Value} {xs : List Value} (h : w.ownsRow base 5 1 v n xs) : ∃ ao cap, v = .slice ao n cap := by
  rcases h.2 with ⟨rfl, rfl⟩ | ⟨g, cap, cur, rfl, _⟩
  · exact ⟨none, 0, rfl⟩
  · exact ⟨some ⟨g, 0, none⟩, cap, rfl⟩
/-- append(v, x...) of bytes. -/
theorem run_app_sl (w : World) (ty base n : Nat) (v x : Value) (xs : List Value) (l : List Nat) (hown : w.ownsRow base 5 1 v n xs) (hx : Src w x l) (hb : n + l.length ≤ 140737488355328) (hbase : base ≤ w.heap.size) :
    ∃ ao cap w', (Builtin.append_ #[36, 36] ty #[v, x]).run Try.prog w = .ok (.slice ao (n + l.length) cap) w' ∧ w'.ownsRow base 5 1 (.slice ao (n + l.length) cap) (n + l.length) (xs ++ cellsOf l) ∧ w.grownBy w' v.ownBlock ∧
      ((Value.slice ao (n + l.length) cap).ownBlock = v.ownBlock ∨ (Value.slice ao (n + l.length) cap).ownBlock = some w.heap.size) := by
  obtain ⟨i0, hi, hz0, hz1, hz2⟩ := info_parts Try.info5
  rcases hx with ⟨rfl, rfl⟩ | ⟨g, o, c, rfl, hc⟩ | ⟨ad, c, rfl, rfl⟩
  · have hr := run_append_owned_none (P := Try.prog) w base 36 ty 5 i0 1 Try.underlying36 hi v n xs hown
    obtain ⟨ao, cap, rfl⟩ := own_form hown
    exact ⟨ao, cap, w, by simpa using hr, by simpa [cellsOf] using hown, ⟨rfl, rfl, rfl, Nat.le_refl _, fun _ _ _ => rfl⟩, .inl rfl⟩
  · obtain ⟨v', w', hr, h2, h3, _, h5⟩ := run_append_own_at (P := Try.prog) w base 36 ty 5 i0 (.int .u8 0) 1 1 Try.underlying36 hi hz0 hz1 hz2 rfl (by decide) v n xs hown ⟨g, o, none⟩ l.length c (cellsOf l) (by simp [cellsOf_length]) (fun j u hu => by
        have e : (⟨g, o, none⟩ : Addr).add j = ⟨g, o + j, none⟩ := by unfold Addr.add; split <;> simp_all
        rw [e]; exact hc j u hu) (cellsOf_one l) (by simp only [maxLen]; omega) (by omega) hbase
    obtain ⟨ao, cap, rfl⟩ := own_form h2
    exact ⟨ao, cap, w', hr, h2, h3, h5⟩
  · obtain ⟨v', w', hr, h2, h3, _, h5⟩ := run_append_own_at (P := Try.prog) w base 36 ty 5 i0 (.int .u8 0) 1 1 Try.underlying36 hi hz0 hz1 hz2 rfl (by decide) v n xs hown ad 0 c [] rfl (fun j u hu => by simp at hu) (fun u hu => by simp at hu) (by simp only [maxLen]; simp at hb; omega) (by simp at hb; omega) hbase
    obtain ⟨ao, cap, rfl⟩ := own_form h2
    exact ⟨ao, cap, w', hr, h2, h3, h5⟩
theorem own_src {w : World} {base : Nat} {v : Value} {l : List Nat} (h : w.ownsRow base 5 1 v l.length (cellsOf l)) : Src w v l := by
  rcases h.2 with ⟨rfl, e⟩ | ⟨g, cap, cur, rfl, _⟩
  · exact .inl ⟨rfl, List.eq_nil_of_length_eq_zero e⟩
  · refine .inr (.inl ⟨g, 0, cap, rfl, fun j v hv => ?_⟩)
    have := h.cells (g := g) rfl j v hv
    have e : (⟨g, 0, none⟩ : Addr).add j = ⟨g, 0 + j, none⟩ := by unfold Addr.add; split <;> simp_all
    rw [e] at this; exact this
theorem wpList_app {P : Program} {w w' : World} {ops : Array Oper} {rest : List Oper} {o : Oper} {a : Act} {Q : Exit → Act → World → Prop} (hgd : o.guard = none) (s x : Operand) (t u : TypeId)
    (ho : o.op = .call { callee := .builtin .append, args := #[s, x], argTypes := #[t, u] }) (vs vx v' : Value) (hs : a.eval s = vs) (hx : a.eval x = vx) (hr : (Builtin.append_ #[t, u] o.type #[vs, vx]).run P w = .ok v' w')
    (h : wpList P ops Q rest (a.put o.dst v') w') : wpList P ops Q (o :: rest) a w := by
  refine wpList_plain hgd fun K hK => ?_
  unfold Oper.wp execOp
  simp only [ho, resolve, invoke, builtin, Sem.run_bind, Sem.run_pure, Result.andThen_ok, List.map_toArray, List.map_cons, List.map_nil, hs, hx, hr]
  exact hK _ _ h
theorem Try.nn0 (w : World) : (binOp .eql 36 (.slice none 0 0) (.slice none 0 0)).run Try.prog w = .ok (.bool true) w := by kernel_rfl
theorem Try.nn1 (a : Addr) (n c : Nat) (w : World) : (binOp .eql 36 (.slice (some a) n c) (.slice none 0 0)).run Try.prog w = .ok (.bool false) w := by kernel_rfl
set_option maxRecDepth 100000 in
/-- bytes.Clone. -/
theorem clone_any (x : Value) (l : List Nat) (w : World) (hx : Src w x l) (hl : l.length ≤ 140737488355328) :
    Calls Try.prog 52 #[x] w fun e w' => ∃ v, e = .returned v ∧ w'.ownsRow w.heap.size 5 1 v l.length (cellsOf l) ∧ Fr (fun _ => False) w w' := by
  obtain ⟨rfl, rfl⟩ | ⟨a, c, rfl⟩ : (x = .slice none 0 0 ∧ l = []) ∨ ∃ a c, x = .slice (some a) l.length c := by
    rcases hx with h | ⟨g, o, c, rfl, _⟩ | ⟨a, c, rfl, rfl⟩
    · exact .inl h
    · exact .inr ⟨_, c, rfl⟩
    · exact .inr ⟨_, c, rfl⟩
  · have n0 := Try.nn0
    go_enter Try.func52, Try.ntmps52
    go_wp2
    go_ret
    exact ⟨_, rfl, World.ownsRow_nil _ _ _ _, Fr.refl _ _⟩
  · have hx1 : Src (w.alloc (.cells #[] 5)) (.slice (some a) l.length c) l := hx.fr ((Fr.refl (fun _ => False) _).alloc _) (fun _ _ _ _ _ h => h)
    obtain ⟨ao, cap, w2, hr, hown, hgrow, hat⟩ := run_app_sl (w.alloc (.cells #[] 5)) 36 w.heap.size 0 (.slice (some ⟨w.heap.size, 0, none⟩) 0 0) _ [] l (World.ownsRow_made w #[] 0 (Nat.le_refl _) (Nat.zero_le _) rfl) hx1 (by omega) (by simp)
    have HR := hide hr
    have HA := hide (And.intro hown hgrow)
    clear hr hown hgrow hat hx hx1
    have n1 := Try.nn1
    go_enter Try.func52, Try.ntmps52
    go_wp2_with (at_builtin; refine wpList_app rfl (.tmp 5) (.tmp 6) 36 36 rfl _ _ _ rfl rfl (unhide HR) ?_)
    go_ret
    obtain ⟨hown, hgrow⟩ := unhide HA
    exact ⟨_, rfl, by simpa using hown, ((Fr.refl _ _).alloc _).grown hgrow (fun k hk => .inr (by simp [Value.ownBlock] at hk; omega))⟩
theorem Fr.drewN {S : Nat → Prop} {a w : World} (h : Fr S a w) (n : Nat) : Fr S a (w.drewN n) := ⟨h.os, h.tape, h.output, h.size, h.block⟩
/-- Same of two slices of bytes. -/
def norm (a : List Nat) : List Nat := a.map (· % 256)
def sameB (a b : List Nat) : Bool := decide (norm a = norm b)
theorem norm_take_succ {a b : List Nat} {k : Nat} (ha : k < a.length) (hb : k < b.length) (h : norm (a.take k) = norm (b.take k)) (e : a[k] % 256 = b[k] % 256) : norm (a.take (k + 1)) = norm (b.take (k + 1)) := by
  simp only [norm, List.take_add_one, List.getElem?_eq_getElem ha, List.getElem?_eq_getElem hb, Option.toList_some, List.map_append, List.map_cons, List.map_nil] at *
  rw [h, e]
theorem dd (w : World) (a b : Nat) : ∃ n, (w.drewN a).drewN b = w.drewN n := ⟨a + b, by simp [World.drewN, Nat.add_assoc]⟩
theorem same_no {a b : List Nat} {k : Nat} (ha : k < a.length) (hb : k < b.length) (e : ¬ a[k] % 256 = b[k] % 256) : sameB a b = false := by
  simp only [sameB, decide_eq_false_iff_not]
  intro h
  have := congrArg (fun l => l[k]?) h
  simp [norm, ha, hb] at this
  exact e this
theorem same_yes {a b : List Nat} {k : Nat} (hl : a.length = b.length) (hk : a.length ≤ k) (h : norm (a.take k) = norm (b.take k)) : sameB a b = true := by
  rw [List.take_of_length_le hk, List.take_of_length_le (by omega)] at h
  simp [sameB, h]
set_option maxRecDepth 100000 in
theorem same_any (x y : Value) (a b : List Nat) (w : World) (hx : Src w x a) (hy : Src w y b) (ha : a.length ≤ 140737488355328) :
    Calls Try.prog 22 #[x, y] w fun e w' => e = .returned (.bool (sameB a b)) ∧ ∃ n, w' = w.drewN n := by
  have HX := hide hx
  have HY := hide hy
  obtain ⟨xo, xc, rfl⟩ := hx.form
  obtain ⟨yo, yc, rfl⟩ := hy.form
  clear hx hy
  by_cases hl : a.length = b.length
  · have hne : ((a.length : Int) != (b.length : Int)) = false := by simp [hl]
    have HL := hide hl
    clear hl
    go_enter Try.func22, Try.ntmps22
    go_wp2_with fail
    go_loopw [5] (fun i wr => ∃ k q : Nat, k ≤ a.length ∧ i = .int .i64 k ∧ norm (a.take k) = norm (b.take k) ∧ wr = w.drewN q) (fun i _ => a.length - (intOf i).toNat)
    case atStart => exact ⟨0, 0, Nat.zero_le _, rfl, rfl, rfl⟩
    case round =>
      obtain ⟨k, q, hk, rfl, hnm, rfl⟩ := hrel
      have HN := hide hnm
      clear hnm
      by_cases hlt : k < a.length
      · have hltb : k < b.length := by have := unhide HL; omega
        obtain ⟨g, o, rfl, hcx⟩ := src_at (unhide HX) k hlt
        obtain ⟨g', o', rfl, hcy⟩ := src_at (unhide HY) k hltb
        by_cases he : a[k] % 256 = b[k] % 256
        · have hq : ((((a[k] % 256 : Nat) : Int)) != ((b[k] % 256 : Nat) : Int)) = false := by simp only [bne_eq_false_iff_eq]; omega
          have HE := hide he
          clear he
          generalize hA : ((a[k] % 256 : Nat) : Int) = A at hcx hq
          generalize hB : ((b[k] % 256 : Nat) : Int) = Bv at hcy hq
          clear hA hB
          go_wp2_with fail
          go_quiet (fail)
          go_wp2_with fail
          go_roundw
          case rel => exact ⟨k + 1, q + _, by omega, by go_num, norm_take_succ hlt hltb (unhide HN) (unhide HE), rfl⟩
          case measure => simp [intOf]; omega
        · have hq : ((((a[k] % 256 : Nat) : Int)) != ((b[k] % 256 : Nat) : Int)) = true := by simp only [bne_iff_ne]; omega
          have HE := hide he
          clear he
          generalize hA : ((a[k] % 256 : Nat) : Int) = A at hcx hq
          generalize hB : ((b[k] % 256 : Nat) : Int) = Bv at hcy hq
          clear hA hB
          go_wp2_with fail
          go_quiet (fail)
          go_wp2_with fail
          go_ret
          exact ⟨by rw [same_no hlt hltb (unhide HE)]; rfl, dd w q _⟩
      · go_wp2_with fail
        go_ret
        exact ⟨by rw [same_yes (unhide HL) (by omega) (unhide HN)]; rfl, q, rfl⟩
  · have hne : ((a.length : Int) != (b.length : Int)) = true := by simp; omega
    have hs : sameB a b = false := by
      simp only [sameB, decide_eq_false_iff_not]
      intro h
      have := congrArg List.length h
      simp [norm] at this
      exact hl this
    rw [hs]
    clear hl hs
    go_enter Try.func22, Try.ntmps22
    go_wp2
    go_ret
    exact ⟨rfl, 0, rfl⟩
theorem ownsRow_base {w : World} {base base' e size n : Nat} {v : Value} {xs : List Value} (h : w.ownsRow base e size v n xs) (hb : base' ≤ base) : w.ownsRow base' e size v n xs := by
  refine ⟨h.1, ?_⟩
  rcases h.2 with h | ⟨g, c, cur, e1, e2, e3⟩
  · exact .inl h
  · exact .inr ⟨g, c, cur, e1, Nat.le_trans hb e2, e3⟩
theorem addr_add (g o j : Nat) : (⟨g, o, none⟩ : Addr).add j = ⟨g, o + j, none⟩ := by unfold Addr.add; split <;> simp_all
/-- A built-in append at a step of a region that draws, by its run. -/
theorem step_app {P : Program} {w w' : World} {ops : Array Oper} {o : Oper} {a : Act} {K : Act → World → Prop} {Q : Exit → Act → World → Prop} {E : Prop} (hgd : o.guard = none) (s x : Operand) (t u : TypeId)
    (ho : o.op = .call { callee := .builtin .append, args := #[s, x], argTypes := #[t, u] }) (vs vx v' : Value) (hs : a.eval s = vs) (hx : a.eval x = vx) (hr : (Builtin.append_ #[t, u] o.type #[vs, vx]).run P w = .ok v' w')
    (h : K (a.put o.dst v') w') : if Region.wanted o (yielded ops a.tmps) = true then Oper.wp P o a w K Q else E := by
  have hw : Region.wanted o (yielded ops a.tmps) = true := by simp [Region.wanted, hgd]
  rw [if_pos hw]
  unfold Oper.wp execOp
  simp only [ho, resolve, invoke, builtin, Sem.run_bind, Sem.run_pure, Result.andThen_ok, List.map_toArray, List.map_cons, List.map_nil, hs, hx, hr]
  exact h
theorem same_self (l : List Nat) : sameB l l = true := by simp [sameB]
/-- append(nil, x...): a row of one's own. -/
theorem app_nil (w : World) (x : Value) (l : List Nat) (hx : Src w x l) (hl : l.length ≤ 140737488355328) :
    ∃ ao cap w', (Builtin.append_ #[36, 36] 36 #[.slice none 0 0, x]).run Try.prog w = .ok (.slice ao l.length cap) w' ∧ w'.ownsRow w.heap.size 5 1 (.slice ao l.length cap) l.length (cellsOf l) ∧ Fr (fun _ => False) w w' := by
  obtain ⟨ao, cap, w', hr, hown, hg, _⟩ := run_app_sl w 36 w.heap.size 0 (.slice none 0 0) x [] l (World.ownsRow_nil _ _ _ _) hx (by omega) (Nat.le_refl _)
  simp only [Nat.zero_add, List.nil_append] at hr hown
  exact ⟨ao, cap, w', hr, hown, (Fr.refl _ _).grown hg (fun k hk => by cases hk)⟩
/-- A row of bytes that may be written: for 'l[i] = l[i] + 1'. -/
structure Inc (w0 w : World) (ao : Option Addr) (n : Nat) : Prop where
  fr : Fr (fun k => ao.map (·.block) = some k) w0 w
  at_ : ∀ j, j < n → ∃ g c, ao = some ⟨g, 0, none⟩ ∧ w.cell? ⟨g, j, none⟩ = some (.int .u8 c) ∧ w.frozen? ⟨g, j, none⟩ = false
theorem inc_start {w : World} {base n cap : Nat} {ao : Option Addr} {l : List Nat} (h : w.ownsRow base 5 1 (.slice ao n cap) n (cellsOf l)) : Inc w w ao n := by
  refine ⟨Fr.refl _ _, fun j hj => ?_⟩
  rcases h.2 with ⟨_, e⟩ | ⟨g, c, cur, e1, _, e3, _, _, e4, e5⟩
  · omega
  · simp only [Value.slice.injEq] at e1
    obtain ⟨rfl, -, rfl⟩ := e1
    have hl : (cellsOf l).length = n := by have := h.1; simpa using this
    rw [cellsOf_length] at hl
    refine ⟨g, ((l[j]'(by omega) % 256 : Nat) : Int), rfl, ?_, ?_⟩
    · rw [h.cellAt j (by omega)]
      simp [cellsOf, B, show j < l.length by omega]
    · simp [World.frozen?, e3]
theorem Inc.step {w0 w : World} {g n : Nat} (h : Inc w0 w (some ⟨g, 0, none⟩) n) (j : Nat) (hj : j < n) (c : Int) : Inc w0 (w.setCell ⟨g, j, none⟩ (.int .u8 c)) (some ⟨g, 0, none⟩) n := by
  refine ⟨h.fr.setCell (p := ⟨g, j, none⟩) (.inl rfl) _, fun i hi => ?_⟩
  obtain ⟨g', c', e, h1, h2⟩ := h.at_ i hi
  obtain ⟨gj, cj, ej, hj1, _⟩ := h.at_ j hj
  simp only [Option.some.injEq, Addr.mk.injEq, and_true] at e ej
  subst e
  refine ⟨g, ?_⟩
  by_cases hij : i = j
  · subst hij
    exact ⟨c, rfl, World.cell?_setCell_same _ _ _ h1, by rw [World.frozen?_setCell]; exact h2⟩
  · exact ⟨c', rfl, by rw [World.cell?_setCell_other _ _ _ _ (by intro h; injection h with _ h2 _; exact hij h2.symm)]; exact h1, by rw [World.frozen?_setCell]; exact h2⟩
theorem Fr.absorb {S : Nat → Prop} {w a b : World} (h : Fr (fun _ => False) w a) (k : Fr S a b) (hS : ∀ i, S i → w.heap.size ≤ i) : Fr (fun _ => False) w b :=
  h.trans k (fun i hi hs => by have := hS i hs; omega)
theorem own_block {w : World} {base n c : Nat} {ao : Option Addr} {xs : List Value} (h : w.ownsRow base 5 1 (.slice ao n c) n xs) : ∀ k, ao.map (·.block) = some k → base ≤ k ∧ k < w.heap.size := fun k hk => by
  refine h.lt k ?_
  cases ao with
  | none => cases hk
  | some a => simpa [Value.ownBlock] using hk
/-- A row of bytes that is one's own, whatever it holds. -/
def Own8 (w0 w : World) (base g c n : Nat) : Prop := Fr (fun k => k = g) w0 w ∧ ∃ xs, w.ownsRow base 5 1 (.slice (some ⟨g, 0, none⟩) n c) n xs ∧ ∀ j, j < n → ∃ z, xs[j]? = some (.int .u8 z)
theorem cells8 {n : Nat} (l : List Nat) (h : l.length = n := by simp [be_length] <;> omega) : ∀ j, j < n → ∃ z, (cellsOf l)[j]? = some (.int .u8 z) := fun j hj => ⟨_, by simp [cellsOf, B, show j < l.length by omega]; rfl⟩
theorem Own8.at_ {w0 w : World} {base g c n : Nat} (h : Own8 w0 w base g c n) (j : Nat) (hj : j < n) : ∃ z, w.cell? ⟨g, j, none⟩ = some (.int .u8 z) ∧ w.frozen? ⟨g, j, none⟩ = false := by
  obtain ⟨_, xs, hx, hz⟩ := h
  obtain ⟨z, e⟩ := hz j hj
  refine ⟨z, (hx.cellAt j (by omega)).trans e, ?_⟩
  rcases hx.2 with ⟨e, _⟩ | ⟨g', c', cur, e1, _, e3, _⟩
  · cases e
  · simp only [Value.slice.injEq, Option.some.injEq, Addr.mk.injEq, and_true] at e1
    obtain ⟨rfl, -, -⟩ := e1
    simp [World.frozen?, e3]
theorem Own8.step {w0 w : World} {base g c n : Nat} (h : Own8 w0 w base g c n) (j : Nat) (z : Int) : Own8 w0 (w.setCell ⟨g, j, none⟩ (.int .u8 z)) base g c n := by
  obtain ⟨hf, xs, hx, hz⟩ := h
  have hl : xs.length = n := by simpa using hx.1
  refine ⟨hf.setCell (.inl rfl) _, xs.set j (.int .u8 z), (hx.stored j _).1, fun i hi => ?_⟩
  by_cases hij : j = i
  · subst hij
    exact ⟨z, by simp [hl, hi]⟩
  · obtain ⟨z', e⟩ := hz i hi
    exact ⟨z', by rw [List.getElem?_set_ne hij]; exact e⟩
end Go.Proofs.Ytoflkfnmbighaaa
