import Derived.Test.YthccbfgjekdiiaaDoorSbw
import Derived.Laws.OwnMore
namespace Go.Proofs.YthccbfgjekdiiaaDoor
open Go.RowKit

theorem cellsOf_append (a b : List Nat) : cellsOf (a ++ b) = cellsOf a ++ cellsOf b := by simp [cellsOf]
theorem cellsOf_length (a : List Nat) : (cellsOf a).length = a.length := by simp [cellsOf]
theorem cellsOf_one (a : List Nat) : ∀ u ∈ cellsOf a, u.oneCell' = true := by
  intro u hu
  simp only [cellsOf, List.mem_map] at hu
  obtain ⟨c, _, rfl⟩ := hu
  rfl

theorem own_form {w : World} {base n : Nat} {v : Value} {xs : List Value} (h : w.ownsRow base 5 1 v n xs) : ∃ ao cap, v = .slice ao n cap := by
  rcases h.2 with ⟨rfl, rfl⟩ | ⟨g, cap, cur, rfl, _⟩
  · exact ⟨none, 0, rfl⟩
  · exact ⟨some ⟨g, 0, none⟩, cap, rfl⟩

/-- append(v, x...) of bytes. -/
theorem run_app_sl (w : World) (ty base n : Nat) (v x : Value) (xs : List Value) (l : List Nat) (hown : w.ownsRow base 5 1 v n xs) (hx : Src w x l) (hb : n + l.length ≤ 140737488355328) (hbase : base ≤ w.heap.size) :
    ∃ ao cap w', (Builtin.append_ #[25, 25] ty #[v, x]).run Tryd.prog w = .ok (.slice ao (n + l.length) cap) w' ∧ w'.ownsRow base 5 1 (.slice ao (n + l.length) cap) (n + l.length) (xs ++ cellsOf l) ∧ w.grownBy w' v.ownBlock ∧
      ((Value.slice ao (n + l.length) cap).ownBlock = v.ownBlock ∨ (Value.slice ao (n + l.length) cap).ownBlock = some w.heap.size) := by
  obtain ⟨i0, hi, hz0, hz1, hz2⟩ := info_parts Tryd.infoU8
  rcases hx with ⟨rfl, rfl⟩ | ⟨g, o, c, rfl, hc⟩ | ⟨ad, c, rfl, rfl⟩
  · have hr := run_append_owned_none (P := Tryd.prog) w base 25 ty 5 i0 1 Tryd.underlying25 hi v n xs hown
    obtain ⟨ao, cap, rfl⟩ := own_form hown
    exact ⟨ao, cap, w, by simpa using hr, by simpa [cellsOf] using hown, ⟨rfl, rfl, rfl, Nat.le_refl _, fun _ _ _ => rfl⟩, .inl rfl⟩
  · obtain ⟨v', w', hr, h2, h3, _, h5⟩ := run_append_own_at (P := Tryd.prog) w base 25 ty 5 i0 (.int .u8 0) 1 1 Tryd.underlying25 hi hz0 hz1 hz2 rfl (by decide) v n xs hown ⟨g, o, none⟩ l.length c (cellsOf l) (by simp [cellsOf_length]) (fun j u hu => by
        have e : (⟨g, o, none⟩ : Addr).add j = ⟨g, o + j, none⟩ := by unfold Addr.add; split <;> simp_all
        rw [e]; exact hc j u hu) (cellsOf_one l) (by simp only [maxLen]; omega) (by omega) hbase
    obtain ⟨ao, cap, rfl⟩ := own_form h2
    exact ⟨ao, cap, w', hr, h2, h3, h5⟩
  · obtain ⟨v', w', hr, h2, h3, _, h5⟩ := run_append_own_at (P := Tryd.prog) w base 25 ty 5 i0 (.int .u8 0) 1 1 Tryd.underlying25 hi hz0 hz1 hz2 rfl (by decide) v n xs hown ad 0 c [] rfl (fun j u hu => by simp at hu) (fun u hu => by simp at hu) (by simp only [maxLen]; simp at hb; omega) (by simp at hb; omega) hbase
    obtain ⟨ao, cap, rfl⟩ := own_form h2
    exact ⟨ao, cap, w', hr, h2, h3, h5⟩

/-- A built-in append at a step of a region that draws, by its run. -/
theorem step_app {P : Program} {w w' : World} {ops : Array Oper} {o : Oper} {a : Act} {K : Act → World → Prop} {Q : Exit → Act → World → Prop} {E : Prop} (hgd : o.guard = none) (s x : Operand) (t u : TypeId)
    (ho : o.op = .call { callee := .builtin .append, args := #[s, x], argTypes := #[t, u] }) (vs vx v' : Value) (hs : a.eval s = vs) (hx : a.eval x = vx) (hr : (Builtin.append_ #[t, u] o.type #[vs, vx]).run P w = .ok v' w')
    (h : K (a.put o.dst v') w') : if Region.wanted o (yielded ops a.tmps) = true then Oper.wp P o a w K Q else E := by
  have hw : Region.wanted o (yielded ops a.tmps) = true := by simp [Region.wanted, hgd]
  rw [if_pos hw]
  unfold Oper.wp execOp
  simp only [ho, resolve, invoke, builtin, Sem.run_bind, Sem.run_pure, Result.andThen_ok, List.map_toArray, List.map_cons, List.map_nil, hs, hx, hr]
  exact h

/-- What a row of the call's own holds. -/
theorem own_src {w : World} {base n : Nat} {v : Value} {l : List Nat} (h : w.ownsRow base 5 1 v n (cellsOf l)) : Src w v l := by
  have hn : n = l.length := by have := h.1; simpa [cellsOf] using this.symm
  subst hn
  rcases h.2 with ⟨rfl, h0⟩ | ⟨g, cap, cur, rfl, _⟩
  · have : l = [] := by cases l with
      | nil => rfl
      | cons a l => simp at h0
    subst this
    exact .inl ⟨rfl, rfl⟩
  · refine .inr (.inl ⟨g, 0, cap, rfl, fun j u hu => ?_⟩)
    have := h.cells (g := g) rfl j u hu
    have e : (⟨g, 0, none⟩ : Addr).add j = ⟨g, 0 + j, none⟩ := by unfold Addr.add; split <;> simp_all
    rw [e] at this; exact this
theorem own_nil (w : World) (base : Nat) : w.ownsRow base 5 1 (.slice none 0 0) 0 [] := ⟨rfl, .inl ⟨rfl, rfl⟩⟩
theorem Fr.grown0 {w w1 wa : World} {ro : Option Nat} (h : Fr (fun _ => False) w w1) (hg : w1.grownBy wa ro) (hr : ∀ k, ro = some k → w.heap.size ≤ k) : Fr (fun _ => False) w wa := Fr.grown h hg (fun k e => .inr (hr k e))
theorem lit_src (w : World) (l : List Nat) (cs : Array Value) (n c : Nat) (hn : l.length = n) (h : cs.toList = cellsOf l) : Src (w.alloc (.cells cs 5)) (.slice (some ⟨w.heap.size, 0, none⟩) n c) l := by
  subst hn
  refine .inr (.inl ⟨w.heap.size, 0, c, rfl, fun j v hv => ?_⟩)
  rw [← h] at hv
  rw [Nat.zero_add, World.cell?_alloc_at _ _ _ _ rfl]
  simpa using hv
def dg (c : Nat) : Nat := if 97 ≤ c then c - 87 else (c + 208) % 256
theorem dg_lt (c : Nat) (h : c < 256) : dg c < 256 := by
  unfold dg
  split
  · omega
  · exact Nat.mod_lt _ (by decide)
theorem digit_any (c : Nat) (w : World) (h : c < 256) : Calls Tryd.prog 52 #[.int .u8 c] w fun e w' => e = .returned (.int .u8 (dg c : Nat)) ∧ w' = w := by
  by_cases h9 : 97 ≤ c
  · have h9' : (97 : Int) ≤ (c : Int) := by omega
    go_enter Tryd.func52, Tryd.ntmps52
    go_wp2_with fail
    go_ret
    refine ⟨?_, rfl⟩
    rw [dg, if_pos h9]
    show Ending.returned (.int .u8 _) = _
    congr 2
    omega
  · have h9' : ¬ (97 : Int) ≤ (c : Int) := by omega
    go_enter Tryd.func52, Tryd.ntmps52
    go_wp2_with fail
    go_ret
    refine ⟨?_, rfl⟩
    rw [dg, if_neg h9]
    show Ending.returned (.int .u8 _) = _
    congr 2
    try rw [IntKind.wrap_u8]
    omega
end Go.Proofs.YthccbfgjekdiiaaDoor
