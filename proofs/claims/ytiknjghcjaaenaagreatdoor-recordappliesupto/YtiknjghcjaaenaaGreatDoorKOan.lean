import Derived.Test.YtiknjghcjaaenaaGreatDoorKOam
namespace Go.Proofs.YtiknjghcjaaenaaGreatDoor
open Go.RowKit Go.Shelf
theorem Tryz.neqS (v a : ByteArray) (w : World) : (binOp .neq 9 (.string v) (.string a)).run Tryz.prog w = .ok (.bool (!(v.toList == a.toList))) w := by simp [binOp, Op.stringOp]
theorem Tryz.eqlS (v a : ByteArray) (w : World) : (binOp .eql 9 (.string v) (.string a)).run Tryz.prog w = .ok (.bool (v.toList == a.toList)) w := by simp [binOp, Op.stringOp]
theorem Tryz.minS (v a : ByteArray) (w : World) (x : Array TypeId) (ty : TypeId) : (Builtin.min_ x ty #[.string v, .string a]).run Tryz.prog w = .ok (.string (if sleB v a then v else a)) w := by
 show (Builtin.min2 (.string v) (.string a) >>= pure).run _ w = _
 unfold Builtin.min2
 simp [Op.stringOp, sleB, asBool]
def mrg : Nat → List F5 → List F5 → List F5
 | n + 1, f :: r, c :: s => if sleB f.n c.n then (if f.n.toList == c.n.toList then keptF [c] ++ mrg n r s else f :: mrg n r (c :: s)) else keptF [c] ++ mrg n (f :: r) s
 | _, l, m => l ++ keptF m
theorem mrg_l (n : Nat) (m : List F5) : mrg n [] m = keptF m := by cases n <;> rfl
theorem mrg_r (n : Nat) (l : List F5) : mrg n l [] = l := by
 cases n with
 | zero => simp [mrg, keptF]
 | succ n => cases l <;> simp [mrg, keptF]
structure FdC (w : World) (base : Nat) (x : Value) (l : List F5) : Prop where
 f : Fds w x l
 b : ∀ g o n c, x = .slice (some ⟨g, o, none⟩) n c → 0 < n → g < base
 c : ∀ xo n c, x = .slice xo n c → n ≤ c
 z : ∀ n c, x = .slice none n c → c = 0
theorem FdC.frS {w w' : World} {base : Nat} {x : Value} {l : List F5} (h : FdC w base x l) (hf : Fr (fun k => base ≤ k) w w') : FdC w' base x l :=
 ⟨h.f.frS hf (fun g o n c e h0 => by have := h.b g o n c e h0; omega), h.b, h.c, h.z⟩
theorem FdC.head {w : World} {base : Nat} {x : Value} {f : F5} {r : List F5} (h : FdC w base x (f :: r)) : ∃ g o c, x = .slice (some ⟨g, o, none⟩) (r.length + 1) c ∧ r.length + 1 ≤ c ∧ g < base ∧ w.cell? ⟨g, o, none⟩ = some (.string f.n) ∧ w.cell? ⟨g, o + 1, none⟩ = some (.int .u8 (f.k : Nat)) ∧ w.cell? ⟨g, o + 2, none⟩ = some (.string f.t) ∧ w.cell? ⟨g, o + 3, none⟩ = some (.float .f32 f.v) ∧ w.cell? ⟨g, o + 4, none⟩ = some (.int .u8 (f.u : Nat)) ∧ FdC w base (.slice (some ⟨g, o, none⟩) 1 c) [f] ∧ FdC w base (.slice (some ⟨g, o + 5, none⟩) r.length (c - 1)) r := by
 obtain ⟨xo, xc, e⟩ := h.f.form
 rw [List.length_cons] at e
 subst e
 obtain ⟨g, o, rfl, c0, c1, c2, c3, c4⟩ := h.f.at_ 0 (by simp)
 simp only [Nat.zero_mul, Nat.add_zero, List.getElem_cons_zero] at c0 c1 c2 c3 c4
 have hg := h.b g o _ xc rfl (by omega)
 have hc := h.c _ _ _ rfl
 refine ⟨g, o, xc, rfl, hc, hg, c0, c1, c2, c3, c4, ⟨.inr ⟨g, o, xc, rfl, fun j hj => ?_⟩, fun g' o' n c e _ => by cases e; exact hg, fun xo n c e => by cases e; omega, fun n c e => by cases e⟩, ⟨.inr ⟨g, o + 5, xc - 1, rfl, fun j hj => ?_⟩, fun g' o' n c e _ => by cases e; exact hg, fun xo n c e => by cases e; omega, fun n c e => by cases e⟩⟩
 ·obtain rfl : j = 0 := by simp at hj; omega
  simp only [Nat.zero_mul, Nat.add_zero, List.getElem_cons_zero]
  exact ⟨c0, c1, c2, c3, c4⟩
 ·obtain ⟨g', o', e, d0, d1, d2, d3, d4⟩ := h.f.at_ (j + 1) (by simp; omega)
  simp only [Option.some.injEq, Addr.mk.injEq, and_true] at e
  obtain ⟨rfl, rfl⟩ := e
  simp only [List.getElem_cons_succ] at d0 d1 d2 d3 d4
  rw [show o + 5 + j * 5 = o + (j + 1) * 5 by omega]
  exact ⟨d0, d1, d2, d3, d4⟩
theorem FdC.nilS {w : World} {base : Nat} (a : Addr) (c : Nat) : FdC w base (.slice (some a) 0 c) [] :=
 ⟨.inl ⟨some a, c, rfl, rfl⟩, fun g o n c e h => by cases e; omega, fun xo n c e => by cases e; omega, fun n c e => by cases e⟩
theorem fcells_one (l : List F5) : ∀ u ∈ fcells l, u.oneCell' = true := by
 intro u hu
 simp only [fcells, List.mem_flatMap] at hu
 obtain ⟨f, _, hu⟩ := hu
 simp at hu
 rcases hu with rfl | rfl | rfl | rfl | rfl <;> rfl
theorem fcells_cat (a b : List F5) : fcells (a ++ b) = fcells a ++ fcells b := by simp [fcells]
theorem Fds.cellsX {w : World} {g o n c : Nat} {l : List F5} (h : Fds w (.slice (some ⟨g, o, none⟩) n c) l) : ∀ i u, (fcells l)[i]? = some u → w.cell? ⟨g, o + i, none⟩ = some u := by
 intro i u hu
 have hi : i < (fcells l).length := (List.getElem?_eq_some_iff.1 hu).1
 rw [fcells_len] at hi
 have hj : i / 5 < l.length := by omega
 obtain ⟨g', o', e, d0, d1, d2, d3, d4⟩ := h.at_ (i / 5) hj
 simp only [Option.some.injEq, Addr.mk.injEq, and_true] at e
 obtain ⟨rfl, rfl⟩ := e
 obtain ⟨e0, e1, e2, e3, e4⟩ := fcells_at l (i / 5) hj
 have hm : i % 5 = 0 ∨ i % 5 = 1 ∨ i % 5 = 2 ∨ i % 5 = 3 ∨ i % 5 = 4 := by omega
 rcases hm with hm | hm | hm | hm | hm
 ·have ei : i = i / 5 * 5 := by omega
  rw [ei, e0] at hu; cases hu
  rw [show o + i = o + i / 5 * 5 by omega]; exact d0
 ·have ei : i = i / 5 * 5 + 1 := by omega
  rw [ei, e1] at hu; cases hu
  rw [show o + i = o + i / 5 * 5 + 1 by omega]; exact d1
 ·have ei : i = i / 5 * 5 + 2 := by omega
  rw [ei, e2] at hu; cases hu
  rw [show o + i = o + i / 5 * 5 + 2 by omega]; exact d2
 ·have ei : i = i / 5 * 5 + 3 := by omega
  rw [ei, e3] at hu; cases hu
  rw [show o + i = o + i / 5 * 5 + 3 by omega]; exact d3
 ·have ei : i = i / 5 * 5 + 4 := by omega
  rw [ei, e4] at hu; cases hu
  rw [show o + i = o + i / 5 * 5 + 4 by omega]; exact d4
theorem app_flds (w : World) (base : Nat) (v x : Value) (A l : List F5) (ho : OwF w base v A) (hb : base ≤ w.heap.size) (hx : FdC w base x l) (hl : A.length + l.length ≤ 1000000) :
  ∃ ao cap w', (Builtin.append_ #[39, 39] 39 #[v, x]).run Tryz.prog w = .ok (.slice ao (A.length + l.length) cap) w' ∧ OwF w' base (.slice ao (A.length + l.length) cap) (A ++ l) ∧ Fr (fun g => v.ownBlock = some g) w w' := by
 obtain ⟨i0, hi, hz0, hz1, hz2⟩ := info_parts Tryz.infoFl
 obtain ⟨xo, xc, rfl⟩ := hx.f.form
 cases xo with
 | none =>
  have h0 : l.length = 0 := by
   have h1 := hx.c _ _ _ rfl
   have h2 := hx.z _ _ rfl
   omega
  obtain rfl := List.length_eq_zero_iff.1 h0
  obtain rfl := hx.z _ _ rfl
  have hr := run_append_owned_none (P := Tryz.prog) w base 39 39 55 i0 5 Tryz.underlying39 hi v A.length (fcells A) ho
  obtain ⟨ao, cap, rfl⟩ := own_formX ho
  exact ⟨ao, cap, w, by simpa using hr, by simpa using ho, Fr.refl _ _⟩
 | some a =>
  have hcs : ∀ j u, (fcells l)[j]? = some u → w.cell? (a.add j) = some u := by
   rcases Nat.eq_zero_or_pos l.length with h0 | h0
   ·obtain rfl := List.length_eq_zero_iff.1 h0
    intro j u hu
    simp [fcells] at hu
   ·obtain ⟨g, o, e, _⟩ := hx.f.at_ 0 h0
    cases e
    intro j u hu
    rw [addr_add]
    exact hx.f.cellsX j u hu
  obtain ⟨v', w', hr, h2, h3, _, h5⟩ := run_append_own_at (P := Tryz.prog) w base 39 39 55 i0 (.agg #[.string ⟨#[]⟩, .int .u8 0, .string ⟨#[]⟩, .float .f32 0, .int .u8 0]) 5 48 Tryz.underlying39 hi hz0 hz1 hz2 rfl (by decide) v A.length (fcells A) ho a l.length xc (fcells l) (by rw [fcells_len]) hcs (fcells_one l) (by simp only [maxLen]; omega) (by omega) hb
  obtain ⟨ao, cap, rfl⟩ := own_formX h2
  exact ⟨ao, cap, w', hr, by unfold OwF; rw [fcells_cat, List.length_append]; exact h2, (Fr.refl _ _).grown h3 (fun g hg => .inl hg)⟩
theorem step_app {P : Program} {w w' : World} {ops : Array Oper} {o : Oper} {a : Act} {K : Act → World → Prop} {Q : Exit → Act → World → Prop} {E : Prop} (hgd : o.guard = none) (s x : Operand) (t u : TypeId)
  (ho : o.op = .call { callee := .builtin .append, args := #[s, x], argTypes := #[t, u] }) (vs vx v' : Value) (hs : a.eval s = vs) (hx : a.eval x = vx) (hr : (Builtin.append_ #[t, u] o.type #[vs, vx]).run P w = .ok v' w')
  (h : K (a.put o.dst v') w') : if Region.wanted o (yielded ops a.tmps) = true then Oper.wp P o a w K Q else E := by
 have hw : Region.wanted o (yielded ops a.tmps) = true := by simp [Region.wanted, hgd]
 rw [if_pos hw]
 unfold Oper.wp execOp
 simp only [ho, resolve, invoke, builtin, Sem.run_bind, Sem.run_pure, Result.andThen_ok, List.map_toArray, List.map_cons, List.map_nil, hs, hx, hr]
 exact h
def lenOf : Value → Nat
 | .slice _ n _ => n
 | _ => 0
end Go.Proofs.YtiknjghcjaaenaaGreatDoor
