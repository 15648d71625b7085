import Derived.Test.YtiknjghcjaaenaaGreatDoorKOcb
import Derived.Laws.IdiomCopy
namespace Go.Proofs.YtiknjghcjaaenaaGreatDoor
open Go.RowKit Go.Shelf
theorem step_stN {P : Program} {w w' : World} {ops : Array Oper} {op : Oper} {a : Act} {K : Act → World → Prop} {Q : Exit → Act → World → Prop} {E : Prop} (hgd : op.guard = none) (ty : TypeId) (x y : Operand) (ho : op.op = .store ty x y)
  (p v : Value) (hx : a.eval x = p) (hy : a.eval y = v) (hr : (Instr.storeAt ty p v).run P w = .ok () w')
  (h : K (a.put op.dst undef) w') : if Region.wanted op (yielded ops a.tmps) = true then Oper.wp P op a w K Q else E := by
 have hw : Region.wanted op (yielded ops a.tmps) = true := by simp [Region.wanted, hgd]
 rw [if_pos hw]
 unfold Oper.wp execOp
 simp only [ho, hx, hy, Sem.run_bind, hr, Result.andThen_ok, Sem.run_pure]
 exact h
theorem wp_stN {P : Program} {w w' : World} {op : Oper} {a : Act} {K : Act → World → Prop} {Q : Exit → Act → World → Prop} (ty : TypeId) (x y : Operand) (ho : op.op = .store ty x y)
  (p v : Value) (hx : a.eval x = p) (hy : a.eval y = v) (hr : (Instr.storeAt ty p v).run P w = .ok () w')
  (h : K (a.put op.dst undef) w') : op.wp P a w K Q := by
 unfold Oper.wp execOp
 simp only [ho, hx, hy, Sem.run_bind, hr, Result.andThen_ok, Sem.run_pure]
 exact h
theorem wpList_stN {P : Program} {w w' : World} {ops : Array Oper} {rest : List Oper} {op : Oper} {a : Act} {Q : Exit → Act → World → Prop} (hgd : op.guard = none) (ty : TypeId) (x y : Operand) (ho : op.op = .store ty x y)
  (p v : Value) (hx : a.eval x = p) (hy : a.eval y = v) (hr : (Instr.storeAt ty p v).run P w = .ok () w')
  (h : wpList P ops Q rest (a.put op.dst undef) w') : wpList P ops Q (op :: rest) a w :=
 wpList_plain hgd fun _ hK => by
  unfold Oper.wp execOp
  simp only [ho, hx, hy, Sem.run_bind, hr, Result.andThen_ok, Sem.run_pure]
  exact hK _ _ h
theorem range_of_block {W : World} {b : Nat} {cs : List Value} {t : TypeId} (h : W.heap[b]? = some (.cells cs.toArray t)) : W.rangeAt b 0 cs := by
 intro j v hv
 simp only [World.cell?, h]
 simpa using hv
theorem ans_put {W : World} {g : Nat} {a0 a1 a2 a3 a4 a5 a6 : Value} (hb : W.heap[g]? = some (.cells #[a0, a1, a2, a3, a4, a5, a6] 45)) (c0 c1 c2 c3 c4 c5 c6 : Value) (h1 : ∀ v ∈ [c0, c1, c2, c3, c4, c5, c6], v.oneCell' = true) :
  ∃ W8, (Instr.storeAt 45 (.pointer (some ⟨g, 0, none⟩)) (.agg #[c0, c1, c2, c3, c4, c5, c6])).run Tryz.prog W = .ok () W8 ∧ W8.heap[g]? = some (.cells #[c0, c1, c2, c3, c4, c5, c6] 45) ∧ Fr (fun k => k = g) W W8 := by
 refine ⟨W.setCells g 0 [c0, c1, c2, c3, c4, c5, c6], run_storeAt_mid W g 0 45 #[c0, c1, c2, c3, c4, c5, c6] (fun j hj => ?_) (by kernel_rfl) (all_oneCell_toArray (cs := [c0, c1, c2, c3, c4, c5, c6]) h1), ?_, ?_⟩
 ·have hj : j < 7 := hj
  refine ⟨?_, by simp [World.frozen?, hb]⟩
  rcases j with _ | _ | _ | _ | _ | _ | _ | j
  ·simp [World.cell?, hb]
  ·simp [World.cell?, hb]
  ·simp [World.cell?, hb]
  ·simp [World.cell?, hb]
  ·simp [World.cell?, hb]
  ·simp [World.cell?, hb]
  ·simp [World.cell?, hb]
  ·omega
 ·have k0 := heap_setCell_same W g 0 #[a0, a1, a2, a3, a4, a5, a6] 45 c0 hb
  have k1 := heap_setCell_same _ g 1 _ 45 c1 k0
  have k2 := heap_setCell_same _ g 2 _ 45 c2 k1
  have k3 := heap_setCell_same _ g 3 _ 45 c3 k2
  have k4 := heap_setCell_same _ g 4 _ 45 c4 k3
  have k5 := heap_setCell_same _ g 5 _ 45 c5 k4
  have k6 := heap_setCell_same _ g 6 _ 45 c6 k5
  simp only [List.setIfInBounds_toArray, List.set_cons_zero, List.set_cons_succ] at k6
  exact k6
 ·exact set7_fr W g c0 c1 c2 c3 c4 c5 c6
end Go.Proofs.YtiknjghcjaaenaaGreatDoor
