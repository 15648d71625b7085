import Derived.Test.YthccbfgjekdiiaaDoorSbn
import Derived.Laws.MakeOwn
import Derived.Laws.IdiomCopy
namespace Go.Proofs.YthccbfgjekdiiaaDoor
open Go.RowKit

theorem wpList_cpy {P : Program} {w w' : World} {ops : Array Oper} {rest : List Oper} {o : Oper} {a : Act} {Q : Exit → Act → World → Prop} (hgd : o.guard = none) (s x : Operand) (t u : TypeId)
    (ho : o.op = .call { callee := .builtin .copy, args := #[s, x], argTypes := #[t, u] }) (vs vx v' : Value) (hs : a.eval s = vs) (hx : a.eval x = vx) (hr : (Builtin.copy_ #[t, u] o.type #[vs, vx]).run P w = .ok v' w')
    (h : wpList P ops Q rest (a.put o.dst v') w') : wpList P ops Q (o :: rest) a w := by
  refine wpList_plain hgd fun K hK => ?_
  unfold Oper.wp execOp
  simp only [ho, resolve, invoke, builtin, Sem.run_bind, Sem.run_pure, Result.andThen_ok, List.map_toArray, List.map_cons, List.map_nil, hs, hx, hr]
  exact hK _ _ h
/-- A new Hash, laid. -/
theorem lay_h (w1 : World) : ∃ W2, (w1.alloc (.cells hz.toArray 93)).there w1.heap.size 0 h0.toArray.size ∧ (w1.alloc (.cells hz.toArray 93)).setCells w1.heap.size 0 h0.toArray.toList = W2 ∧ HsAt W2 w1.heap.size 0 st0 (fun _ => 0) 0 ∧ Fr (fun _ => False) w1 W2 := by
  have hth : (w1.alloc (.cells hz.toArray 93)).there w1.heap.size 0 73 := by rw [← hz_len]; exact alloc_there w1 hz _
  exact ⟨_, by rw [h0_sz]; exact hth, rfl, HsAt.stored hth st0 (fun _ => 0) 0, Fr.setCells ((Fr.refl _ _).alloc _) (.inr (Nat.le_refl _)) _⟩
theorem info_h0 : (Tryd.prog.info? 93).map (·.size) = some h0.toArray.size := by rw [h0_sz]; exact info_h
theorem one_h0 : h0.toArray.all (·.oneCell') = true := all_oneCell_toArray (hv_one _ _ _)
end Go.Proofs.YthccbfgjekdiiaaDoor
