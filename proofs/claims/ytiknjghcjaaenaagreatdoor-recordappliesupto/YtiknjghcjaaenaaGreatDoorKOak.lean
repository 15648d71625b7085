import Derived.Test.YtiknjghcjaaenaaGreatDoorKOaj
import Derived.Laws.OwnMore
import Derived.Laws.MakeOwn
import Derived.Lib.AppendStr
import Derived.Deep.Cut
import Derived.Deep.CutRange
import Derived.Laws.IdiomCopy
namespace Go.Proofs.YtiknjghcjaaenaaGreatDoor
open Go.RowKit
theorem ownsRow_of_block {w w' : World} {base e size n : Nat} {v : Value} {xs : List Value} (h : w.ownsRow base e size v n xs) (hb : ∀ g, v.ownBlock = some g → w'.heap[g]? = w.heap[g]?) : w'.ownsRow base e size v n xs := by
 refine ⟨h.1, ?_⟩
 rcases h.2 with h0 | ⟨g, cap, cur, e1, e2, e3, e4⟩
 ·exact .inl h0
 ·exact .inr ⟨g, cap, cur, e1, e2, (hb g (by rw [e1]; rfl)).trans e3, e4⟩
theorem wpList_app {P : Program} {w w' : World} {ops : Array Oper} {rest : List Oper} {o : Oper} {a : Act} {Q : Exit → Act → World → Prop} (hgd : o.guard = none) (s x : Operand) (t u : TypeId)
  (ho : o.op = .call { callee := .builtin .append, args := #[s, x], argTypes := #[t, u] }) (vs vx v' : Value) (hs : a.eval s = vs) (hx : a.eval x = vx) (hr : (Builtin.append_ #[t, u] o.type #[vs, vx]).run P w = .ok v' w')
  (h : wpList P ops Q rest (a.put o.dst v') w') : wpList P ops Q (o :: rest) a w := by
 refine wpList_plain hgd fun K hK => ?_
 unfold Oper.wp execOp
 simp only [ho, resolve, invoke, builtin, Sem.run_bind, Sem.run_pure, Result.andThen_ok, List.map_toArray, List.map_cons, List.map_nil, hs, hx, hr]
 exact hK _ _ h
theorem ownsRow_base {w : World} {base base' e size n : Nat} {v : Value} {xs : List Value} (h : w.ownsRow base e size v n xs) (hb : base' ≤ base) : w.ownsRow base' e size v n xs := by
 refine ⟨h.1, ?_⟩
 rcases h.2 with h | ⟨g, c, cur, e1, e2, e3⟩
 ·exact .inl h
 ·exact .inr ⟨g, c, cur, e1, Nat.le_trans hb e2, e3⟩
theorem addr_add (g o j : Nat) : (⟨g, o, none⟩ : Addr).add j = ⟨g, o + j, none⟩ := by unfold Addr.add; split <;> simp_all
theorem Fr.absorb {S : Nat → Prop} {w a b : World} (h : Fr (fun _ => False) w a) (k : Fr S a b) (hS : ∀ i, S i → w.heap.size ≤ i) : Fr (fun _ => False) w b :=
 h.trans k (fun i hi hs => by have := hS i hs; omega)
theorem own_formX {w : World} {base e size n : Nat} {v : Value} {xs : List Value} (h : w.ownsRow base e size v n xs) : ∃ ao cap, v = .slice ao n cap := by
 rcases h.2 with ⟨rfl, rfl⟩ | ⟨g, cap, cur, rfl, _⟩
 ·exact ⟨none, 0, rfl⟩
 ·exact ⟨some ⟨g, 0, none⟩, cap, rfl⟩
def fcells (l : List F5) : List Value := l.flatMap fun f => [.string f.n, .int .u8 (f.k : Nat), .string f.t, .float .f32 f.v, .int .u8 (f.u : Nat)]
theorem fcells_app (a : List F5) (f : F5) : fcells (a ++ [f]) = fcells a ++ [.string f.n, .int .u8 (f.k : Nat), .string f.t, .float .f32 f.v, .int .u8 (f.u : Nat)] := by simp [fcells]
theorem fcells_len (l : List F5) : (fcells l).length = l.length * 5 := by
 induction l with
 | nil => rfl
 | cons f r ih =>
  have e : fcells (f :: r) = [.string f.n, .int .u8 (f.k : Nat), .string f.t, .float .f32 f.v, .int .u8 (f.u : Nat)] ++ fcells r := by simp [fcells]
  rw [e, List.length_append, ih]
  simp only [List.length_cons, List.length_nil]
  omega
theorem fcells_at : ∀ (l : List F5) (k : Nat) (h : k < l.length), (fcells l)[k * 5]? = some (.string l[k].n) ∧ (fcells l)[k * 5 + 1]? = some (.int .u8 (l[k].k : Nat)) ∧ (fcells l)[k * 5 + 2]? = some (.string l[k].t) ∧ (fcells l)[k * 5 + 3]? = some (.float .f32 l[k].v) ∧ (fcells l)[k * 5 + 4]? = some (.int .u8 (l[k].u : Nat))
 | [], k, h => by simp at h
 | f :: r, 0, _ => by simp [fcells]
 | f :: r, k + 1, h => by
  have ih := fcells_at r k (by simpa using h)
  have e : fcells (f :: r) = [.string f.n, .int .u8 (f.k : Nat), .string f.t, .float .f32 f.v, .int .u8 (f.u : Nat)] ++ fcells r := by simp [fcells]
  have hl : ([Value.string f.n, .int .u8 (f.k : Nat), .string f.t, .float .f32 f.v, .int .u8 (f.u : Nat)]).length = 5 := rfl
  rw [e]
  refine ⟨?_, ?_, ?_, ?_, ?_⟩
  ·rw [List.getElem?_append_right (by rw [hl]; omega), hl, show (k + 1) * 5 - 5 = k * 5 by omega]; exact ih.1
  ·rw [List.getElem?_append_right (by rw [hl]; omega), hl, show (k + 1) * 5 + 1 - 5 = k * 5 + 1 by omega]; exact ih.2.1
  ·rw [List.getElem?_append_right (by rw [hl]; omega), hl, show (k + 1) * 5 + 2 - 5 = k * 5 + 2 by omega]; exact ih.2.2.1
  ·rw [List.getElem?_append_right (by rw [hl]; omega), hl, show (k + 1) * 5 + 3 - 5 = k * 5 + 3 by omega]; exact ih.2.2.2.1
  ·rw [List.getElem?_append_right (by rw [hl]; omega), hl, show (k + 1) * 5 + 4 - 5 = k * 5 + 4 by omega]; exact ih.2.2.2.2
def OwF (w : World) (base : Nat) (v : Value) (l : List F5) : Prop := w.ownsRow base 55 5 v l.length (fcells l)
theorem OwF.fds {w : World} {base : Nat} {v : Value} {l : List F5} (h : OwF w base v l) : Fds w v l := by
 rcases Nat.eq_zero_or_pos l.length with h0 | h0
 ·obtain rfl := List.length_eq_zero_iff.1 h0
  obtain ⟨ao, cap, rfl⟩ := own_formX h
  exact .inl ⟨ao, cap, rfl, rfl⟩
 ·obtain ⟨g, cap, rfl, _, _⟩ := h.form h0
  refine .inr ⟨g, 0, cap, rfl, fun j hj => ?_⟩
  obtain ⟨e0, e1, e2, e3, e4⟩ := fcells_at l j hj
  have hc : ∀ i u, (fcells l)[i]? = some u → w.cell? ⟨g, 0 + i, none⟩ = some u := fun i u hu => by
   rw [Nat.zero_add]
   have hi : i < (fcells l).length := (List.getElem?_eq_some_iff.1 hu).1
   rw [fcells_len] at hi
   rw [h.cellAt i (by omega)]
   exact hu
  exact ⟨hc _ _ e0, by rw [Nat.add_assoc]; exact hc _ _ e1, by rw [Nat.add_assoc]; exact hc _ _ e2, by rw [Nat.add_assoc]; exact hc _ _ e3, by rw [Nat.add_assoc]; exact hc _ _ e4⟩
theorem OwF.fr {w w' : World} {base : Nat} {v : Value} {l : List F5} {S : Nat → Prop} (h : OwF w base v l) (hf : Fr S w w') (hS : ∀ g, v.ownBlock = some g → ¬ S g) : OwF w' base v l :=
 ownsRow_of_block h (fun g hg => hf.block g (h.lt g hg).2 (hS g hg))
theorem Tryz.infoFl : (Tryz.prog.info? 55).map (fun i => (i.zero, i.size, i.bytes)) = some (some (.agg #[.string ⟨#[]⟩, .int .u8 0, .string ⟨#[]⟩, .float .f32 0, .int .u8 0]), 5, 48) := by kernel_rfl
theorem app_fld (w : World) (base : Nat) (v : Value) (l : List F5) (f : F5) (h : OwF w base v l) (hb : base ≤ w.heap.size) (hl : l.length ≤ 1000000000) :
  ∃ ao cap w', (Builtin.append_ #[39, 39] 39 #[v, .slice (some ⟨w.heap.size, 0, none⟩) 1 1]).run Tryz.prog (w.alloc (.cells #[.string f.n, .int .u8 (f.k : Nat), .string f.t, .float .f32 f.v, .int .u8 (f.u : Nat)] 55)) = .ok (.slice ao (l.length + 1) cap) w' ∧ OwF w' base (.slice ao (l.length + 1) cap) (l ++ [f]) ∧ Fr (fun g => v.ownBlock = some g) w w' ∧
   ∀ g, (Value.slice ao (l.length + 1) cap).ownBlock = some g → v.ownBlock = some g ∨ w.heap.size ≤ g := by
 obtain ⟨i0, hi, hz0, hz1, hz2⟩ := info_parts Tryz.infoFl
 have hb' := ownsRow_of_block (w' := w.alloc (.cells #[.string f.n, .int .u8 (f.k : Nat), .string f.t, .float .f32 f.v, .int .u8 (f.u : Nat)] 55)) h (fun g hg => Below.heap_alloc _ _ _ (h.lt g hg).2)
 obtain ⟨v', w', hr, h2, h3, _, h5⟩ := run_append_own_at (P := Tryz.prog) (w := w.alloc (.cells #[.string f.n, .int .u8 (f.k : Nat), .string f.t, .float .f32 f.v, .int .u8 (f.u : Nat)] 55)) base 39 39 55 i0 (.agg #[.string ⟨#[]⟩, .int .u8 0, .string ⟨#[]⟩, .float .f32 0, .int .u8 0]) 5 48 Tryz.underlying39 hi hz0 hz1 hz2 rfl (by decide) v l.length (fcells l) hb' ⟨w.heap.size, 0, none⟩ 1 1 [.string f.n, .int .u8 (f.k : Nat), .string f.t, .float .f32 f.v, .int .u8 (f.u : Nat)] rfl (fun j u hu => by
  rw [addr_add, World.cell?_alloc_at _ _ _ _ rfl]; simpa using hu) (fun u hu => by simp at hu; rcases hu with rfl | rfl | rfl | rfl | rfl <;> rfl) (by simp only [maxLen]; omega) (by omega) (by simp; omega)
 obtain ⟨ao, cap, rfl⟩ := own_formX h2
 refine ⟨ao, cap, w', hr, by unfold OwF; rw [fcells_app, List.length_append, List.length_singleton]; exact h2, ((box1 w _).mono (fun _ _ h => h.elim)).grown h3 (fun g hg => .inl hg), fun g hg => ?_⟩
 rcases h5 with e | e
 ·rw [e] at hg; exact .inl hg
 ·rw [e] at hg; cases hg; exact .inr (by simp)
theorem make_fld (x : Nat) (w : World) (hx : x ≤ 3000000) : ∃ w', (Instr.makeSlice 39 (.int .i64 0) (.int .i64 (x : Int))).run Tryz.prog w = .ok (.slice (some ⟨w.heap.size, 0, none⟩) 0 x) w' ∧ OwF w' w.heap.size (.slice (some ⟨w.heap.size, 0, none⟩) 0 x) [] ∧ Fr (fun _ => False) w w' := by
 obtain ⟨i, hi, hz, hs, hb⟩ := info_parts Tryz.infoFl
 obtain ⟨w', hr, ho, hg⟩ := run_makeSlice_owned (P := Tryz.prog) w w.heap.size 39 55 i (.agg #[.string ⟨#[]⟩, .int .u8 0, .string ⟨#[]⟩, .float .f32 0, .int .u8 0]) 5 Tryz.underlying39 hi hz hs .i64 .i64 x (by omega) (by rw [hb]; omega) (by simp only [maxLen]; omega) (Nat.le_refl _)
 exact ⟨w', hr, ho, (Fr.refl _ _).grown hg (fun _ h => by cases h)⟩
end Go.Proofs.YtiknjghcjaaenaaGreatDoor
