import Derived.Test.YtjkkonhhnmjcaaaGreatDoorPk4
import Derived.Laws.OwnMore
import Derived.Laws.MakeOwn
import Derived.Lib.AppendStr
import Derived.Deep.Cut
import Derived.Deep.CutRange
import Derived.Laws.IdiomCopy
import Derived.Lib.Strings
import Derived.DeepKeys4
import Derived.Maps.RangeWalk
import Derived.Maps.OwnSet
import Derived.Maps.OwnOps
import Derived.Maps.Ext
import Derived.Shelf.SlIterI.Nil
import Derived.Shelf.SlSortCmp.NoneTotal
import Derived.Sort.OwnSorted
import Derived.Deep.MidRow
import Derived.Deep.RegionHeld3
namespace Go.Proofs.YtjkkonhhnmjcaaaGreatDoor
open Go.RowKit

theorem ownsRow_of_blockS {w w' : World} {base e size n : Nat} {v : Value} {xs : List Value} (h : w.ownsRow base e size v n xs) (hb : ∀ g, v.ownBlock = some g → w'.heap[g]? = w.heap[g]?) : w'.ownsRow base e size v n xs := by
  refine ⟨h.1, ?_⟩
  rcases h.2 with h0 | ⟨g, cap, cur, e1, e2, e3, e4⟩
  · exact .inl h0
  · exact .inr ⟨g, cap, cur, e1, e2, (hb g (by rw [e1]; rfl)).trans e3, e4⟩
theorem wpList_appS {P : Program} {w w' : World} {ops : Array Oper} {rest : List Oper} {o : Oper} {a : Act} {Q : Exit → Act → World → Prop} (hgd : o.guard = none) (s x : Operand) (t u : TypeId)
    (ho : o.op = .call { callee := .builtin .append, args := #[s, x], argTypes := #[t, u] }) (vs vx v' : Value) (hs : a.eval s = vs) (hx : a.eval x = vx) (hr : (Builtin.append_ #[t, u] o.type #[vs, vx]).run P w = .ok v' w')
    (h : wpList P ops Q rest (a.put o.dst v') w') : wpList P ops Q (o :: rest) a w := by
  refine wpList_plain hgd fun K hK => ?_
  unfold Oper.wp execOp
  simp only [ho, resolve, invoke, builtin, Sem.run_bind, Sem.run_pure, Result.andThen_ok, List.map_toArray, List.map_cons, List.map_nil, hs, hx, hr]
  exact hK _ _ h
theorem ownsRow_baseS {w : World} {base base' e size n : Nat} {v : Value} {xs : List Value} (h : w.ownsRow base e size v n xs) (hb : base' ≤ base) : w.ownsRow base' e size v n xs := by
  refine ⟨h.1, ?_⟩
  rcases h.2 with h | ⟨g, c, cur, e1, e2, e3⟩
  · exact .inl h
  · exact .inr ⟨g, c, cur, e1, Nat.le_trans hb e2, e3⟩
theorem addr_addS (g o j : Nat) : (⟨g, o, none⟩ : Addr).add j = ⟨g, o + j, none⟩ := by unfold Addr.add; split <;> simp_all
theorem Fr.absorb {S : Nat → Prop} {w a b : World} (h : Fr (fun _ => False) w a) (k : Fr S a b) (hS : ∀ i, S i → w.heap.size ≤ i) : Fr (fun _ => False) w b :=
  h.trans k (fun i hi hs => by have := hS i hs; omega)
theorem own_formX {w : World} {base e size n : Nat} {v : Value} {xs : List Value} (h : w.ownsRow base e size v n xs) : ∃ ao cap, v = .slice ao n cap := by
  rcases h.2 with ⟨rfl, rfl⟩ | ⟨g, cap, cur, rfl, _⟩
  · exact ⟨none, 0, rfl⟩
  · exact ⟨some ⟨g, 0, none⟩, cap, rfl⟩
/-- The cells of fields. -/
def fcells (l : List F5) : List Value := l.flatMap fun f => [.string f.n, .int .u8 (f.k : Nat), .string f.t, .float .f32 f.v, .int .u8 (f.u : Nat)]
theorem fcells_app (a : List F5) (f : F5) : fcells (a ++ [f]) = fcells a ++ [.string f.n, .int .u8 (f.k : Nat), .string f.t, .float .f32 f.v, .int .u8 (f.u : Nat)] := by simp [fcells]
theorem fcells_len (l : List F5) : (fcells l).length = l.length * 5 := by
  induction l with
  | nil => rfl
  | cons f r ih =>
    have e : fcells (f :: r) = [.string f.n, .int .u8 (f.k : Nat), .string f.t, .float .f32 f.v, .int .u8 (f.u : Nat)] ++ fcells r := by simp [fcells]
    rw [e, List.length_append, ih]
    simp only [List.length_cons, List.length_nil]
    omega
theorem fcells_at : ∀ (l : List F5) (k : Nat) (h : k < l.length), (fcells l)[k * 5]? = some (.string l[k].n) ∧ (fcells l)[k * 5 + 1]? = some (.int .u8 (l[k].k : Nat)) ∧ (fcells l)[k * 5 + 2]? = some (.string l[k].t) ∧ (fcells l)[k * 5 + 3]? = some (.float .f32 l[k].v) ∧ (fcells l)[k * 5 + 4]? = some (.int .u8 (l[k].u : Nat))
  | [], k, h => by simp at h
  | f :: r, 0, _ => by simp [fcells]
  | f :: r, k + 1, h => by
    have ih := fcells_at r k (by simpa using h)
    have e : fcells (f :: r) = [.string f.n, .int .u8 (f.k : Nat), .string f.t, .float .f32 f.v, .int .u8 (f.u : Nat)] ++ fcells r := by simp [fcells]
    have hl : ([Value.string f.n, .int .u8 (f.k : Nat), .string f.t, .float .f32 f.v, .int .u8 (f.u : Nat)]).length = 5 := rfl
    rw [e]
    refine ⟨?_, ?_, ?_, ?_, ?_⟩
    · rw [List.getElem?_append_right (by rw [hl]; omega), hl, show (k + 1) * 5 - 5 = k * 5 by omega]; exact ih.1
    · rw [List.getElem?_append_right (by rw [hl]; omega), hl, show (k + 1) * 5 + 1 - 5 = k * 5 + 1 by omega]; exact ih.2.1
    · rw [List.getElem?_append_right (by rw [hl]; omega), hl, show (k + 1) * 5 + 2 - 5 = k * 5 + 2 by omega]; exact ih.2.2.1
    · rw [List.getElem?_append_right (by rw [hl]; omega), hl, show (k + 1) * 5 + 3 - 5 = k * 5 + 3 by omega]; exact ih.2.2.2.1
    · rw [List.getElem?_append_right (by rw [hl]; omega), hl, show (k + 1) * 5 + 4 - 5 = k * 5 + 4 by omega]; exact ih.2.2.2.2
/-- Fields of one's own. -/
def OwF (w : World) (base : Nat) (v : Value) (l : List F5) : Prop := w.ownsRow base 70 5 v l.length (fcells l)
theorem OwF.fds {w : World} {base : Nat} {v : Value} {l : List F5} (h : OwF w base v l) : Fds w v l := by
  rcases Nat.eq_zero_or_pos l.length with h0 | h0
  · obtain rfl := List.length_eq_zero_iff.1 h0
    obtain ⟨ao, cap, rfl⟩ := own_formX h
    exact .inl ⟨ao, cap, rfl, rfl⟩
  · obtain ⟨g, cap, rfl, _, _⟩ := h.form h0
    refine .inr ⟨g, 0, cap, rfl, fun j hj => ?_⟩
    obtain ⟨e0, e1, e2, e3, e4⟩ := fcells_at l j hj
    have hc : ∀ i u, (fcells l)[i]? = some u → w.cell? ⟨g, 0 + i, none⟩ = some u := fun i u hu => by
      rw [Nat.zero_add]
      have hi : i < (fcells l).length := (List.getElem?_eq_some_iff.1 hu).1
      rw [fcells_len] at hi
      rw [h.cellAt i (by omega)]
      exact hu
    exact ⟨hc _ _ e0, by rw [Nat.add_assoc]; exact hc _ _ e1, by rw [Nat.add_assoc]; exact hc _ _ e2, by rw [Nat.add_assoc]; exact hc _ _ e3, by rw [Nat.add_assoc]; exact hc _ _ e4⟩
theorem OwF.fr {w w' : World} {base : Nat} {v : Value} {l : List F5} {S : Nat → Prop} (h : OwF w base v l) (hf : Fr S w w') (hS : ∀ g, v.ownBlock = some g → ¬ S g) : OwF w' base v l :=
  ownsRow_of_blockS h (fun g hg => hf.block g (h.lt g hg).2 (hS g hg))
theorem Tryz.infoFl : (Tryz.prog.info? 70).map (fun i => (i.zero, i.size, i.bytes)) = some (some (.agg #[.string ⟨#[]⟩, .int .u8 0, .string ⟨#[]⟩, .float .f32 0, .int .u8 0]), 5, 48) := by kernel_rfl
/-- append(l, f). -/
theorem app_fld (w : World) (base : Nat) (v : Value) (l : List F5) (f : F5) (h : OwF w base v l) (hb : base ≤ w.heap.size) (hl : l.length ≤ 1000000000) :
    ∃ ao cap w', (Builtin.append_ #[25, 25] 25 #[v, .slice (some ⟨w.heap.size, 0, none⟩) 1 1]).run Tryz.prog (w.alloc (.cells #[.string f.n, .int .u8 (f.k : Nat), .string f.t, .float .f32 f.v, .int .u8 (f.u : Nat)] 70)) = .ok (.slice ao (l.length + 1) cap) w' ∧ OwF w' base (.slice ao (l.length + 1) cap) (l ++ [f]) ∧ Fr (fun g => v.ownBlock = some g) w w' ∧
      ∀ g, (Value.slice ao (l.length + 1) cap).ownBlock = some g → v.ownBlock = some g ∨ w.heap.size ≤ g := by
  obtain ⟨i0, hi, hz0, hz1, hz2⟩ := info_parts Tryz.infoFl
  have hb' := ownsRow_of_blockS (w' := w.alloc (.cells #[.string f.n, .int .u8 (f.k : Nat), .string f.t, .float .f32 f.v, .int .u8 (f.u : Nat)] 70)) h (fun g hg => Below.heap_alloc _ _ _ (h.lt g hg).2)
  obtain ⟨v', w', hr, h2, h3, _, h5⟩ := run_append_own_at (P := Tryz.prog) (w := w.alloc (.cells #[.string f.n, .int .u8 (f.k : Nat), .string f.t, .float .f32 f.v, .int .u8 (f.u : Nat)] 70)) base 25 25 70 i0 (.agg #[.string ⟨#[]⟩, .int .u8 0, .string ⟨#[]⟩, .float .f32 0, .int .u8 0]) 5 48 Tryz.underlying25 hi hz0 hz1 hz2 rfl (by decide) v l.length (fcells l) hb' ⟨w.heap.size, 0, none⟩ 1 1 [.string f.n, .int .u8 (f.k : Nat), .string f.t, .float .f32 f.v, .int .u8 (f.u : Nat)] rfl (fun j u hu => by
    rw [addr_addS, World.cell?_alloc_at _ _ _ _ rfl]; simpa using hu) (fun u hu => by simp at hu; rcases hu with rfl | rfl | rfl | rfl | rfl <;> rfl) (by simp only [maxLen]; omega) (by omega) (by simp; omega)
  obtain ⟨ao, cap, rfl⟩ := own_formX h2
  refine ⟨ao, cap, w', hr, by unfold OwF; rw [fcells_app, List.length_append, List.length_singleton]; exact h2, ((box1S w _).mono (fun _ _ h => h.elim)).grown h3 (fun g hg => .inl hg), fun g hg => ?_⟩
  rcases h5 with e | e
  · rw [e] at hg; exact .inl hg
  · rw [e] at hg; cases hg; exact .inr (by simp)
theorem Fds.frS {w w' : World} {x : Value} {l : List F5} {S : Nat → Prop} (h : Fds w x l) (hf : Fr S w w') (hS : ∀ g o n c, x = .slice (some ⟨g, o, none⟩) n c → 0 < n → ¬ S g) : Fds w' x l := by
  rcases h with h | ⟨g, o, c, h1, h2⟩
  · exact .inl h
  · refine .inr ⟨g, o, c, h1, fun j hj => ?_⟩
    obtain ⟨c0, c1, c2, c3, c4⟩ := h2 j hj
    have hg : g < w.heap.size := lt_of_cell c0
    have hn := hS g o _ c h1 (by omega)
    exact ⟨(hf.cell (p := ⟨g, _, none⟩) hg hn).trans c0, (hf.cell (p := ⟨g, _, none⟩) hg hn).trans c1, (hf.cell (p := ⟨g, _, none⟩) hg hn).trans c2, (hf.cell (p := ⟨g, _, none⟩) hg hn).trans c3, (hf.cell (p := ⟨g, _, none⟩) hg hn).trans c4⟩
/-- Fields that may be read, with room. -/
structure FdC (w : World) (base : Nat) (x : Value) (l : List F5) : Prop where
  f : Fds w x l
  b : ∀ g o n c, x = .slice (some ⟨g, o, none⟩) n c → 0 < n → g < base
  c : ∀ xo n c, x = .slice xo n c → n ≤ c
  z : ∀ n c, x = .slice none n c → c = 0
theorem FdC.frS {w w' : World} {base : Nat} {x : Value} {l : List F5} (h : FdC w base x l) (hf : Fr (fun k => base ≤ k) w w') : FdC w' base x l :=
  ⟨h.f.frS hf (fun g o n c e h0 => by have := h.b g o n c e h0; omega), h.b, h.c, h.z⟩
theorem fcells_one (l : List F5) : ∀ u ∈ fcells l, u.oneCell' = true := by
  intro u hu
  simp only [fcells, List.mem_flatMap] at hu
  obtain ⟨f, _, hu⟩ := hu
  simp at hu
  rcases hu with rfl | rfl | rfl | rfl | rfl <;> rfl
theorem fcells_cat (a b : List F5) : fcells (a ++ b) = fcells a ++ fcells b := by simp [fcells]
theorem Fds.cellsX {w : World} {g o n c : Nat} {l : List F5} (h : Fds w (.slice (some ⟨g, o, none⟩) n c) l) : ∀ i u, (fcells l)[i]? = some u → w.cell? ⟨g, o + i, none⟩ = some u := by
  intro i u hu
  have hi : i < (fcells l).length := (List.getElem?_eq_some_iff.1 hu).1
  rw [fcells_len] at hi
  have hj : i / 5 < l.length := by omega
  obtain ⟨g', o', e, d0, d1, d2, d3, d4⟩ := h.at_ (i / 5) hj
  simp only [Option.some.injEq, Addr.mk.injEq, and_true] at e
  obtain ⟨rfl, rfl⟩ := e
  obtain ⟨e0, e1, e2, e3, e4⟩ := fcells_at l (i / 5) hj
  have hm : i % 5 = 0 ∨ i % 5 = 1 ∨ i % 5 = 2 ∨ i % 5 = 3 ∨ i % 5 = 4 := by omega
  rcases hm with hm | hm | hm | hm | hm
  · have ei : i = i / 5 * 5 := by omega
    rw [ei, e0] at hu; cases hu
    rw [show o + i = o + i / 5 * 5 by omega]; exact d0
  · have ei : i = i / 5 * 5 + 1 := by omega
    rw [ei, e1] at hu; cases hu
    rw [show o + i = o + i / 5 * 5 + 1 by omega]; exact d1
  · have ei : i = i / 5 * 5 + 2 := by omega
    rw [ei, e2] at hu; cases hu
    rw [show o + i = o + i / 5 * 5 + 2 by omega]; exact d2
  · have ei : i = i / 5 * 5 + 3 := by omega
    rw [ei, e3] at hu; cases hu
    rw [show o + i = o + i / 5 * 5 + 3 by omega]; exact d3
  · have ei : i = i / 5 * 5 + 4 := by omega
    rw [ei, e4] at hu; cases hu
    rw [show o + i = o + i / 5 * 5 + 4 by omega]; exact d4
/-- A version in a history. -/
structure SM where
  au : Nat
  ev : Nat
  nf : Nat
  rd : Bool
/-- Has a request a form? -/
def RQ.frm (r : RQ) (l : List F5) : Bool :=
  if r.op = 1 then decide (r.rc = 0 ∧ r.ve = 0 ∧ r.rs.size = 0) && fdsB l false
  else if r.op = 2 then decide (r.wa = 0 ∧ r.ow = 0 ∧ r.rs.size = 0) && fdsB l true
  else if r.op = 3 then decide (r.wa = 0 ∧ r.ow = 0 ∧ l.length = 0 ∧ r.rs.size = 0)
  else if r.op = 4 then decide (r.wa = 0 ∧ r.ow = 0 ∧ l.length = 0 ∧ r.rs.size = 0)
  else if r.op = 5 then decide (r.ve = 0 ∧ r.wa = 0 ∧ r.ow = 0 ∧ l.length = 0 ∧ r.rs.size = 0)
  else if r.op = 6 then decide (r.wa = 0 ∧ r.ow = 0 ∧ l.length = 0 ∧ r.rs.size = 0 ∧ r.ve ≤ 1)
  else if r.op = 7 then decide (r.ve = 0 ∧ r.wa = 0 ∧ r.ow = 0 ∧ l.length = 0 ∧ r.rs.size ≤ 64)
  else false
def scells (l : List SM) : List Value := l.flatMap fun s => [.int .u32 (s.au : Nat), .int .u32 (s.ev : Nat), .int .u32 (s.nf : Nat), .bool s.rd]
/-- Summaries of one's own. -/
def OwS (w : World) (base : Nat) (v : Value) (l : List SM) : Prop := w.ownsRow base 119 4 v l.length (scells l)
/-- An answer. -/
structure AN where
  cl : Nat
  nu : Nat
  co : Nat
  rc : Nat
  ve : Nat
  fv : Value
  hv : Value
def AN.cs (a : AN) : List Value := [.int .u32 (a.cl : Nat), .int .u32 (a.nu : Nat), .int .u8 (a.co : Nat), .int .u32 (a.rc : Nat), .int .u32 (a.ve : Nat), a.fv, a.hv]
def AN.v (a : AN) : Value := .agg a.cs.toArray
/-- Summaries that may be read. -/
def Sms (w : World) (x : Value) (l : List SM) : Prop :=
  (∃ a c, x = .slice a 0 c ∧ l = []) ∨ ∃ g o c, x = .slice (some ⟨g, o, none⟩) l.length c ∧ ∀ j (h : j < l.length), w.cell? ⟨g, o + j * 4, none⟩ = some (.int .u32 (l[j].au : Nat)) ∧ w.cell? ⟨g, o + j * 4 + 1, none⟩ = some (.int .u32 (l[j].ev : Nat)) ∧ w.cell? ⟨g, o + j * 4 + 2, none⟩ = some (.int .u32 (l[j].nf : Nat)) ∧ w.cell? ⟨g, o + j * 4 + 3, none⟩ = some (.bool l[j].rd)
theorem Sms.form {w : World} {x : Value} {l : List SM} (h : Sms w x l) : ∃ xo xc, x = .slice xo l.length xc := by
  rcases h with ⟨a, c, rfl, rfl⟩ | ⟨g, o, c, rfl, _⟩ <;> exact ⟨_, _, rfl⟩
theorem Sms.fr {w w' : World} {x : Value} {l : List SM} (h : Sms w x l) (hf : Fr (fun _ => False) w w') : Sms w' x l := by
  rcases h with h | ⟨g, o, c, h1, h2⟩
  · exact .inl h
  · refine .inr ⟨g, o, c, h1, fun j hj => ?_⟩
    obtain ⟨c0, c1, c2, c3⟩ := h2 j hj
    have hg : g < w.heap.size := lt_of_cell c0
    exact ⟨(hf.cell (p := ⟨g, _, none⟩) hg (fun h => h)).trans c0, (hf.cell (p := ⟨g, _, none⟩) hg (fun h => h)).trans c1, (hf.cell (p := ⟨g, _, none⟩) hg (fun h => h)).trans c2, (hf.cell (p := ⟨g, _, none⟩) hg (fun h => h)).trans c3⟩
theorem Sms.at_ {w : World} {xo : Option Addr} {n c : Nat} {l : List SM} (h : Sms w (.slice xo n c) l) (j : Nat) (hj : j < l.length) : ∃ g o, xo = some ⟨g, o, none⟩ ∧ w.cell? ⟨g, o + j * 4, none⟩ = some (.int .u32 (l[j].au : Nat)) ∧ w.cell? ⟨g, o + j * 4 + 1, none⟩ = some (.int .u32 (l[j].ev : Nat)) ∧ w.cell? ⟨g, o + j * 4 + 2, none⟩ = some (.int .u32 (l[j].nf : Nat)) ∧ w.cell? ⟨g, o + j * 4 + 3, none⟩ = some (.bool l[j].rd) := by
  rcases h with ⟨_, _, _, rfl⟩ | ⟨g, o, c', e, h2⟩
  · simp at hj
  · simp only [Value.slice.injEq] at e
    obtain ⟨rfl, _, _⟩ := e
    exact ⟨g, o, rfl, h2 j hj⟩
theorem scells_at : ∀ (l : List SM) (k : Nat) (h : k < l.length), (scells l)[k * 4]? = some (.int .u32 (l[k].au : Nat)) ∧ (scells l)[k * 4 + 1]? = some (.int .u32 (l[k].ev : Nat)) ∧ (scells l)[k * 4 + 2]? = some (.int .u32 (l[k].nf : Nat)) ∧ (scells l)[k * 4 + 3]? = some (.bool l[k].rd)
  | [], k, h => by simp at h
  | f :: r, 0, _ => by simp [scells]
  | f :: r, k + 1, h => by
    have ih := scells_at r k (by simpa using h)
    have e : scells (f :: r) = [.int .u32 (f.au : Nat), .int .u32 (f.ev : Nat), .int .u32 (f.nf : Nat), .bool f.rd] ++ scells r := by simp [scells]
    have hl : ([Value.int .u32 (f.au : Nat), .int .u32 (f.ev : Nat), .int .u32 (f.nf : Nat), .bool f.rd]).length = 4 := rfl
    rw [e]
    refine ⟨?_, ?_, ?_, ?_⟩
    · rw [List.getElem?_append_right (by rw [hl]; omega), hl, show (k + 1) * 4 - 4 = k * 4 by omega]; exact ih.1
    · rw [List.getElem?_append_right (by rw [hl]; omega), hl, show (k + 1) * 4 + 1 - 4 = k * 4 + 1 by omega]; exact ih.2.1
    · rw [List.getElem?_append_right (by rw [hl]; omega), hl, show (k + 1) * 4 + 2 - 4 = k * 4 + 2 by omega]; exact ih.2.2.1
    · rw [List.getElem?_append_right (by rw [hl]; omega), hl, show (k + 1) * 4 + 3 - 4 = k * 4 + 3 by omega]; exact ih.2.2.2
theorem OwS.sms {w : World} {base : Nat} {v : Value} {l : List SM} (h : OwS w base v l) : Sms w v l := by
  have ho : w.ownsRow base 119 4 v l.length (scells l) := h
  rcases Nat.eq_zero_or_pos l.length with h0 | h0
  · obtain rfl := List.length_eq_zero_iff.1 h0
    obtain ⟨ao, cap, rfl⟩ := own_formX ho
    exact .inl ⟨ao, cap, rfl, rfl⟩
  · obtain ⟨g, cap, e, _, _⟩ := ho.form h0
    rw [e] at ho
    refine .inr ⟨g, 0, cap, e, fun j hj => ?_⟩
    obtain ⟨a0, a1, a2, a3⟩ := scells_at l j hj
    rw [Nat.zero_add]
    exact ⟨(ho.cellAt _ (by omega)).trans a0, (ho.cellAt _ (by omega)).trans a1, (ho.cellAt _ (by omega)).trans a2, (ho.cellAt _ (by omega)).trans a3⟩
theorem Fr.of_below {w w' : World} (h : Below w.heap.size w w') : Fr (fun _ => False) w w' := ⟨h.os, h.tape, h.output, h.size, fun k hk _ => h.block k hk⟩
theorem lt_of_block {w : World} {b : Nat} {o : Obj} (h : w.heap[b]? = some o) : b < w.heap.size := by
  rcases Nat.lt_or_ge b w.heap.size with hx | hx
  · exact hx
  · rw [Array.getElem?_eq_none hx] at h; cases h
theorem own_blk {w : World} {base e size n g : Nat} {v : Value} {xs : List Value} (h : w.ownsRow base e size v n xs) (hg : v.ownBlock = some g) : ∃ cur, w.heap[g]? = some (.cells cur e) := by
  rcases h.2 with ⟨rfl, _⟩ | ⟨q, cap, cur, rfl, _, hq, _⟩
  · cases hg
  · cases hg
    exact ⟨cur, hq⟩
theorem heap_alloc_new (w : World) (o : Obj) : (w.alloc o).heap[w.heap.size]? = some o := (MapKept.heap_alloc w o).1
set_option maxRecDepth 100000 in
theorem formed_0 (cl nu ac rc ve wa ow : Nat) (rs : ByteArray) (xo : Option Addr) (n xc : Nat) (w : World) :
    Calls Tryz.prog 8 #[(RQ.mk cl nu ac 0 rc ve wa ow (.slice xo n xc) rs).v] w fun e w' => e = .returned (.bool false) ∧ Fr (fun _ => False) w w' := by
  simp only [RQ.v]
  go_enter Tryz.func8, Tryz.ntmps8
  go_wp2_with fail
  go_ret
  exact ⟨rfl, box1S w _⟩
set_option maxRecDepth 100000 in
theorem formed_8 (cl nu ac k rc ve wa ow : Nat) (rs : ByteArray) (xo : Option Addr) (n xc : Nat) (w : World) (hk : 8 ≤ k) :
    Calls Tryz.prog 8 #[(RQ.mk cl nu ac k rc ve wa ow (.slice xo n xc) rs).v] w fun e w' => e = .returned (.bool false) ∧ Fr (fun _ => False) w w' := by
  have h1 : ¬ (k : Int) < 1 := by omega
  have h2 : (7 : Int) < (k : Int) := by omega
  simp only [RQ.v]
  go_enter Tryz.func8, Tryz.ntmps8
  go_wp2_with fail
  go_ret
  exact ⟨rfl, box1S w _⟩
theorem RQ.emp_eq (r : RQ) (n : Nat) : r.emp n = decide (r.rc = 0 ∧ r.ve = 0 ∧ r.wa = 0 ∧ r.ow = 0 ∧ n = 0 ∧ r.rs.size = 0) := by
  simp only [RQ.emp, Bool.decide_and]
/-- Formed. -/
theorem formed_any (r : RQ) (F : List F5) (w : World) (hx : Fds w r.fv F) (hl : F.length ≤ 140737488355328) (hv : ∀ f ∈ F, f.v < 4294967296 ∧ f.u < 256) :
    Calls Tryz.prog 8 #[r.v] w fun e w' => e = .returned (.bool (r.frm F)) ∧ Fr (fun _ => False) w w' := by
  obtain ⟨cl, nu, ac, op, rc, ve, wa, ow, fv, rs⟩ := r
  obtain ⟨xo, xc, hfv⟩ := hx.form
  simp only at hfv hx
  subst hfv
  have hnil : F.length = 0 → ∀ g, fdsB F g = true := fun e g => by
    obtain rfl := List.length_eq_zero_iff.1 e
    rfl
  rcases op with _ | _ | _ | _ | _ | _ | _ | _ | op
  · exact (formed_0 cl nu ac rc ve wa ow rs xo _ xc w).mono (fun e w' h => h)
  · refine (formed_1 cl nu ac rc ve wa ow rs xo _ xc F w hx hl hv).mono ?_
    rintro e w' ⟨rfl, hf⟩
    refine ⟨?_, hf⟩
    rw [RQ.emp_eq]
    simp only [RQ.frm, if_true]
    by_cases h : rc = 0 ∧ ve = 0 ∧ rs.size = 0
    · simp [h]
    · rw [decide_eq_false h, decide_eq_false (fun h' => h ⟨h'.1, h'.2.1, h'.2.2.2.2.2⟩)]
      rfl
  · refine (formed_2 cl nu ac rc ve wa ow rs xo _ xc F w hx hl hv).mono ?_
    rintro e w' ⟨rfl, hf⟩
    refine ⟨?_, hf⟩
    rw [RQ.emp_eq]
    simp only [RQ.frm, if_true]
    by_cases h : wa = 0 ∧ ow = 0 ∧ rs.size = 0
    · simp [h]
    · rw [if_neg (by decide), decide_eq_false h, decide_eq_false (fun h' => h ⟨h'.2.2.1, h'.2.2.2.1, h'.2.2.2.2.2⟩)]
      rfl
  · refine (formed_3 cl nu ac rc ve wa ow rs xo _ xc F w hx hl hv).mono ?_
    rintro e w' ⟨rfl, hf⟩
    refine ⟨?_, hf⟩
    rw [RQ.emp_eq]
    by_cases h : wa = 0 ∧ ow = 0 ∧ F.length = 0 ∧ rs.size = 0
    · obtain ⟨a1, a2, a3, a4⟩ := h
      simp [RQ.frm, a1, a2, a3, a4, hnil a3]
    · have e1 : (RQ.mk cl nu ac 3 rc ve wa ow (.slice xo F.length xc) rs).frm F = false := by
        simp only [RQ.frm]
        simpa using h
      rw [show (RQ.mk cl nu ac (3) rc ve wa ow (.slice xo F.length xc) rs).frm F = false from e1]
      congr 1
      congr 1
      rw [Bool.and_eq_false_iff]
      exact .inl (decide_eq_false (fun h' => h ⟨h'.2.2.1, h'.2.2.2.1, h'.2.2.2.2.1, h'.2.2.2.2.2⟩))
  · refine (formed_4 cl nu ac rc ve wa ow rs xo _ xc F w hx hl hv).mono ?_
    rintro e w' ⟨rfl, hf⟩
    refine ⟨?_, hf⟩
    rw [RQ.emp_eq]
    by_cases h : wa = 0 ∧ ow = 0 ∧ F.length = 0 ∧ rs.size = 0
    · obtain ⟨a1, a2, a3, a4⟩ := h
      simp [RQ.frm, a1, a2, a3, a4, hnil a3]
    · have e1 : (RQ.mk cl nu ac 4 rc ve wa ow (.slice xo F.length xc) rs).frm F = false := by
        simp only [RQ.frm]
        simpa using h
      rw [show (RQ.mk cl nu ac (4) rc ve wa ow (.slice xo F.length xc) rs).frm F = false from e1]
      congr 1
      congr 1
      rw [Bool.and_eq_false_iff]
      exact .inl (decide_eq_false (fun h' => h ⟨h'.2.2.1, h'.2.2.2.1, h'.2.2.2.2.1, h'.2.2.2.2.2⟩))
  · refine (formed_5 cl nu ac rc ve wa ow rs xo _ xc F w hx hl hv).mono ?_
    rintro e w' ⟨rfl, hf⟩
    refine ⟨?_, hf⟩
    rw [RQ.emp_eq]
    by_cases h : ve = 0 ∧ wa = 0 ∧ ow = 0 ∧ F.length = 0 ∧ rs.size = 0
    · obtain ⟨a0, a1, a2, a3, a4⟩ := h
      simp [RQ.frm, a0, a1, a2, a3, a4, hnil a3]
    · have e1 : (RQ.mk cl nu ac 5 rc ve wa ow (.slice xo F.length xc) rs).frm F = false := by
        simp only [RQ.frm]
        simpa using h
      rw [show (RQ.mk cl nu ac (5) rc ve wa ow (.slice xo F.length xc) rs).frm F = false from e1]
      congr 1
      congr 1
      rw [Bool.and_eq_false_iff]
      exact .inl (decide_eq_false (fun h' => h ⟨h'.2.1, h'.2.2.1, h'.2.2.2.1, h'.2.2.2.2.1, h'.2.2.2.2.2⟩))
  · refine (formed_6 cl nu ac rc ve wa ow rs xo _ xc F w hx hl hv).mono ?_
    rintro e w' ⟨rfl, hf⟩
    refine ⟨?_, hf⟩
    rw [RQ.emp_eq]
    by_cases h : wa = 0 ∧ ow = 0 ∧ F.length = 0 ∧ rs.size = 0 ∧ ve ≤ 1
    · obtain ⟨a1, a2, a3, a4, a5⟩ := h
      simp [RQ.frm, a1, a2, a3, a4, a5, hnil a3]
    · have e1 : (RQ.mk cl nu ac 6 rc ve wa ow (.slice xo F.length xc) rs).frm F = false := by
        simp only [RQ.frm]
        simpa using h
      rw [show (RQ.mk cl nu ac (6) rc ve wa ow (.slice xo F.length xc) rs).frm F = false from e1]
      congr 1
      congr 1
      rw [Bool.and_eq_false_iff]
      by_cases h6 : ve ≤ 1
      · exact .inl (decide_eq_false (fun h' => h ⟨h'.2.2.1, h'.2.2.2.1, h'.2.2.2.2.1, h'.2.2.2.2.2, h6⟩))
      · exact .inr (by simp [h6])
  · refine (formed_7 cl nu ac rc ve wa ow rs xo _ xc F w hx hl hv).mono ?_
    rintro e w' ⟨rfl, hf⟩
    refine ⟨?_, hf⟩
    rw [RQ.emp_eq]
    by_cases h : ve = 0 ∧ wa = 0 ∧ ow = 0 ∧ F.length = 0 ∧ rs.size ≤ 64
    · obtain ⟨a0, a1, a2, a3, a4⟩ := h
      simp [RQ.frm, a0, a1, a2, a3, a4, hnil a3, ba_empty]
    · have e1 : (RQ.mk cl nu ac 7 rc ve wa ow (.slice xo F.length xc) rs).frm F = false := by
        simp only [RQ.frm]
        simpa using h
      rw [show (RQ.mk cl nu ac (7) rc ve wa ow (.slice xo F.length xc) rs).frm F = false from e1]
      congr 1
      congr 1
      rw [Bool.and_eq_false_iff]
      by_cases h6 : rs.size ≤ 64
      · exact .inl (decide_eq_false (fun h' => h ⟨h'.2.1, h'.2.2.1, h'.2.2.2.1, h'.2.2.2.2.1, h6⟩))
      · exact .inr (by simp [h6])
  · refine (formed_8 cl nu ac (op + 8) rc ve wa ow rs xo _ xc w (by omega)).mono ?_
    rintro e w' ⟨rfl, hf⟩
    refine ⟨?_, hf⟩
    simp [RQ.frm]
end Go.Proofs.YtjkkonhhnmjcaaaGreatDoor

namespace Go.Proofs.YtjkkonhhnmjcaaaGreatDoor
open Go.RowKit
set_option linter.unusedSimpArgs false

theorem failN_none {s : Wq} {nm : ByteArray} {n : Nat} : ((s.named nm).failN n).f = none ↔ s.f = none ∧ n = 0 := by
  unfold Wq.failN Wq.named
  by_cases hn : n = 0
  · simp [hn]
  · by_cases hs : s.f = none
    · simp [hn, hs]
    · simp [hn, hs]
theorem failN_noneP {s : Wq} {n : Nat} : (s.failN n).f = none ↔ s.f = none ∧ n = 0 := by
  unfold Wq.failN
  by_cases hn : n = 0
  · simp [hn]
  · by_cases hs : s.f = none
    · simp [hn, hs]
    · simp [hn, hs]
theorem putB_non {s : Wq} {x : List Nat} : (s.putB x).f = none ↔ s.f = none := by
  unfold Wq.putB
  by_cases hs : s.f = none <;> simp [hs]
/-- What is told is a fault of its own kind. -/
def Wq.fk (s : Wq) : Prop := ∀ x, s.f = some x → x.2.2 ≠ 0
theorem named_fk {s : Wq} {nm : ByteArray} (h : s.fk) : (s.named nm).fk := h
theorem failN_fk {s : Wq} {n : Nat} (h : s.fk) : (s.failN n).fk := by
  intro x hx
  unfold Wq.failN at hx
  split at hx
  · exact h x hx
  · rename_i hn
    have e : (s.nm, s.l.length, n) = x := Option.some.inj hx
    subst e
    exact fun e => hn (.inl e)
theorem putB_fk {s : Wq} {x : List Nat} (h : s.fk) : (s.putB x).fk := by
  unfold Wq.putB
  split
  · exact h
  · exact h
theorem lim_fk {s : Wq} {n : Nat} {m : Int} {x : List Nat} (h : s.fk) : (s.lim n m x).fk := by
  unfold Wq.lim
  split
  · exact putB_fk h
  · exact failN_fk h
theorem cnt_fk {s : Wq} {n m : Int} (h : s.fk) : (s.cnt n m).fk := by
  unfold Wq.cnt
  split
  · exact failN_fk h
  · exact lim_fk h
theorem flt_fk {s : Wq} {x : Nat} (h : s.fk) : (s.flt x).fk := by
  unfold Wq.flt
  split
  · exact putB_fk h
  · exact failN_fk h
/-- A writer's part, and when it is fine. -/
theorem wU8 (s : Wq) (nm : ByteArray) (rs : List (Nat → Nat)) (v : Nat) : ∃ s', (CS.wr s).pU8 nm rs v = (.wr s', v) ∧ (s'.f = none ↔ s.f = none ∧ fb rs v = 0) ∧ (s.fk → s'.fk) :=
  ⟨_, rfl, by rw [putB_non, failN_none], fun h => putB_fk (failN_fk (named_fk h))⟩
theorem wU32 (s : Wq) (nm : ByteArray) (rs : List (Nat → Nat)) (v : Nat) : ∃ s', (CS.wr s).pU32 nm rs v = (.wr s', v) ∧ (s'.f = none ↔ s.f = none ∧ fb rs v = 0) ∧ (s.fk → s'.fk) :=
  ⟨_, rfl, by rw [putB_non, failN_none], fun h => putB_fk (failN_fk (named_fk h))⟩
theorem wF32 (s : Wq) (nm : ByteArray) (rs : List (Nat → Nat)) (v : Nat) : ∃ s', (CS.wr s).pF32 nm rs v = (.wr s', v) ∧ (s'.f = none ↔ s.f = none ∧ fb rs v = 0 ∧ quantB v = true) ∧ (s.fk → s'.fk) :=
  ⟨_, rfl, by
    unfold Wq.flt
    by_cases h : quantB v = true
    · rw [if_pos h, putB_non, failN_none]; simp [h]
    · rw [if_neg h, failN_noneP, failN_none]; simp [h], fun h => flt_fk (failN_fk (named_fk h))⟩
theorem wStr (s : Wq) (nm : ByteArray) (m : Int) (rs : List (ByteArray → Nat)) (v : ByteArray) : ∃ s', (CS.wr s).pStr nm m rs v = (.wr s', v) ∧ (s'.f = none ↔ s.f = none ∧ fb rs v = 0 ∧ (v.size : Int) ≤ m ∧ v.size < 4294967296) ∧ (s.fk → s'.fk) :=
  ⟨_, rfl, by
    unfold Wq.lim
    by_cases h : (v.size : Int) ≤ m ∧ v.size < 4294967296
    · rw [if_pos h, putB_non, failN_none]; simp [h]
    · rw [if_neg h, failN_noneP, failN_none]; simp only [show ¬ (2 : Nat) = 0 by decide, and_false, false_iff, h, not_false_iff], fun h => lim_fk (failN_fk (named_fk h))⟩
theorem wInt (s : Wq) (nm : ByteArray) (m : Int) (rs : List (Int → Nat)) (v : Nat) : ∃ s', (CS.wr s).pInt nm m rs v = (.wr s', (v : Int)) ∧ (s'.f = none ↔ s.f = none ∧ fb rs (v : Int) = 0 ∧ (v : Int) ≤ m ∧ v < 4294967296) ∧ (s.fk → s'.fk) :=
  ⟨_, rfl, by
    unfold Wq.cnt Wq.lim
    rw [if_neg (by omega), Int.toNat_natCast]
    by_cases h : (v : Int) ≤ m ∧ v < 4294967296
    · rw [if_pos h, putB_non, failN_none]; simp [h]
    · rw [if_neg h, failN_noneP, failN_none]; simp only [show ¬ (2 : Nat) = 0 by decide, and_false, false_iff, h, not_false_iff], fun h => cnt_fk (failN_fk (named_fk h))⟩
theorem fb1 {α : Type} (r : α → Nat) (v : α) : fb [r] v = 0 ↔ r v = 0 := by
  simp only [fb]
  by_cases h : r v = 0 <;> simp [h]
theorem fb2 {α : Type} (r q : α → Nat) (v : α) : fb [r, q] v = 0 ↔ r v = 0 ∧ q v = 0 := by
  simp only [fb]
  by_cases h : r v = 0 <;> by_cases k : q v = 0 <;> simp [h, k]
theorem wiN_0 {lo hi n v : Nat} (hn : n ≠ 0) : wiN lo hi n v = 0 ↔ lo ≤ v ∧ v ≤ hi := by
  unfold wiN
  split <;> constructor <;> intro h <;> omega
theorem wiI_0 {lo hi : Int} {n : Nat} {v : Int} (hn : n ≠ 0) : wiI lo hi n v = 0 ↔ lo ≤ v ∧ v ≤ hi := by
  unfold wiI
  split <;> constructor <;> intro h <;> omega
theorem szN_0 {lo hi : Int} {v : Nat} : szN lo hi v = 0 ↔ lo ≤ (v : Int) ∧ (v : Int) ≤ hi := by
  unfold szN
  split
  · constructor <;> intro h <;> omega
  · split <;> constructor <;> intro h <;> omega
theorem unN_0 {b : Bool} {v : Nat} : unN b v = 0 ↔ b = false := by cases b <;> simp [unN]
theorem quant_can (v : Nat) : quantB v = canB v := by
  have key : (v &&& 2139095040 = 2139095040) ↔ 2139095040 ≤ v % 2147483648 := by
    have e : v &&& 2139095040 = (v / 8388608 % 256) * 8388608 := by
      apply Nat.eq_of_testBit_eq
      intro i
      rw [Nat.testBit_and, show (2139095040 : Nat) = (2 ^ 8 - 1) * 2 ^ 23 by decide, Nat.testBit_mul_two_pow, Nat.testBit_two_pow_sub_one, show (8388608 : Nat) = 2 ^ 23 by decide, show (256 : Nat) = 2 ^ 8 by decide, Nat.testBit_mul_two_pow, Nat.testBit_mod_two_pow, Nat.testBit_div_two_pow]
      by_cases h1 : 23 ≤ i
      · by_cases h2 : i - 23 < 8
        · simp [h1, h2]
        · simp [h1, h2]
      · simp [h1]
    rw [e]
    omega
  unfold quantB canB
  by_cases h1 : v = 2147483648
  · simp [h1]
  · by_cases h2 : v &&& 2139095040 = 2139095040
    · have := key.1 h2
      simp [h1, h2]
      omega
    · have := mt key.2 h2
      have h3 : v % 2147483648 < 2139095040 := by omega
      have h4 : (v != 2147483648 && (v &&& 2139095040) != 2139095040) = true := by simp only [bne_iff_ne, ne_eq, Bool.and_eq_true]; exact ⟨h1, h2⟩
      rw [h4, decide_eq_true h3, decide_eq_true h1]
      rfl
theorem ltoList (b : ByteArray) : (b.toList = []) ↔ b.size = 0 := by
  rw [Lib.toList_data, ← List.length_eq_zero_iff, Array.length_toList]
  exact Iff.rfl
def F5.fld (f : F5) : Fld := ⟨f.n, f.k, f.t, f.v, f.u⟩
theorem pField_at {s s1 : Wq} {last : Nat} {g : Fld} (e : (CS.wr s).pU8 n_kind [wiN 1 last 5, unN g.beside] g.kind = (.wr s1, g.kind)) : (CS.wr s).pField last g =
    if g.kind = 1 then (((CS.wr s1).pStr n_text 64 [fun v => szN 0 64 v.size] g.text).1, { g with kind := 1, text := ((CS.wr s1).pStr n_text 64 [fun v => szN 0 64 v.size] g.text).2 })
    else if g.kind = 2 then ((((CS.wr s1).pF32 n_value [] g.value).1.pU8 n_unit [wiN 1 21 4] g.unit).1, { g with kind := 2, value := ((CS.wr s1).pF32 n_value [] g.value).2, unit := (((CS.wr s1).pF32 n_value [] g.value).1.pU8 n_unit [wiN 1 21 4] g.unit).2 })
    else (.wr s1, { g with kind := g.kind }) := by
  unfold CS.pField
  rw [e]
/-- A field behind its name. -/
theorem wField (s : Wq) (last : Nat) (f : F5) (hl : last = 2 ∨ last = 3 ∨ last = 0) (hn : f.n.size ≤ 64) : ∃ s', ((CS.wr s).pField last f.fld).1 = .wr s' ∧ ((CS.wr s).pField last f.fld).2.name = f.n ∧ (s'.f = none ↔ s.f = none ∧ last ≠ 0 ∧ fldB f = true ∧ (f.k ≠ 3 ∨ last = 3)) ∧ (s.fk → s'.fk) := by
  obtain ⟨n, k, t, v, u⟩ := f
  simp only at hn
  obtain ⟨s1, e1, h1, g1⟩ := wU8 s n_kind [wiN 1 last 5, unN (F5.fld ⟨n, k, t, v, u⟩).beside] k
  rw [fb2, wiN_0 (by decide), unN_0] at h1
  have hb : (F5.fld ⟨n, k, t, v, u⟩).beside = false ↔ ¬ ((k ≠ 1 ∧ ¬ t.size = 0) ∨ (k ≠ 2 ∧ (v ≠ 0 ∨ u ≠ 0))) := by
    simp only [F5.fld, Fld.beside, decide_eq_false_iff_not, ne_eq, ltoList]
  rw [hb] at h1
  rw [pField_at (g := F5.fld ⟨n, k, t, v, u⟩) e1]
  by_cases k1 : k = 1
  · subst k1
    rw [if_pos (show (F5.fld ⟨n, 1, t, v, u⟩).kind = 1 from rfl)]
    obtain ⟨s2, e2, h2, g2⟩ := wStr s1 n_text 64 [fun v => szN 0 64 v.size] t
    have e2' : (CS.wr s1).pStr n_text 64 [fun v => szN 0 64 v.size] (F5.fld ⟨n, 1, t, v, u⟩).text = (.wr s2, t) := e2
    rw [e2']
    refine ⟨s2, rfl, rfl, ?_, fun h => g2 (g1 h)⟩
    rw [h2, h1, fb1, szN_0]
    simp only [fldB, if_true, Bool.and_eq_true, decide_eq_true_iff]
    constructor
    · rintro ⟨⟨a, b, c⟩, d⟩
      refine ⟨a, by omega, ⟨⟨by omega, by omega⟩, by omega⟩, by omega⟩
    · rintro ⟨a, b, ⟨⟨c, d⟩, e⟩, g⟩
      exact ⟨⟨a, by omega, by omega⟩, by omega, by omega, by omega⟩
  · rw [if_neg (show ¬ (F5.fld ⟨n, k, t, v, u⟩).kind = 1 from k1)]
    by_cases k2 : k = 2
    · subst k2
      rw [if_pos (show (F5.fld ⟨n, 2, t, v, u⟩).kind = 2 from rfl)]
      obtain ⟨s2, e2, h2, g2⟩ := wF32 s1 n_value [] v
      have e2' : (CS.wr s1).pF32 n_value [] (F5.fld ⟨n, 2, t, v, u⟩).value = (.wr s2, v) := e2
      obtain ⟨s3, e3, h3, g3⟩ := wU8 s2 n_unit [wiN 1 21 4] u
      have e3' : (CS.wr s2).pU8 n_unit [wiN 1 21 4] (F5.fld ⟨n, 2, t, v, u⟩).unit = (.wr s3, u) := e3
      rw [e2']
      simp only
      rw [e3']
      refine ⟨s3, rfl, rfl, ?_, fun h => g3 (g2 (g1 h))⟩
      rw [h3, h2, h1, fb1, wiN_0 (by decide), quant_can v]
      simp only [fldB, if_true, if_neg k1, Bool.and_eq_true, decide_eq_true_iff, fb]
      constructor
      · rintro ⟨⟨⟨a, b, c⟩, d, e⟩, g⟩
        refine ⟨a, by omega, ⟨⟨by omega, by omega⟩, ⟨by omega, e⟩, by omega⟩, by omega⟩
      · rintro ⟨a, b, ⟨⟨c, d⟩, ⟨e, g⟩, h⟩, i⟩
        exact ⟨⟨⟨a, by omega, by omega⟩, trivial, g⟩, by omega⟩
    · rw [if_neg (show ¬ (F5.fld ⟨n, k, t, v, u⟩).kind = 2 from k2)]
      refine ⟨s1, rfl, rfl, ?_, g1⟩
      rw [h1]
      simp only [fldB, if_neg k1, if_neg k2, Bool.and_eq_true, decide_eq_true_iff]
      by_cases k3 : k = 3
      · rw [if_pos k3]
        simp only [Bool.and_eq_true, decide_eq_true_iff]
        constructor
        · rintro ⟨a, b, c⟩
          refine ⟨a, by omega, ⟨⟨by omega, by omega⟩, by omega, by omega⟩, by omega⟩
        · rintro ⟨a, b, ⟨⟨c, d⟩, e, g⟩, i⟩
          exact ⟨a, by omega, by omega⟩
      · rw [if_neg k3]
        constructor
        · rintro ⟨a, b, c⟩
          omega
        · rintro ⟨a, b, ⟨⟨c, d⟩, e⟩, g⟩
          cases e
theorem wField_any (s : Wq) (last : Nat) (f : F5) : ∃ s', ((CS.wr s).pField last f.fld).1 = .wr s' ∧ ((CS.wr s).pField last f.fld).2.name = f.n ∧ (s'.f = none → s.f = none) ∧ (s.fk → s'.fk) := by
  obtain ⟨n, k, t, v, u⟩ := f
  obtain ⟨s1, e1, h1, g1⟩ := wU8 s n_kind [wiN 1 last 5, unN (F5.fld ⟨n, k, t, v, u⟩).beside] k
  rw [pField_at (g := F5.fld ⟨n, k, t, v, u⟩) e1]
  split
  · obtain ⟨s2, e2, h2, g2⟩ := wStr s1 n_text 64 [fun v => szN 0 64 v.size] (F5.fld ⟨n, k, t, v, u⟩).text
    rw [e2]
    exact ⟨s2, rfl, rfl, fun h => (h1.1 (h2.1 h).1).1, fun h => g2 (g1 h)⟩
  split
  · obtain ⟨s2, e2, h2, g2⟩ := wF32 s1 n_value [] (F5.fld ⟨n, k, t, v, u⟩).value
    obtain ⟨s3, e3, h3, g3⟩ := wU8 s2 n_unit [wiN 1 21 4] (F5.fld ⟨n, k, t, v, u⟩).unit
    rw [e2]
    dsimp only
    rw [e3]
    exact ⟨s3, rfl, rfl, fun h => (h1.1 (h2.1 (h3.1 h).1).1).1, fun h => g3 (g2 (g1 h))⟩
  · exact ⟨s1, rfl, rfl, fun h => (h1.1 h).1, g1⟩
theorem sle_nil (v : ByteArray) : sleB v ⟨#[]⟩ = decide (v.size = 0) := by
  unfold sleB
  have h0 : (ByteArray.mk #[]).toList = [] := by rw [ltoList]; rfl
  rw [h0, show Op.bytesLess v.toList [] = false by cases v.toList <;> rfl]
  by_cases h : v.size = 0
  · rw [(ltoList v).2 h]; simp [h]
  · have := mt (ltoList v).1 h
    simp [h, this]
theorem sle_zero (v a : ByteArray) (h : v.size = 0) : sleB v a = true := by
  unfold sleB
  rw [(ltoList v).2 h]
  cases e : a.toList with
  | nil => rfl
  | cons x r => rfl
/-- A field with its name. -/
theorem wNamed (s : Wq) (a : ByteArray) (last : Nat) (f : F5) (hl : last = 2 ∨ last = 3 ∨ last = 0) : ∃ s', eachF last (.wr s, a) f.fld = ((.wr s', f.n), (eachF last (.wr s, a) f.fld).2) ∧ (s'.f = none ↔ s.f = none ∧ last ≠ 0 ∧ sleB f.n a = false ∧ fldB f = true ∧ (f.k ≠ 3 ∨ last = 3)) ∧ (s.fk → s'.fk) := by
  obtain ⟨s1, e1, h1, g1⟩ := wStr s n_name 64 [fun v => szN 1 64 v.size, abN a] f.n
  have e1' : (CS.wr s).pStr n_name 64 [fun v => szN 1 64 v.size, abN a] f.fld.name = (.wr s1, f.n) := e1
  rw [fb2, szN_0] at h1
  have hab : abN a f.n = 0 ↔ sleB f.n a = false := by
    have e : sle f.n a = sleB f.n a := rfl
    unfold abN
    rw [e]
    cases sleB f.n a <;> simp
  rw [hab] at h1
  have hN : eachF last (.wr s, a) f.fld = ((((CS.wr s1).pField last f.fld).1, ((CS.wr s1).pField last f.fld).2.name), (eachF last (.wr s, a) f.fld).2) := by
    unfold eachF CS.pNamed
    dsimp only
    rw [e1']
    rfl
  by_cases hn : f.n.size ≤ 64
  · obtain ⟨s2, e2, e3, h2, g2⟩ := wField s1 last f hl hn
    rw [e2, e3] at hN
    refine ⟨s2, hN, ?_, fun h => g2 (g1 h)⟩
    rw [h2, h1]
    constructor
    · rintro ⟨⟨b, ⟨c, d⟩, e⟩, g⟩
      exact ⟨b, g.1, d, g.2⟩
    · rintro ⟨b, c, d, e⟩
      have h0 : ¬ f.n.size = 0 := fun h => by rw [sle_zero _ _ h] at d; cases d
      exact ⟨⟨b, ⟨by omega, d⟩, by omega⟩, c, e⟩
  · have hs1 : s1.f ≠ none := fun h => by have := (h1.1 h).2.2; omega
    obtain ⟨s2, e2, e3, h2, g2⟩ := wField_any s1 last f
    rw [e2, e3] at hN
    refine ⟨s2, hN, ⟨fun h => absurd (h2 h) hs1, fun h => ?_⟩, fun h => g2 (g1 h)⟩
    have hF := h.2.2.2.1
    simp only [fldB, Bool.and_eq_true, decide_eq_true_iff] at hF
    omega
theorem wList (last : Nat) (hl : last = 2 ∨ last = 3 ∨ last = 0) : ∀ (l : List F5) (s : Wq) (a : ByteArray), ∃ s', (lpW (eachF last) (.wr s, a) (l.map F5.fld)).1 = .wr s' ∧ (s'.f = none ↔ s.f = none ∧ (l ≠ [] → last ≠ 0) ∧ risB (decide (last = 3)) a l = true) ∧ (s.fk → s'.fk)
  | [], s, a => ⟨s, rfl, by simp [risB], fun h => h⟩
  | f :: r, s, a => by
    obtain ⟨s1, e1, h1, g1⟩ := wNamed s a last f hl
    obtain ⟨s2, e2, h2, g2⟩ := wList last hl r s1 f.n
    refine ⟨s2, ?_, ?_, fun h => g2 (g1 h)⟩
    · rw [List.map_cons]
      unfold lpW
      rw [e1]
      exact e2
    · rw [h2, h1]
      simp only [risB, Bool.and_eq_true, Bool.or_eq_true, Bool.not_eq_true', decide_eq_true_iff, ne_eq, reduceCtorEq, not_false_iff, true_implies]
      constructor
      · rintro ⟨⟨b, c, d, e, g⟩, _, i⟩
        exact ⟨b, c, ⟨⟨d, e⟩, g⟩, i⟩
      · rintro ⟨b, c, ⟨⟨d, e⟩, g⟩, i⟩
        exact ⟨⟨b, c, d, e, g⟩, fun _ => c, i⟩
/-- Fields. -/
theorem wFields (s : Wq) (last : Nat) (M : Int) (l : List F5) (hl : last = 2 ∧ M = 32 ∨ last = 3 ∧ M = 32 ∨ last = 0 ∧ M = 0) : ∃ s', ((CS.wr s).pFields last [wiI 0 M 4] (l.map F5.fld)).1 = .wr s' ∧ (s'.f = none ↔ s.f = none ∧ (if last = 0 then l.length = 0 else fdsB l (decide (last = 3)) = true)) ∧ (s.fk → s'.fk) := by
  obtain ⟨s1, e1, h1, g1⟩ := wInt s n_fields 32 (lrs 32 [wiI 0 M 4]) (l.map F5.fld).length
  unfold lrs at h1
  rw [fb2, wiI_0 (by decide), wiI_0 (by decide), List.length_map] at h1
  have hT : (l.map F5.fld).take (min (l.map F5.fld).length 32) = (l.take 32).map F5.fld := by
    rw [List.length_map, ← List.map_take]
    by_cases h : l.length ≤ 32
    · rw [Nat.min_eq_left h, List.take_length, List.take_of_length_le h]
    · rw [Nat.min_eq_right (by omega)]
  obtain ⟨s2, e2, h2, g2⟩ := wList last (by omega) (l.take 32) s1 ⟨#[]⟩
  refine ⟨s2, ?_, ?_, fun h => g2 (g1 h)⟩
  · show (lpW (eachF last) (((CS.wr s).pInt n_fields 32 (lrs 32 [wiI 0 M 4]) (l.map F5.fld).length).1, ⟨#[]⟩) ((l.map F5.fld).take (min (l.map F5.fld).length 32))).1 = _
    rw [e1, hT]
    exact e2
  · rw [h2, h1]
    by_cases h32 : l.length ≤ 32
    · rw [List.take_of_length_le h32]
      by_cases h0 : last = 0
      · rw [if_pos h0]
        constructor
        · rintro ⟨⟨b, c, d⟩, e, g⟩
          exact ⟨b, by omega⟩
        · rintro ⟨b, c⟩
          obtain rfl := List.length_eq_zero_iff.1 c
          exact ⟨⟨b, ⟨⟨by simp, by simp⟩, by simp, by simp; omega⟩, by simp, by simp⟩, by simp, by simp [risB]⟩
      · rw [if_neg h0]
        unfold fdsB
        rw [Bool.and_eq_true, decide_eq_true_iff]
        constructor
        · rintro ⟨⟨b, c, d⟩, e, g⟩
          exact ⟨b, h32, g⟩
        · rintro ⟨b, c, d⟩
          exact ⟨⟨b, ⟨by omega, by omega⟩, by omega, by omega⟩, fun _ => h0, d⟩
    · constructor
      · rintro ⟨⟨b, c, d⟩, e, g⟩
        omega
      · rintro ⟨b, c⟩
        split at c
        · omega
        · unfold fdsB at c
          rw [Bool.and_eq_true, decide_eq_true_iff] at c
          omega
/-- Has a request a form? -/
def frmP (op rc ve wa ow z : Nat) (l : List F5) : Bool :=
  if op = 1 then decide (rc = 0 ∧ ve = 0 ∧ z = 0) && fdsB l false
  else if op = 2 then decide (wa = 0 ∧ ow = 0 ∧ z = 0) && fdsB l true
  else if op = 3 then decide (wa = 0 ∧ ow = 0 ∧ l.length = 0 ∧ z = 0)
  else if op = 4 then decide (wa = 0 ∧ ow = 0 ∧ l.length = 0 ∧ z = 0)
  else if op = 5 then decide (ve = 0 ∧ wa = 0 ∧ ow = 0 ∧ l.length = 0 ∧ z = 0)
  else if op = 6 then decide (wa = 0 ∧ ow = 0 ∧ l.length = 0 ∧ z = 0 ∧ ve ≤ 1)
  else if op = 7 then decide (ve = 0 ∧ wa = 0 ∧ ow = 0 ∧ l.length = 0 ∧ z ≤ 64)
  else false
theorem frm_eq (r : RQ) (l : List F5) : r.frm l = frmP r.op r.rc r.ve r.wa r.ow r.rs.size l := rfl
theorem wRequest (cl nu ac op rc ve wa ow : Nat) (F : List F5) (rs : ByteArray) (h4 : rc < 4294967296 ∧ ve < 4294967296 ∧ wa < 4294967296 ∧ ow < 4294967296) : ((requestW ⟨cl, nu, ac, op, rc, ve, wa, ow, F.map F5.fld, rs⟩).f = none ↔ frmP op rc ve wa ow rs.size F = true) ∧ (requestW ⟨cl, nu, ac, op, rc, ve, wa, ow, F.map F5.fld, rs⟩).fk := by
  obtain ⟨s1, e1, h1, g1⟩ := wU8 ⟨ByteArray.empty, [], none⟩ n_form [wiN 1 1 5] 1
  obtain ⟨s2, e2, h2, g2⟩ := wU32 s1 n_client [] cl
  obtain ⟨s3, e3, h3, g3⟩ := wU32 s2 n_number [] nu
  obtain ⟨s4, e4, h4', g4⟩ := wU32 s3 n_actor [] ac
  obtain ⟨s5, e5, h5, g5⟩ := wU8 s4 n_op [wiN 1 7 5] op
  obtain ⟨s6, e6, h6, g6⟩ := wU32 s5 n_record [wiN 0 (lims op).1 4] rc
  obtain ⟨s7, e7, h7, g7⟩ := wU32 s6 n_version [wiN 0 (lims op).2.1 4] ve
  obtain ⟨s8, e8, h8, g8⟩ := wU32 s7 n_ward [wiN 0 (lims op).2.2.1 4] wa
  obtain ⟨s9, e9, h9, g9⟩ := wU32 s8 n_owner [wiN 0 (lims op).2.2.2.1 4] ow
  have hlm : (lims op).2.2.2.2.2.2 = 2 ∧ (lims op).2.2.2.2.1 = 32 ∨ (lims op).2.2.2.2.2.2 = 3 ∧ (lims op).2.2.2.2.1 = 32 ∨ (lims op).2.2.2.2.2.2 = 0 ∧ (lims op).2.2.2.2.1 = 0 := by
    unfold lims
    repeat' split
    all_goals simp
  obtain ⟨s10, e10, h10, g10⟩ := wFields s9 (lims op).2.2.2.2.2.2 (lims op).2.2.2.2.1 F hlm
  obtain ⟨s11, e11, h11, g11⟩ := wStr s10 n_reason 64 [fun v => szN 0 64 v.size, rsN (lims op).2.2.2.2.2.1] rs
  have q1 : ∀ V : RqM, V = ⟨cl, nu, ac, op, rc, ve, wa, ow, F.map F5.fld, rs⟩ → (cw0.pForm 1).q1 V = (.wr s3, cl, nu) := fun V hV => by
    subst hV
    have eF : cw0.pForm 1 = .wr s1 := by show ((CS.wr _).pU8 n_form [wiN 1 1 5] 1).1 = _; rw [e1]
    unfold CS.q1 CS.pId
    dsimp only
    rw [eF, e2]
    dsimp only
    rw [e3]
  have q2 : ∀ V : RqM, V = ⟨cl, nu, ac, op, rc, ve, wa, ow, F.map F5.fld, rs⟩ → (cw0.pForm 1).q2 V = (.wr s4, ac) := fun V hV => by
    unfold CS.q2; rw [q1 V hV]; subst hV; exact e4
  have q3 : ∀ V : RqM, V = ⟨cl, nu, ac, op, rc, ve, wa, ow, F.map F5.fld, rs⟩ → (cw0.pForm 1).q3 V = (.wr s5, op) := fun V hV => by
    unfold CS.q3; rw [q2 V hV]; subst hV; exact e5
  have q4 : ∀ V : RqM, V = ⟨cl, nu, ac, op, rc, ve, wa, ow, F.map F5.fld, rs⟩ → (cw0.pForm 1).q4 V = (.wr s6, rc) := fun V hV => by
    unfold CS.q4; rw [q3 V hV]; subst hV; exact e6
  have q5 : ∀ V : RqM, V = ⟨cl, nu, ac, op, rc, ve, wa, ow, F.map F5.fld, rs⟩ → (cw0.pForm 1).q5 V = (.wr s7, ve) := fun V hV => by
    unfold CS.q5; rw [q4 V hV, q3 V hV]; subst hV; exact e7
  have q6 : ∀ V : RqM, V = ⟨cl, nu, ac, op, rc, ve, wa, ow, F.map F5.fld, rs⟩ → (cw0.pForm 1).q6 V = (.wr s8, wa) := fun V hV => by
    unfold CS.q6; rw [q5 V hV, q3 V hV]; subst hV; exact e8
  have q7 : ∀ V : RqM, V = ⟨cl, nu, ac, op, rc, ve, wa, ow, F.map F5.fld, rs⟩ → (cw0.pForm 1).q7 V = (.wr s9, ow) := fun V hV => by
    unfold CS.q7; rw [q6 V hV, q3 V hV]; subst hV; exact e9
  have q8 : ∀ V : RqM, V = ⟨cl, nu, ac, op, rc, ve, wa, ow, F.map F5.fld, rs⟩ → ((cw0.pForm 1).q8 V).1 = .wr s10 := fun V hV => by
    unfold CS.q8; rw [q7 V hV, q3 V hV]; subst hV; exact e10
  have q9 : ∀ V : RqM, V = ⟨cl, nu, ac, op, rc, ve, wa, ow, F.map F5.fld, rs⟩ → (cw0.pForm 1).q9 V = (.wr s11, rs) := fun V hV => by
    unfold CS.q9; rw [q8 V hV, q3 V hV]; subst hV; exact e11
  have hW : requestW ⟨cl, nu, ac, op, rc, ve, wa, ow, F.map F5.fld, rs⟩ = s11 := by
    unfold requestW CS.pRequest
    dsimp only
    rw [q9 _ rfl]
    rfl
  rw [hW]
  refine ⟨?_, g11 (g10 (g9 (g8 (g7 (g6 (g5 (g4 (g3 (g2 (g1 (fun x h => by cases h)))))))))))⟩
  rw [h11, h10, h9, h8, h7, h6, h5, h4', h3, h2, h1, fb2, szN_0]
  clear g1 g2 g3 g4 g5 g6 g7 g8 g9 g10 g11 hW q9 q8 q7 q6 q5 q4 q3 q2 q1 e1 e2 e3 e4 e5 e6 e7 e8 e9 e10 e11 h11 h10 h9 h8 h7 h6 h5 h4' h3 h2 h1
  have e0 : ∀ {α : Type} (v : α), fb [] v = 0 := fun _ => rfl
  simp only [fb1, e0, wiN_0 (show (4 : Nat) ≠ 0 by decide), wiN_0 (show (5 : Nat) ≠ 0 by decide), rsN, wiI_0 (show (4 : Nat) ≠ 0 by decide), and_true, true_and]
  rcases (by omega : op = 1 ∨ op = 2 ∨ op = 3 ∨ op = 4 ∨ op = 5 ∨ op = 6 ∨ op = 7 ∨ (op = 0 ∨ 7 < op)) with rfl | rfl | rfl | rfl | rfl | rfl | rfl | hno
  all_goals try simp only [lims, frmP, if_true, if_false, show ¬ (2 : Nat) = 1 by decide, show ¬ (3 : Nat) = 1 by decide, show ¬ (3 : Nat) = 2 by decide, show ¬ (4 : Nat) = 1 by decide, show ¬ (4 : Nat) = 2 by decide, show ¬ (4 : Nat) = 3 by decide, show ¬ (5 : Nat) = 1 by decide, show ¬ (5 : Nat) = 2 by decide, show ¬ (5 : Nat) = 3 by decide, show ¬ (5 : Nat) = 4 by decide, show ¬ (6 : Nat) = 1 by decide, show ¬ (6 : Nat) = 2 by decide, show ¬ (6 : Nat) = 3 by decide, show ¬ (6 : Nat) = 4 by decide, show ¬ (6 : Nat) = 5 by decide, show ¬ (7 : Nat) = 1 by decide, show ¬ (7 : Nat) = 2 by decide, show ¬ (7 : Nat) = 3 by decide, show ¬ (7 : Nat) = 4 by decide, show ¬ (7 : Nat) = 5 by decide, show ¬ (7 : Nat) = 6 by decide, show ¬ (2 : Nat) = 0 by decide, show ¬ (3 : Nat) = 0 by decide, show ¬ (2 : Nat) = 3 by decide, decide_true, decide_false, or_self, or_true, true_or, Bool.and_eq_true, decide_eq_true_iff]
  · constructor
    · rintro ⟨⟨⟨⟨⟨⟨a, b⟩, c⟩, d⟩, e⟩, f⟩, g, h⟩
      exact ⟨by omega, f⟩
    · rintro ⟨a, b⟩
      exact ⟨⟨⟨⟨⟨⟨by omega, by omega⟩, by omega⟩, by omega⟩, by omega⟩, b⟩, by omega, by omega⟩
  · constructor
    · rintro ⟨⟨⟨⟨⟨⟨a, b⟩, c⟩, d⟩, e⟩, f⟩, g, h⟩
      exact ⟨by omega, f⟩
    · rintro ⟨a, b⟩
      exact ⟨⟨⟨⟨⟨⟨by omega, by omega⟩, by omega⟩, by omega⟩, by omega⟩, b⟩, by omega, by omega⟩
  · omega
  · omega
  · omega
  · omega
  · omega
  · simp only [frmP, show ¬ op = 1 by omega, show ¬ op = 2 by omega, show ¬ op = 3 by omega, show ¬ op = 4 by omega, show ¬ op = 5 by omega, show ¬ op = 6 by omega, show ¬ op = 7 by omega, if_false]
    constructor
    · rintro ⟨⟨⟨⟨⟨⟨a, b⟩, c⟩, d⟩, e⟩, f⟩, g, h⟩
      omega
    · intro h
      cases h
end Go.Proofs.YtjkkonhhnmjcaaaGreatDoor

namespace Go.Proofs.YtjkkonhhnmjcaaaGreatDoor
open Go.RowKit Go.ChangeShapes Go.WideShapes Go.Maps

theorem Tryz.laidOutS : laidOutB Tryz.prog = true := by kernel_rfl
theorem Tryz.rowId : (24 : TypeId) < Tryz.prog.types.size := of_decide_eq_true (by kernel_rfl)
theorem wide_of {P : Program} {t : TypeId} {fs : Array Field} (h : P.underlying t = some (.struct fs)) : (match P.underlying t with | some (.array _ _) | some (.struct _) => true | _ => false) = true := by rw [h]
set_option maxRecDepth 100000 in
/-- Ids as keys. -/
theorem idK : Keyed Tryz.prog 24 := Keyed.of_law (deep_law_laid Tryz.laidOutS (m := 3) (by omega) Tryz.rowId (by kernel_rfl) (wide_of Tryz.underlying24))
/-- An id. -/
def idv (c k : Nat) : Value := .agg #[.int .u32 (c : Nat), .int .u32 (k : Nat)]
def kid (c k : Nat) : Lit := .string (keyBytes [.int .u32 (c : Nat), .int .u32 (k : Nat)])
theorem kid_key (c k : Nat) : WideAt.IsKeyLit (kid c k) := trivial
theorem Tryz.keyTypeId : Tryz.prog.keyType 24 = true := by kernel_rfl
theorem pos_succ {m n : Nat} (h : m < n) : ∃ k, n = k + 1 := ⟨n - 1, by omega⟩
theorem Tryz.typesN : ∃ n, Tryz.prog.types.size = n + 1 := pos_succ Tryz.rowId
theorem Tryz.cellsId : Tryz.prog.cellsOf 24 = 2 := by kernel_rfl
theorem Tryz.cellsU : Tryz.prog.cellsOf 22 = 1 := by kernel_rfl
theorem wf32 (c : Nat) : (Lit.int .u32 (c : Nat)).wf = decide (c < 4294967296) := by
  have h1 : IntKind.u32.min = 0 := by decide
  have h2 : IntKind.u32.max = 4294967295 := by decide
  simp only [Lit.wf, h1, h2]
  by_cases h : c < 4294967296
  · simp [h]; omega
  · simp [h]; omega
theorem key_id (c k : Nat) (hc : c < 4294967296) (hk : k < 4294967296) : keyOf Tryz.prog 24 (idv c k) = some (kid c k) := by
  obtain ⟨n, hn⟩ := Tryz.typesN
  unfold keyOf
  rw [Tryz.underlying24, Tryz.keyTypeId, hn]
  have hf : (idv c k).formed Tryz.prog 24 = true := by simp [idv, Value.formed, Tryz.underlying24, Tryz.cellsId]
  rw [hf]
  simp [idv, Value.cells, Program.keyLits, Tryz.underlying24, Tryz.underlying22, Tryz.cellsId, Tryz.cellsU, wf32, hc, hk, kid]
theorem kid_inj {c k c' k' : Nat} (hc : c < 4294967296) (hk : k < 4294967296) (hc' : c' < 4294967296) (hk' : k' < 4294967296) (h : kid c k = kid c' k') : c = c' ∧ k = k' := by
  have h2 := key_id c' k' hc' hk'
  rw [← h] at h2
  have := idK.inj (key_id c k hc hk) h2
  simp only [idv, Value.agg.injEq] at this
  have e1 := congrArg (fun a : Array Value => a[0]?) this
  have e2 := congrArg (fun a : Array Value => a[1]?) this
  simp at e1 e2
  omega
theorem keyU {n : Nat} {v : Value} {l : List Lit} (h : Tryz.prog.keyLits (n + 1) 22 [v] = some l) : ∃ x : Nat, v = .int .u32 (x : Nat) ∧ l = [.int .u32 (x : Nat)] ∧ x < 4294967296 := by
  have h1 : IntKind.u32.min = 0 := by decide
  have h2 : IntKind.u32.max = 4294967295 := by decide
  cases v <;> simp only [Program.keyLits, Tryz.underlying22, reduceCtorEq] at h
  rename_i q x
  split at h
  · rename_i hc
    obtain ⟨rfl, w1⟩ := hc
    cases h
    simp only [Lit.wf, h1, h2, Bool.and_eq_true, decide_eq_true_eq] at w1
    exact ⟨x.toNat, by rw [Int.toNat_of_nonneg w1.1], by rw [Int.toNat_of_nonneg w1.1], by omega⟩
  · cases h
set_option linter.unusedSimpArgs false in
theorem keyTwo (n : Nat) (a b : Value) : Tryz.prog.keyLits (n + 1) 24 [a, b] = (Tryz.prog.keyLits n 22 [a]).bind fun x => (Tryz.prog.keyLits n 22 [b]).bind fun y => some (x ++ y) := by
  conv => lhs; unfold Program.keyLits
  rw [Tryz.underlying24]
  simp only [Tryz.cellsId]
  cases h1 : Tryz.prog.keyLits n 22 [a] <;> cases h2 : Tryz.prog.keyLits n 22 [b] <;> simp [h1, h2, Tryz.cellsU]
theorem pos_succ2 {m n : Nat} (h : m < n) (hm : 1 ≤ m) : ∃ k, n = k + 2 := ⟨n - 2, by omega⟩
theorem Tryz.typesN2 : ∃ n, Tryz.prog.types.size = n + 2 := pos_succ2 Tryz.rowId (by decide)
set_option maxRecDepth 100000 in
theorem keyOf_id {key : Value} {kl : Lit} (h : keyOf Tryz.prog 24 key = some kl) : ∃ c k, key = idv c k ∧ kl = kid c k ∧ c < 4294967296 ∧ k < 4294967296 := by
  obtain ⟨n, hn⟩ := Tryz.typesN2
  unfold keyOf at h
  rw [Tryz.underlying24, Tryz.keyTypeId, hn] at h
  simp only [Bool.true_and] at h
  split at h
  · rename_i hf
    cases key <;> simp [Value.formed, Tryz.underlying24] at hf
    rename_i cs
    rw [Tryz.cellsId] at hf
    obtain ⟨a, b, rfl⟩ : ∃ a b, cs = #[a, b] := by
      obtain ⟨l⟩ := cs
      match l, hf with
      | [a, b], _ => exact ⟨a, b, rfl⟩
    have e : (Value.agg #[a, b]).cells.toList = [a, b] := rfl
    rw [e, keyTwo] at h
    cases h1 : Tryz.prog.keyLits (n + 2) 22 [a] with
    | none => rw [h1] at h; cases h
    | some la =>
      cases h2 : Tryz.prog.keyLits (n + 2) 22 [b] with
      | none => rw [h1, h2] at h; cases h
      | some lb =>
        rw [h1, h2] at h
        obtain ⟨x, rfl, rfl, hx⟩ := keyU h1
        obtain ⟨y, rfl, rfl, hy⟩ := keyU h2
        cases h
        exact ⟨x, y, rfl, rfl, hx, hy⟩
  · cases h
/-- A map's element reads as itself. -/
def RU (v : Value) : Option (DataW Value × List MemPlace) := some (.held v, [])
end Go.Proofs.YtjkkonhhnmjcaaaGreatDoor

namespace Go.Proofs.YtjkkonhhnmjcaaaGreatDoor
open Go.RowKit Go.Maps Go.Sort Go.Shelf

/-- An id as a pair of numbers. -/
def encI (p : Nat × Nat) : Value := idv p.1 p.2
theorem encI_inj {p q : Nat × Nat} (h : encI p = encI q) : p = q := by
  simp only [encI, idv, Value.agg.injEq] at h
  have e1 := congrArg (fun a : Array Value => a[0]?) h
  have e2 := congrArg (fun a : Array Value => a[1]?) h
  simp at e1 e2
  obtain ⟨a, b⟩ := p
  obtain ⟨c, d⟩ := q
  simp at e1 e2 ⊢
  omega
/-- Ids that have come out of a map, none twice, all that are not still to come. -/
structure ColI (D : DataW Value) (left : Lit → Bool) (ss : List (Nat × Nat)) : Prop where
  nd : ss.Nodup
  lt : ∀ p ∈ ss, p.1 < 4294967296 ∧ p.2 < 4294967296
  mem : ∀ c k, c < 4294967296 → k < 4294967296 → ((c, k) ∈ ss ↔ (has D (kid c k) = true ∧ left (kid c k) = false))
theorem ColI.start (D : DataW Value) : ColI D (has D) [] := ⟨List.nodup_nil, fun p h => by simp at h, fun c k _ _ => by cases has D (kid c k) <;> simp⟩
theorem ColI.step {D : DataW Value} {left : Lit → Bool} {ss : List (Nat × Nat)} (h : ColI D left ss) {c k : Nat} (hc : c < 4294967296) (hk : k < 4294967296) {y : DataW Value} (hl : left (kid c k) = true) (hat : ∀ z, D.atKey (kid c k) z = y) :
    ColI D (fun z => left z && !z.sameKey (kid c k)) (ss ++ [(c, k)]) := by
  have hh : has D (kid c k) = true := has_true_of_atKey hat
  have hnew : (c, k) ∉ ss := fun hx => by have := ((h.mem c k hc hk).1 hx).2; rw [hl] at this; cases this
  refine ⟨?_, fun p hp => ?_, fun a b ha hb => ?_⟩
  · rw [List.nodup_append]
    exact ⟨h.nd, by simp, fun p hp q hq e => by simp at hq; subst hq; subst e; exact hnew hp⟩
  · rcases List.mem_append.1 hp with hp | hp
    · exact h.lt p hp
    · simp at hp; subst hp; exact ⟨hc, hk⟩
  · rw [List.mem_append, h.mem a b ha hb]
    by_cases e : a = c ∧ b = k
    · obtain ⟨rfl, rfl⟩ := e
      have : (kid a b).sameKey (kid a b) = true := by simp [kid, Lit.sameKey]
      simp [hh, this]
    · have hne : kid a b ≠ kid c k := fun e2 => e (kid_inj ha hb hc hk e2)
      have hs : (kid a b).sameKey (kid c k) = false := sameKey_ne hne
      have : (a, b) ∉ [(c, k)] := by simpa using e
      simp only [this, or_false, hs, Bool.not_false, Bool.and_true]
/-- All ids of a map. -/
structure AllI (D : DataW Value) (ss : List (Nat × Nat)) : Prop where
  nd : ss.Nodup
  lt : ∀ p ∈ ss, p.1 < 4294967296 ∧ p.2 < 4294967296
  mem : ∀ c k, c < 4294967296 → k < 4294967296 → ((c, k) ∈ ss ↔ has D (kid c k) = true)
theorem ColI.all {D : DataW Value} {left : Lit → Bool} {ss : List (Nat × Nat)} (h : ColI D left ss) (hl : ∀ z, left z = false) : AllI D ss :=
  ⟨h.nd, h.lt, fun c k hc hk => by rw [h.mem c k hc hk]; simp [hl]⟩
set_option maxRecDepth 100000 in
set_option maxHeartbeats 2000000 in
/-- The iterator of maps.Keys. -/
theorem keysI1 (F : Fence) (hF : ∀ f, F.fn f) (hro : F.round = none) (n : Nat) (hn : 1 ≤ n) (l Bm b nn : Nat) (D : DataW Value) (J : List (Nat × Nat) → World → Prop)
    (hY : ∀ pre x W, J pre W → pre.length < Maps.size D → YieldAt F (n - 1) Tryz.prog l #[encI x] W fun e W' => e = .returned (.bool true) ∧ J (pre ++ [x]) W' ∧ KeepsWalks W W')
    (W : World) (hJ : AbidesFrom W.heap.size J) (hm : W.cell? ⟨Bm, 0, none⟩ = some (.map (some b))) (hown : W.ownsMap Tryz.prog 24 RU b nn D) (h0 : J [] W) :
    CallsIn F n Tryz.prog 48 #[.func (.yield l) #[] #[], .pointer (some ⟨Bm, 0, none⟩)] W fun e W' => (∃ v, e = .returned v) ∧ ∃ ss, AllI D ss ∧ J ss W' := by
  refine callsIn_of_wp Tryz.func48 rfl (hF _) ?_ hro
  simp only [Tryz.ntmps48, List.size_toArray, List.length_cons, List.length_nil, Nat.reduceAdd, Nat.reduceSub, Array.replicate_succ, Array.replicate_zero, List.push_toArray, List.append_toArray, List.nil_append, List.cons_append]
  gi_wp2_with (first
    | (gi_at_range; refine wpListIn_range_own _ rfl _ 56 rfl 24 62 idK Tryz.underlying56 _ b nn _ rfl hown ?_; intro w0 hrg0 hg0 hs0)
    | gi_in)
  go_frame
  gi_loopw [3] (fun _ wr => ∃ (left : Lit → Bool) (cnt : Nat) (ss : List (Nat × Nat)), wr.ranges Tryz.prog 24 RU b W.heap.size nn D left cnt ∧ ss.length + cnt ≤ Maps.size D ∧ ColI D left ss ∧ J ss wr)
    (fun _ wr => wr.rangeLeft b W.heap.size)
  case atStart =>
    exact ⟨_, _, [], hrg0, by simp, ColI.start D, hJ [] W w0 none h0 hg0 (fun r e => by cases e)⟩
  case round =>
    obtain ⟨left, cnt, ss, hrg, hcs, hC, hJs⟩ := hrel
    gi_wp2_with (first
      | (gi_at_next; refine wpListIn_next_ranges _ rfl _ rfl 24 idK RU encI id (fun key kl hk => by obtain ⟨c, k, hx, _⟩ := keyOf_id hk; exact ⟨(c, k), hx⟩) (fun v _ _ => ⟨v, rfl⟩) b W.heap.size nn _ _ _ rfl hrg ?_ ?_)
      | gi_in)
    · intro hc0 hl0
      gi_wp2
      go_end0
      exact ⟨⟨_, rfl⟩, ss, hC.all hl0, hJs⟩
    · intro x1 x2 v0 kl yd yp w2 cnt2 hkey hlk hv hat hrg2 hlt hg2 hs2 hen
      obtain ⟨c', k', ex, rfl, hc', hk'⟩ := keyOf_id hkey
      obtain ⟨rfl, rfl⟩ : x1 = c' ∧ x2 = k' := by have := encI_inj (p := (x1, x2)) (q := (c', k')) ex; simpa using this
      have hJ2 : J ss w2 := hJ ss wr w2 (some W.heap.size) hJs hg2 (fun r e => by cases e; exact ⟨Nat.le_refl _, hrg.iter_walk⟩)
      have hJ3 : J ss (w2.alloc (.cells #[.int .u32 (x1 : Nat), .int .u32 (x2 : Nat)] 24)) := hJ ss w2 _ none hJ2 (World.grownBy_alloc w2 _ none) (fun r e => by cases e)
      have hrg3 := hrg2.of_walks (KeepsWalks.alloc w2 (.cells #[.int .u32 (x1 : Nat), .int .u32 (x2 : Nat)] 24))
      obtain ⟨fn, tmps, assign, body, hy, hR⟩ := hY ss (x1, x2) _ hJ3 (by omega)
      simp only [encI, idv] at hen hy
      clear hs2 ex hkey hv
      simp only [encI, idv]
      gi_wp2
      refine hR.mono ?_
      rintro e W3 ⟨rfl, hJ4, hk4⟩
      gi_wp2
      have hrg4 := hrg3.of_walks hk4
      go_roundw
      case rel => exact ⟨_, cnt2, ss ++ [(x1, x2)], hrg4, by simp; omega, hC.step hc' hk' hlk hat, hJ4⟩
      case measure => rw [hrg4.left_eq, hrg.left_eq]; exact hlt
end Go.Proofs.YtjkkonhhnmjcaaaGreatDoor

namespace Go.Proofs.YtjkkonhhnmjcaaaGreatDoor
open Go.RowKit Go.Maps Go.Sort Go.Shelf

set_option maxRecDepth 100000 in
set_option maxHeartbeats 1000000 in
/-- maps.Keys. -/
theorem keysI (F : Fence) (hF : ∀ f, F.fn f) (hro : F.round = none) (n : Nat) (mb : Option Nat) (w : World) :
    CallsIn F n Tryz.prog 29 #[.map mb] w fun e w' => e = .returned (.func (.func 48) #[] #[.pointer (some ⟨w.heap.size, 0, none⟩)]) ∧ w' = w.alloc (.cells #[.map mb] 56) := by
  refine callsIn_of_wp Tryz.func29 rfl (hF _) ?_ hro
  simp only [Tryz.ntmps29, List.size_toArray, List.length_cons, List.length_nil, Nat.reduceAdd, Nat.reduceSub, Array.replicate_succ, Array.replicate_zero, List.push_toArray, List.append_toArray, List.nil_append, List.cons_append]
  gi_wp2
  go_ret
  exact ⟨rfl, rfl⟩
theorem keysI_gives (F : Fence) (hF : ∀ f, F.fn f) (hro : F.round = none) (n : Nat) (hn : 1 ≤ n) (Bm b nn : Nat) (D : DataW Value) (w : World) (hBm : Bm < w.heap.size) (hm : w.cell? ⟨Bm, 0, none⟩ = some (.map (some b))) (hown : w.ownsMap Tryz.prog 24 RU b nn D) :
    SeqGives F n Tryz.prog 48 #[.pointer (some ⟨Bm, 0, none⟩)] encI (AllI D) (Maps.size D) w := fun l J W hW hJ hY h0 => by
  have hown' : W.ownsMap Tryz.prog 24 RU b nn D := by
    have hbl := hown.lt
    obtain ⟨es, clock, hb, Ft, hs, hD⟩ := hown
    exact ⟨es, clock, (hW.block b hbl).trans hb, Ft, hs, hD⟩
  exact keysI1 F hF hro n hn l Bm b nn D J hY W hJ ((hW.cell (p := ⟨Bm, 0, none⟩) hBm).trans hm) hown' h0
/-- The cells of ids. -/
def icells (l : List (Nat × Nat)) : List Value := l.flatMap fun p => [.int .u32 (p.1 : Nat), .int .u32 (p.2 : Nat)]
theorem icells_app (l : List (Nat × Nat)) (p : Nat × Nat) : icells (l ++ [p]) = icells l ++ [.int .u32 (p.1 : Nat), .int .u32 (p.2 : Nat)] := by simp [icells]
/-- Ids of one's own. -/
def OwI (w : World) (base : Nat) (v : Value) (l : List (Nat × Nat)) : Prop := w.ownsRow base 24 2 v l.length (icells l)
theorem Tryz.infoId : (Tryz.prog.info? 24).map (fun i => (i.zero, i.size, i.bytes)) = some (some (.agg #[.int .u32 0, .int .u32 0]), 2, 8) := by kernel_rfl
/-- The round's two pieces, as the program has them. -/
def apAssign : Code := (Code.region 2 #[{ dst := some 5, op := Op.alloc 24, type := 0, pos := "iter.go:51", after := #[], guard := none }, { dst := none, op := Op.store 24 (Operand.tmp 5) (Operand.tmp 7), type := 0, pos := "iter.go:51", after := #[{ on := 0, ground := Ground.data }, { on := 0, ground := Ground.phase }], guard := none }] false)
def apBody : Code := (Code.block 1 (Code.region 3 #[{ dst := some 8, op := Op.load 54 (Operand.tmp 2), type := 54, pos := "iter.go:52", after := #[], guard := none }, { dst := some 9, op := Op.load 24 (Operand.tmp 5), type := 24, pos := "iter.go:52", after := #[], guard := none }, { dst := some 10, op := Op.buildSlice 54 1 #[(0, Operand.tmp 9)], type := 54, pos := "iter.go:52", after := #[{ on := 1, ground := Ground.data }], guard := none }, { dst := some 11, op := Op.call { callee := Callee.builtin Builtin.append, args := #[Operand.tmp 8, Operand.tmp 10], argTypes := #[54, 54] }, type := 54, pos := "iter.go:52", after := #[{ on := 0, ground := Ground.data }, { on := 2, ground := Ground.data }], guard := none }, { dst := none, op := Op.store 54 (Operand.tmp 2) (Operand.tmp 11), type := 0, pos := "iter.go:52", after := #[{ on := 3, ground := Ground.data }, { on := 3, ground := Ground.chain }, { on := 0, ground := Ground.phase }, { on := 1, ground := Ground.phase }, { on := 2, ground := Ground.phase }, { on := 3, ground := Ground.phase }], guard := none }] false))
/-- The loop's record: AppendSeq's slots as they stood at its start. -/
def apRec (fn : FuncId) (sv : Value) (Bs D : Nat) (st : LoopState) (pend : Option Code) : Loop :=
  { state := st, pending := pend, fn, tmps := #[.slice none 0 0, sv, .pointer (some ⟨Bs, 0, none⟩), undef, .slice none 0 0, undef, sv, undef, undef, undef, undef, undef, undef], params := #[7], assign := apAssign, body := apBody, defers := D }
/-- Between two rounds. -/
structure ApI (w0 : World) (fn : FuncId) (sv : Value) (Bs l D : Nat) (ss : List (Nat × Nat)) (W : World) : Prop where
  box : ∃ v, W.heap[Bs]? = some (.cells #[v] 54 (0, 0)) ∧ OwI W w0.heap.size v ss
  L : W.heap[l]? = some (.loop (apRec fn sv Bs D .ready none))
  K : W.heap[D]? = some (.deferred (some []))
  below : Below w0.heap.size w0 W
theorem apI_abides (w0 : World) (fn : FuncId) (sv : Value) (Bs l D B : Nat) (hB : w0.heap.size ≤ B) : AbidesFrom B (ApI w0 fn sv Bs l D) := fun s W W' row h hg hrow => by
  have hrow' : ∀ r, row = some r → ∃ o : Obj, W.heap[r]? = some o ∧ o.isWalk = true := fun r e => (hrow r e).2
  obtain ⟨v, hv, hr⟩ := h.box
  exact ⟨⟨v, (grownBy_keeps hg hrow' hv rfl).trans hv, ownsRow_abides_a hr hg hrow'⟩, (grownBy_keeps hg hrow' h.L rfl).trans h.L, (grownBy_keeps hg hrow' h.K rfl).trans h.K,
    h.below.grown hg h.below.size (fun k e => Nat.le_trans hB (hrow k e).1)⟩
set_option maxRecDepth 100000 in
set_option maxHeartbeats 2000000 in
theorem apI_yield (F : Fence) (m : Nat) (w0 : World) (fn : FuncId) (hfn : F.fn fn) (sv : Value) (Bs l D : Nat) (hBl : Bs ≠ l) (hDl : D ≠ l) (hDB : D ≠ Bs) (h0B : w0.heap.size ≤ Bs) (h0l : w0.heap.size ≤ l)
    (N : Nat) (hN : N ≤ 1048576) (ss : List (Nat × Nat)) (x1 x2 : Nat) (W : World) (h : ApI w0 fn sv Bs l D ss W) (hlen : ss.length < N) :
    YieldAt F m Tryz.prog l #[encI (x1, x2)] W fun e W' => e = .returned (.bool true) ∧ ApI w0 fn sv Bs l D (ss ++ [(x1, x2)]) W' ∧ KeepsWalks W W' := by
  have hne : (54 : TypeId) ≠ 24 := by decide
  obtain ⟨i0, hi, hz0, hz1, hz2⟩ := info_parts Tryz.infoId
  refine ⟨fn, #[.slice none 0 0, sv, .pointer (some ⟨Bs, 0, none⟩), undef, .slice none 0 0, undef, sv, encI (x1, x2), undef, undef, undef, undef, undef], apAssign, apBody, by simpa [apRec] using run_yield (P := Tryz.prog) (args := #[encI (x1, x2)]) h.L rfl, roundIn_of_wpIn hfn ?_⟩
  obtain ⟨W1, hW1⟩ : ∃ W1, W.alloc (.cells #[.int .u32 (x1 : Nat), .int .u32 (x2 : Nat)] 24) = W1 := ⟨_, rfl⟩
  have h1 : ApI w0 fn sv Bs l D ss W1 := by rw [← hW1]; exact apI_abides w0 fn sv Bs l D w0.heap.size (Nat.le_refl _) ss W _ none h (World.grownBy_alloc W _ none) (fun r e => by cases e)
  have hk1 : KeepsWalks W W1 := by rw [← hW1]; exact KeepsWalks.alloc _ _
  have hx1 : W1.heap[W.heap.size]? = some (.cells #[.int .u32 (x1 : Nat), .int .u32 (x2 : Nat)] 24) := by rw [← hW1]; exact World.alloc_heap_new W _
  have hWb : w0.heap.size ≤ W.heap.size := h.below.size
  have hBW : Bs < W.heap.size := by obtain ⟨v, hv, _⟩ := h.box; exact (Array.getElem?_eq_some_iff.1 hv).1
  have hlW : l < W.heap.size := (Array.getElem?_eq_some_iff.1 h.L).1
  have hDW : D < W.heap.size := (Array.getElem?_eq_some_iff.1 h.K).1
  obtain ⟨v, hv, hrow⟩ := h1.box
  have hl : l < W1.heap.size := (Array.getElem?_eq_some_iff.1 h1.L).1
  have hbr := run_beginRound (P := Tryz.prog) h1.L rfl
  obtain ⟨W2, hW2⟩ : ∃ W2, W1.putObj l (.loop { apRec fn sv Bs D .ready none with state := .busy }) = W2 := ⟨_, rfl⟩
  rw [hW2] at hbr
  have hg2 : W1.grownBy W2 (some l) := by rw [← hW2]; exact grownBy_putObj_a _ _ _
  have hk2 : KeepsWalks W1 W2 := by rw [← hW2]; exact KeepsWalks.putObj _ h1.L rfl
  have hv2 : W2.heap[Bs]? = some (.cells #[v] 54 (0, 0)) := by rw [← hW2]; exact (World.putObj_heap_other hBl).trans hv
  have hK2 : W2.heap[D]? = some (.deferred (some [])) := by rw [← hW2]; exact (World.putObj_heap_other hDl).trans h1.K
  have hL2 : W2.heap[l]? = some (.loop { apRec fn sv Bs D .ready none with state := .busy }) := by rw [← hW2]; exact World.putObj_heap_same hl
  have hx2 : W2.heap[W.heap.size]? = some (.cells #[.int .u32 (x1 : Nat), .int .u32 (x2 : Nat)] 24) := by rw [← hW2]; exact (World.putObj_heap_other (by omega)).trans hx1
  have hrow2 : OwI W2 w0.heap.size v ss := hrow.kept hg2 (ownsRow_ne_a hrow h1.L (fun cur e => by cases e))
  have hb2 : Below w0.heap.size w0 W2 := h1.below.grown hg2 h1.below.size (fun k e => by cases e; exact h0l)
  clear hW2 hg2
  have hBlt : Bs < W2.heap.size := (Array.getElem?_eq_some_iff.1 hv2).1
  have hl2 : l < W2.heap.size := (Array.getElem?_eq_some_iff.1 hL2).1
  have hDlt : D < W2.heap.size := (Array.getElem?_eq_some_iff.1 hK2).1
  obtain ⟨hc2, hf2⟩ := cell_of_box_a hv2
  have hx20 : W2.cell? ⟨W.heap.size, 0, none⟩ = some (.int .u32 (x1 : Nat)) := by simp [World.cell?, hx2]
  have hx21 : W2.cell? ⟨W.heap.size, 1, none⟩ = some (.int .u32 (x2 : Nat)) := by simp [World.cell?, hx2]
  have ne_of : ∀ {j : Nat} {o : Obj}, W2.heap[j]? = some o → (∀ cur, o ≠ .cells cur 24 (0, 0)) → some j ≠ v.ownBlock := fun hj hno => by
    rcases ownsRow_ne_a hrow2 hj hno with e | e
    · rw [e]; simp
    · exact fun e' => e e'.symm
  simp only [encI, idv]
  unfold apAssign
  gi_wp2_with gi_round_op_a
  clear hW1 hbr
  unfold apBody
  gi_wp2_with (first
    | (gi_at_builtin; refine wpListIn_append_own _ rfl _ _ 54 rfl w0.heap.size 24 i0 (.agg #[.int .u32 0, .int .u32 0]) 2 8 Tryz.underlying54 hi hz0 hz1 hz2 rfl (by decide) _ _ _ rfl (hrow2.alloc _) ⟨W2.heap.size, 0, none⟩ 1 1 [.int .u32 (x1 : Nat), .int .u32 (x2 : Nat)] rfl rfl (fun j u hu => by rw [addr_addS, World.cell?_alloc_at _ _ _ _ rfl]; simpa using hu) (fun u hu => by simp at hu; rcases hu with rfl | rfl <;> rfl) (by simp only [maxLen]; omega) (by omega) (by have := hb2.size; simp; omega) ?_; intro v' w3 hown' hg3 hnil3
       have hv3 : w3.heap[Bs]? = some (.cells #[v] 54 (0, 0)) := (hg3.block Bs (by simp; omega) (ne_of hv2 (fun cur e => hne (Obj.cells.inj e).2.1))).trans ((Below.heap_alloc _ _ Bs hBlt).trans hv2)
       obtain ⟨hc3, hf3⟩ := cell_of_box_a hv3
       obtain ⟨g', cap', cur', rfl, hbase', hgb', hr1, hr2, hr3, hr4⟩ : ∃ g' cap' cur', v' = .slice (some ⟨g', 0, none⟩) (ss.length + 1) cap' ∧ w0.heap.size ≤ g' ∧ w3.heap[g']? = some (.cells cur' 24 (0, 0)) ∧ ss.length + 1 ≤ cap' ∧ cap' ≤ maxLen ∧ cur'.size = cap' * 2 ∧ cur'.toList.take ((ss.length + 1) * 2) = icells ss ++ [.int .u32 (x1 : Nat), .int .u32 (x2 : Nat)] := by
         rcases hown'.2 with ⟨_, h0⟩ | h'
         · exact absurd h0 (by omega)
         · exact h'
       go_frame)
    | gi_round_op_a)
  have hg3' : (W2.alloc (.cells #[.int .u32 (x1 : Nat), .int .u32 (x2 : Nat)] 24)).grownBy w3 v.ownBlock := hg3
  have hL3 : w3.heap[l]? = some (.loop { apRec fn sv Bs D .ready none with state := .busy }) := (hg3'.block l (by simp; omega) (ne_of hL2 (fun cur e => by cases e))).trans ((Below.heap_alloc _ _ l hl2).trans hL2)
  have hK3 : w3.heap[D]? = some (.deferred (some [])) := (hg3'.block D (by simp; omega) (ne_of hK2 (fun cur e => by cases e))).trans ((Below.heap_alloc _ _ D hDlt).trans hK2)
  obtain ⟨w4, hw4⟩ : ∃ w4, w3.setCell ⟨Bs, 0, none⟩ (.slice (some ⟨g', 0, none⟩) (ss.length + 1) cap') = w4 := ⟨_, rfl⟩
  rw [hw4]
  have hg4 : w3.grownBy w4 (some Bs) := by rw [← hw4]; exact grownBy_setCell0_a _ _ _
  have hv4 : w4.heap[Bs]? = some (.cells #[.slice (some ⟨g', 0, none⟩) (ss.length + 1) cap'] 54 (0, 0)) := by rw [← hw4]; exact heap_setCell_box_a _ hv3
  have hL4 : w4.heap[l]? = some (.loop { apRec fn sv Bs D .ready none with state := .busy }) := (hg4.block l (Array.getElem?_eq_some_iff.1 hL3).1 (fun e => hBl (by cases e; rfl))).trans hL3
  have hK4 : w4.heap[D]? = some (.deferred (some [])) := (hg4.block D (Array.getElem?_eq_some_iff.1 hK3).1 (fun e => hDB (by cases e; rfl))).trans hK3
  have hrow4 := hown'.kept hg4 (ownsRow_ne_a hown' hv3 (fun cur e => hne (Obj.cells.inj e).2.1))
  have hl4 : l < w4.heap.size := (Array.getElem?_eq_some_iff.1 hL4).1
  have hb3 : Below w0.heap.size w0 w3 := (hb2.alloc hb2.size _).grown hg3' (by have := hb2.size; simp; omega) (fun k e => (hrow2.lt k e).1)
  have hb4 : Below w0.heap.size w0 w4 := hb3.grown hg4 hb3.size (fun k e => by cases e; exact h0B)
  have hk4 : KeepsWalks W w4 := (((hk1.trans hk2).trans (KeepsWalks.alloc _ _)).trans (KeepsWalks.of_grownBy hg3' (ownsRow_not_walk_a (hrow2.alloc _)))).trans (by rw [← hw4]; exact KeepsWalks.setCell _ _ _)
  clear hw4
  refine ⟨_, _, run_endRound none hL4, rfl, ⟨⟨_, (World.putObj_heap_other hBl).trans hv4, ?_⟩, World.putObj_heap_same hl4, (World.putObj_heap_other hDl).trans hK4, hb4.grown (grownBy_putObj_a _ _ _) hb4.size (fun k e => by cases e; exact h0l)⟩, hk4.trans (KeepsWalks.putObj _ hL4 rfl)⟩
  have := hrow4.kept (grownBy_putObj_a w4 l (.loop { { apRec fn sv Bs D .ready none with state := .busy } with state := if (none : Option Code).isNone then .ready else .done, pending := none })) (ownsRow_ne_a hrow4 hL4 (fun cur e => by cases e))
  unfold OwI
  rw [icells_app]
  simpa using this
end Go.Proofs.YtjkkonhhnmjcaaaGreatDoor

namespace Go.Proofs.YtjkkonhhnmjcaaaGreatDoor
open Go.RowKit Go.Maps Go.Sort Go.Shelf

set_option maxRecDepth 100000 in
set_option maxHeartbeats 2000000 in
/-- slices.AppendSeq of nothing and what an iterator gives. -/
theorem appendI (F : Fence) (hF : ∀ f, F.fn f) (hro : F.round = none) (n : Nat) (hn : 2 ≤ n) (g : Nat) (lb : Array Value) (eg : ∀ args w, (callFunc g args).run Tryz.prog w = .ok (.enter g args) w)
    (S : List (Nat × Nat) → Prop) (N : Nat) (hN : N ≤ 1048576) (w : World) (hseq : SeqGives F (n - 1) Tryz.prog g lb encI S N w) :
    CallsIn F n Tryz.prog 75 #[.slice none 0 0, .func (.func g) #[] lb] w fun e w' => ∃ (v : Value) (ss : List (Nat × Nat)), e = .returned v ∧ S ss ∧ OwI w' w.heap.size v ss ∧ Below w.heap.size w w' := by
  have h1 : 1 ≤ n := by omega
  have hne : (54 : TypeId) ≠ 24 := by decide
  refine callsIn_of_wp_marks Tryz.func75 rfl (hF _) ?_ hro
  simp only [Tryz.ntmps75, List.size_toArray, List.length_cons, List.length_nil, Nat.reduceAdd, Nat.reduceSub, Array.replicate_succ, Array.replicate_zero, List.push_toArray, List.append_toArray, List.nil_append, List.cons_append]
  gi_wp2
  refine wpIn_rangeFunc ?_
  intro fn hfn
  rw [hro]
  obtain ⟨W0, hW0⟩ : ∃ W0, w.alloc (.cells #[.slice none 0 0] 54) = W0 := ⟨_, rfl⟩
  have hs0 : W0.heap.size = w.heap.size + 1 := by rw [← hW0]; simp
  have hv0 : W0.heap[w.heap.size]? = some (.cells #[.slice none 0 0] 54 (0, 0)) := by rw [← hW0]; exact World.alloc_heap_new w _
  have hb0 : Below w.heap.size w W0 := by rw [← hW0]; exact (Below.refl _ w).alloc (Nat.le_refl _) _
  rw [hW0]
  obtain ⟨W1, hW1⟩ : ∃ W1, (W0.alloc (.deferred (some []))).alloc (.loop (apRec fn (.func (.func g) #[] lb) w.heap.size W0.heap.size .ready none)) = W1 := ⟨_, rfl⟩
  have hold : ∀ k, k < W0.heap.size → W1.heap[k]? = W0.heap[k]? := fun k hk => by
    rw [← hW1]; exact (Below.heap_alloc _ _ k (by simp; omega)).trans (Below.heap_alloc _ _ k hk)
  have hb1 : Below w.heap.size w W1 := by rw [← hW1]; exact (hb0.alloc hb0.size _).alloc (by have := hb0.size; simp; omega) _
  have hM : ApI w fn (.func (.func g) #[] lb) w.heap.size (W0.heap.size + 1) W0.heap.size [] W1 :=
    ⟨⟨_, (hold w.heap.size (by omega)).trans hv0, ⟨rfl, .inl ⟨rfl, rfl⟩⟩⟩,
     by rw [← hW1]; have := World.alloc_heap_new (W0.alloc (.deferred (some []))) (.loop (apRec fn (.func (.func g) #[] lb) w.heap.size W0.heap.size .ready none)); rwa [World.size_alloc] at this,
     by rw [← hW1]; exact (Below.heap_alloc _ _ _ (by simp)).trans (World.alloc_heap_new W0 _), hb1⟩
  refine ⟨W0.heap.size + 1, [{ target := .collected W0.heap.size, args := #[] }], W1, { target := .fn (.func g) lb, args := #[.func (.yield (W0.heap.size + 1)) #[] #[]] }, W1, g,
    #[.func (.yield (W0.heap.size + 1)) #[] #[]] ++ lb, W1, ?_, ?_, ?_, ?_, fun _ => h1, ?_⟩
  · rw [← hW1]; exact run_enterLoop_outer _ _ _ _ _
  · simp [resolve, go_sem]
  · intro f' hf'; exact hF f'
  · simp [invoke, go_sem, eg]
  · refine (hseq (W0.heap.size + 1) (ApI w fn (.func (.func g) #[] lb) w.heap.size (W0.heap.size + 1) W0.heap.size) W1 hb1 (apI_abides _ _ _ _ _ _ _ hb1.size)
      (fun pre x W hJ hl => apI_yield F (n - 1 - 1) w fn hfn _ w.heap.size (W0.heap.size + 1) W0.heap.size (by omega) (by omega) (by omega) (Nat.le_refl _) (by omega) N hN pre x.1 x.2 W hJ hl) hM).mono ?_
    rintro e W2 ⟨⟨v0, rfl⟩, ss, hS, h2⟩
    obtain ⟨v, hv, hrow⟩ := h2.box
    have hend := run_endLoop (P := Tryz.prog) h2.L (by simp [apRec])
    obtain ⟨W3, hW3⟩ : ∃ W3, W2.putObj (W0.heap.size + 1) (.loop { apRec fn (.func (.func g) #[] lb) w.heap.size W0.heap.size .ready none with state := .exhausted }) = W3 := ⟨_, rfl⟩
    rw [hW3] at hend
    have hg3 : W2.grownBy W3 (some (W0.heap.size + 1)) := by rw [← hW3]; exact grownBy_putObj_a _ _ _
    have hv3 : W3.heap[w.heap.size]? = some (.cells #[v] 54 (0, 0)) := by rw [← hW3]; exact (World.putObj_heap_other (by omega)).trans hv
    have hK3 : W3.heap[W0.heap.size]? = some (.deferred (some [])) := by rw [← hW3]; exact (World.putObj_heap_other (by omega)).trans h2.K
    have hrow3 := hrow.kept hg3 (ownsRow_ne_a hrow h2.L (fun cur e => by cases e))
    have hb3 : Below w.heap.size w W3 := h2.below.grown hg3 h2.below.size (fun k e => by cases e; omega)
    obtain ⟨hc3, hf3⟩ := cell_of_box_a hv3
    clear hW3
    refine ⟨none, W3, hend, ?_⟩
    gi_wp2
    rw [← hs0]
    refine ⟨by simp, .inl ⟨_, _, rfl, run_takeDeferred hK3, ?_⟩⟩
    exact ⟨_, results_tmp rfl _ _ _, v, ss, rfl, hS, hrow3.kept (grownBy_putObj_a _ _ _) (ownsRow_ne_a hrow3 hK3 (fun cur e => by cases e)), hb3.grown (grownBy_putObj_a _ _ _) hb3.size (fun k e => by cases e; omega)⟩
theorem wide_fn (f : FuncId) : Fence.wide.fn f := trivial
theorem appendC (g : Nat) (lb : Array Value) (eg : ∀ args w, (callFunc g args).run Tryz.prog w = .ok (.enter g args) w)
    (S : List (Nat × Nat) → Prop) (N : Nat) (hN : N ≤ 1048576) (w : World) (hseq : SeqGives Fence.wide 1 Tryz.prog g lb encI S N w) :
    Calls Tryz.prog 75 #[.slice none 0 0, .func (.func g) #[] lb] w fun e w' => ∃ (v : Value) (ss : List (Nat × Nat)), e = .returned v ∧ S ss ∧ OwI w' w.heap.size v ss ∧ Below w.heap.size w w' :=
  callsIn_wide.1 (appendI Fence.wide wide_fn rfl 2 (by omega) g lb eg S N hN w hseq)
set_option maxRecDepth 100000 in
/-- slices.Collect. -/
theorem collectI (g : Nat) (lb : Array Value) (eg : ∀ args w, (callFunc g args).run Tryz.prog w = .ok (.enter g args) w)
    (S : List (Nat × Nat) → Prop) (N : Nat) (hN : N ≤ 1048576) (w : World) (hseq : SeqGives Fence.wide 1 Tryz.prog g lb encI S N w) :
    Calls Tryz.prog 46 #[.func (.func g) #[] lb] w fun e w' => ∃ (v : Value) (ss : List (Nat × Nat)), e = .returned v ∧ S ss ∧ OwI w' w.heap.size v ss ∧ Below w.heap.size w w' := by
  have HC := hide (appendC g lb eg S N hN w hseq)
  clear hseq eg
  go_enter Tryz.func46, Tryz.ntmps46
  go_wp2_with fail
  refine (unhide HC).mono ?_
  rintro e w' ⟨v, ss, rfl, hS, hrow, hb⟩
  go_wp2_with fail
  go_ret
  exact ⟨v, ss, rfl, hS, hrow, hb⟩
end Go.Proofs.YtjkkonhhnmjcaaaGreatDoor

namespace Go.Proofs.YtjkkonhhnmjcaaaGreatDoor
open Go.RowKit Go.Maps Go.Sort Go.Shelf

def sortI_ren : Go.Shelf.Ren := ⟨fun | 6 => 47 | 15 => 77 | 14 => 76 | 28 => 106 | 29 => 107 | 20 => 98 | 21 => 99 | 22 => 100 | 23 => 101 | 24 => 102 | 25 => 103 | 26 => 104 | 27 => 105 | 46 => 125 | 47 => 126 | 48 => 127 | 49 => 128 | 50 => 129 | 57 => 148 | n => n, fun | 22 => 54 | 24 => 24 | 25 => 85 | 3 => 3 | 39 => 174 | 0 => 0 | 53 => 22 | 55 => 210 | 4 => 4 | 46 => 202 | 45 => 201 | 50 => 206 | 5 => 5 | 9 => 9 | 66 => 223 | 70 => 191 | 76 => 245 | 77 => 246 | n => n, fun n => n⟩
theorem sortI : Go.Proofs.SlLaysF0.n6 Tryz.prog sortI_ren where
  mixed := by kernel_rfl
  f6 := ⟨ "slices.SortFunc[[]almoner/api.Id,almoner/api.Id]", by decide, Tryz.func47.trans (congrArg some (by kernel_rfl))⟩
  f14 := ⟨ "slices.pdqsortCmpFunc[almoner/api.Id]", by decide, Tryz.func76.trans (congrArg some (by kernel_rfl))⟩
  f15 := Tryz.func77.trans (congrArg some (by kernel_rfl))
  f20 := ⟨ "slices.insertionSortCmpFunc[almoner/api.Id]", by decide, Tryz.func98.trans (congrArg some (by kernel_rfl))⟩
  f21 := ⟨ "slices.heapSortCmpFunc[almoner/api.Id]", by decide, Tryz.func99.trans (congrArg some (by kernel_rfl))⟩
  f22 := ⟨ "slices.breakPatternsCmpFunc[almoner/api.Id]", by decide, Tryz.func100.trans (congrArg some (by kernel_rfl))⟩
  f23 := ⟨ "slices.choosePivotCmpFunc[almoner/api.Id]", by decide, Tryz.func101.trans (congrArg some (by kernel_rfl))⟩
  f24 := ⟨ "slices.reverseRangeCmpFunc[almoner/api.Id]", by decide, Tryz.func102.trans (congrArg some (by kernel_rfl))⟩
  f25 := ⟨ "slices.partialInsertionSortCmpFunc[almoner/api.Id]", by decide, Tryz.func103.trans (congrArg some (by kernel_rfl))⟩
  f26 := ⟨ "slices.partitionEqualCmpFunc[almoner/api.Id]", by decide, Tryz.func104.trans (congrArg some (by kernel_rfl))⟩
  f27 := ⟨ "slices.partitionCmpFunc[almoner/api.Id]", by decide, Tryz.func105.trans (congrArg some (by kernel_rfl))⟩
  f28 := Tryz.func106.trans (congrArg some (by kernel_rfl))
  f29 := Tryz.func107.trans (congrArg some (by kernel_rfl))
  f46 := ⟨ "slices.siftDownCmpFunc[almoner/api.Id]", by decide, Tryz.func125.trans (congrArg some (by kernel_rfl))⟩
  f47 := Tryz.func126.trans (congrArg some (by kernel_rfl))
  f48 := Tryz.func127.trans (congrArg some (by kernel_rfl))
  f49 := ⟨ "slices.medianAdjacentCmpFunc[almoner/api.Id]", by decide, Tryz.func128.trans (congrArg some (by kernel_rfl))⟩
  f50 := ⟨ "slices.medianCmpFunc[almoner/api.Id]", by decide, Tryz.func129.trans (congrArg some (by kernel_rfl))⟩
  f57 := ⟨ "slices.order2CmpFunc[almoner/api.Id]", by decide, Tryz.func148.trans (congrArg some (by kernel_rfl))⟩
  t0 := Tryz.underlying0
  a0 := Tryz.isAgg0
  z0 := Tryz.sizeOf0
  v0 := Tryz.zeroValue0
  t3 := Tryz.underlying3
  a3 := Tryz.isAgg3
  z3 := Tryz.sizeOf3
  v3 := Tryz.zeroValue3
  t4 := Tryz.underlying4
  a4 := Tryz.isAgg4
  z4 := Tryz.sizeOf4
  v4 := Tryz.zeroValue4
  t5 := Tryz.underlying5
  a5 := Tryz.isAgg5
  z5 := Tryz.sizeOf5
  v5 := Tryz.zeroValue5
  t9 := Tryz.underlying9
  a9 := Tryz.isAgg9
  z9 := Tryz.sizeOf9
  v9 := Tryz.zeroValue9
  t22 := Tryz.underlying54
  a22 := Tryz.isAgg54
  z22 := Tryz.sizeOf54
  v22 := Tryz.zeroValue54
  t25 := Tryz.underlying85
  a25 := Tryz.isAgg85
  z25 := Tryz.sizeOf85
  v25 := Tryz.zeroValue85
  t39 := Tryz.underlying174
  a39 := Tryz.isAgg174
  z39 := Tryz.sizeOf174
  v39 := Tryz.zeroValue174
  t45 := Tryz.underlying201
  a45 := Tryz.isAgg201
  z45 := Tryz.sizeOf201
  v45 := Tryz.zeroValue201
  t46 := Tryz.underlying202
  a46 := Tryz.isAgg202
  z46 := Tryz.sizeOf202
  v46 := Tryz.zeroValue202
  t50 := Tryz.underlying206
  a50 := Tryz.isAgg206
  z50 := Tryz.sizeOf206
  v50 := Tryz.zeroValue206
  t53 := Tryz.underlying22
  a53 := Tryz.isAgg22
  z53 := Tryz.sizeOf22
  v53 := Tryz.zeroValue22
  t55 := Tryz.underlying210
  a55 := Tryz.isAgg210
  z55 := Tryz.sizeOf210
  v55 := Tryz.zeroValue210
  t66 := Tryz.underlying223
  a66 := Tryz.isAgg223
  z66 := Tryz.sizeOf223
  v66 := Tryz.zeroValue223
  t70 := Tryz.underlying191
  a70 := Tryz.isAgg191
  z70 := Tryz.sizeOf191
  v70 := Tryz.zeroValue191
  t76 := Tryz.underlying245
  a76 := Tryz.isAgg245
  z76 := Tryz.sizeOf245
  v76 := Tryz.zeroValue245
  t77 := Tryz.underlying246
  a77 := Tryz.isAgg246
  z77 := Tryz.sizeOf246
  v77 := Tryz.zeroValue246
end Go.Proofs.YtjkkonhhnmjcaaaGreatDoor

namespace Go.Proofs.YtjkkonhhnmjcaaaGreatDoor
open Go.RowKit Go.Maps Go.Sort Go.Shelf

/-- What two ids' numbers are to one another. -/
def cmpN (a b : Nat) : Int := if a < b then -1 else if b < a then 1 else 0
set_option maxRecDepth 100000 in
theorem nanU (a : Nat) (w : World) : Calls Tryz.prog 78 #[.int .u32 (a : Nat)] w fun e w' => e = .returned (.bool false) ∧ w' = w := by
  go_enter Tryz.func78, Tryz.ntmps78
  go_wp2_with fail
  go_ret
  exact ⟨rfl, rfl⟩
set_option maxRecDepth 100000 in
theorem compareU (a b : Nat) (w : World) : Calls Tryz.prog 49 #[.int .u32 (a : Nat), .int .u32 (b : Nat)] w fun e w' => e = .returned (.int .i64 (cmpN a b)) ∧ w' = w := by
  rcases Nat.lt_trichotomy a b with h | h | h
  · have e : cmpN a b = -1 := by simp [cmpN, h]
    have h1 : (a : Int) < (b : Int) := by omega
    rw [e]
    clear e
    go_enter Tryz.func49, Tryz.ntmps49
    go_wp2_with fail
    refine (nanU a w).mono ?_
    rintro e w1 ⟨rfl, rfl⟩
    go_wp2_with fail
    refine (nanU b _).mono ?_
    rintro e w1 ⟨rfl, rfl⟩
    go_wp2_with fail
    go_ret
    exact ⟨rfl, rfl⟩
  · subst h
    have e : cmpN a a = 0 := by simp [cmpN]
    rw [e]
    clear e
    go_enter Tryz.func49, Tryz.ntmps49
    go_wp2_with fail
    refine (nanU a w).mono ?_
    rintro e w1 ⟨rfl, rfl⟩
    go_wp2_with fail
    refine (nanU a _).mono ?_
    rintro e w1 ⟨rfl, rfl⟩
    go_wp2_with fail
    go_ret
    exact ⟨rfl, rfl⟩
  · have e : cmpN a b = 1 := by simp [cmpN, h]; omega
    have h1 : (b : Int) < (a : Int) := by omega
    have h2 : ¬ (a : Int) < (b : Int) := by omega
    have h3 : ¬ a < b := by omega
    rw [e]
    clear e
    go_enter Tryz.func49, Tryz.ntmps49
    go_wp2_with fail
    refine (nanU a w).mono ?_
    rintro e w1 ⟨rfl, rfl⟩
    go_wp2_with fail
    refine (nanU b _).mono ?_
    rintro e w1 ⟨rfl, rfl⟩
    go_wp2_with fail
    go_ret
    exact ⟨rfl, rfl⟩
set_option maxRecDepth 100000 in
/-- byCall. -/
theorem byCall_any (x y : Nat × Nat) (W : World) : Calls Tryz.prog 30 #[.agg #[.int .u32 (x.1 : Nat), .int .u32 (x.2 : Nat)], .agg #[.int .u32 (y.1 : Nat), .int .u32 (y.2 : Nat)]] W fun e w' => e = .returned (.int .i64 (cmpN x.2 y.2)) ∧ w' = (W.alloc (.cells #[.int .u32 (x.1 : Nat), .int .u32 (x.2 : Nat)] 24)).alloc (.cells #[.int .u32 (y.1 : Nat), .int .u32 (y.2 : Nat)] 24) := by
  have HC := hide (fun W' => compareU x.2 y.2 W')
  generalize cmpN x.2 y.2 = r at HC ⊢
  go_enter Tryz.func30, Tryz.ntmps30
  go_wp2_with fail
  refine (unhide HC _).mono ?_
  rintro e w1 ⟨rfl, rfl⟩
  go_wp2_with fail
  go_ret
  exact ⟨rfl, rfl⟩
end Go.Proofs.YtjkkonhhnmjcaaaGreatDoor

namespace Go.Proofs.YtjkkonhhnmjcaaaGreatDoor
open Go.RowKit Go.ChangeShapes Go.WideShapes Go.Maps Go.Sort Go.Shelf Go.Lib

def icell (p : Nat × Nat) : List Value := [.int .u32 (p.1 : Nat), .int .u32 (p.2 : Nat)]
theorem icells_cons (o : Nat × Nat) (r : List (Nat × Nat)) : icells (o :: r) = icell o ++ icells r := by simp [icells, icell]
theorem icells_len (l : List (Nat × Nat)) : (icells l).length = l.length * 2 := by
  induction l with
  | nil => rfl
  | cons o r ih => rw [icells_cons, List.length_append, ih, List.length_cons]; simp [icell]; omega
def cfI (x y : Nat × Nat) : Int := cmpN x.2 y.2
theorem ltI (x y : Nat × Nat) : ltOf cfI x y = decide (x.2 < y.2) := by
  unfold ltOf cfI cmpN
  by_cases h1 : x.2 < y.2
  · simp [h1]
  · by_cases h2 : y.2 < x.2 <;> simp [h1, h2]
theorem swoI : SWO (ltOf cfI) where
  irrefl x := by rw [ltI]; simp
  trans x y z h1 h2 := by rw [ltI] at *; simp at *; omega
  ntrans x y z h1 h2 := by rw [ltI] at *; simp at *; omega
theorem closureI (x y : Nat × Nat) (W : World) : Calls Tryz.prog 30 #[.agg #[.int .u32 (x.1 : Nat), .int .u32 (x.2 : Nat)], .agg #[.int .u32 (y.1 : Nat), .int .u32 (y.2 : Nat)]] W fun e w' => e = .returned (.int .i64 (cfI x y)) ∧ ∃ q os', w' = grow (W.drewN q) os' := by
  refine (byCall_any x y W).mono ?_
  rintro e w' ⟨rfl, rfl⟩
  exact ⟨rfl, 0, _, by rw [alloc_eq_grow, alloc_eq_grow, grow_grow]; rfl⟩
theorem take_putI (cur F : Array Value) (h : F.size ≤ cur.size) : (putCells id 0 F cur).toList.take F.size = F.toList := by
  apply List.ext_getElem?
  intro j
  by_cases hj : j < F.size
  · rw [List.getElem?_take_of_lt hj, Array.getElem?_toList]
    simp [putCells, hj, show j < cur.size by omega]
  · rw [List.getElem?_take_eq_none (by omega), List.getElem?_eq_none (by simp; omega)]
theorem heap_sortI {w : World} {g n : Nat} {os : Array Obj} {cur : Array Value} {e : TypeId} {fr : Nat × Nat} (F : Array Value) (hb : w.heap[g]? = some (.cells cur e fr)) :
    (grow (putRow id (Sort.ahead w n) g 0 F) os).heap[g]? = some (.cells (putCells id 0 F cur) e fr) := by
  have hg : g < w.heap.size := (Array.getElem?_eq_some_iff.1 hb).1
  rw [heap_grow_old _ _ (by simpa using hg)]
  simp [putRow, mapBlock, Sort.ahead, Array.getElem?_modify, hb, onCells]
theorem fr_sortI {w : World} {g n : Nat} {os : Array Obj} (F : Array Value) : Fr (fun k => k = g) w (grow (putRow id (Sort.ahead w n) g 0 F) os) := by
  refine ⟨rfl, rfl, rfl, by simp, fun k hk hne => ?_⟩
  rw [heap_grow_old _ _ (by simpa using hk)]
  have : g ≠ k := fun e => hne e.symm
  simp [putRow, mapBlock, Sort.ahead, Array.getElem?_modify, this]
theorem icells_get (l : List (Nat × Nat)) (j : Nat) (h : j < l.length * 2) : (icells l)[j]? = some ((icell l[j / 2]!)[j % 2]!) := by
  induction l generalizing j with
  | nil => simp at h
  | cons o r ih =>
    rw [icells_cons]
    by_cases h3 : j < 2
    · rw [List.getElem?_append_left (by simpa [icell] using h3)]
      match j, h3 with
      | 0, _ => rfl
      | 1, _ => rfl
    · obtain ⟨i, rfl⟩ : ∃ i, j = i + 2 := ⟨j - 2, by omega⟩
      rw [List.getElem?_append_right (by simp [icell])]
      have e1 : i + 2 - (icell o).length = i := by simp [icell]
      rw [e1, ih i (by simp at h; omega)]
      have e2 : (i + 2) / 2 = i / 2 + 1 := by omega
      have e3 : (i + 2) % 2 = i % 2 := by omega
      rw [e2, e3]
      simp
theorem flat_icells (l : List (Nat × Nat)) : (flatK icell 2 l.toArray).toList = icells l := by
  apply List.ext_getElem?
  intro j
  by_cases hj : j < l.length * 2
  · rw [icells_get l j hj, Array.getElem?_toList]
    have h1 : j < (flatK icell 2 l.toArray).size := by simpa using hj
    have h2 := get_flatK icell 2 l.toArray j (by simpa using hj)
    rw [Array.getElem?_eq_getElem h1]
    rw [getElem!_pos _ j h1] at h2
    rw [h2]
    simp
  · rw [List.getElem?_eq_none (by simp; omega), List.getElem?_eq_none (by rw [icells_len]; omega)]
/-- slices.SortFunc of ids by their numbers. -/
theorem sortI_any (w : World) (base : Nat) (L : List (Nat × Nat)) (ao : Option Addr) (cap : Nat) (h : OwI w base (.slice ao L.length cap) L) (hl : L.length ≤ 1048576) :
    Calls Tryz.prog 47 #[.slice ao L.length cap, .func (.func 30) #[] #[]] w fun e w' => e = .returned (.tuple #[]) ∧ ∃ L' : List (Nat × Nat), L'.Perm L ∧ L'.Pairwise (fun a b => a.2 ≤ b.2) ∧ OwI w' base (.slice ao L.length cap) L' ∧ Fr (fun g => (Value.slice ao L.length cap).ownBlock = some g) w w' := by
  rcases h.2 with ⟨e1, e2⟩ | ⟨g, cap', cur, e1, h1, h2, h3, h4, h5, h6⟩
  · have hL : L = [] := List.eq_nil_of_length_eq_zero e2
    subst hL
    have hS := AnyF.slices_SortFunc_none (P := Tryz.prog) (ρ := sortI_ren) sortI ao cap (.func (.func 30) #[] #[]) w
    change Calls Tryz.prog 47 _ _ _ at hS
    refine hS.mono ?_
    rintro e w' ⟨rfl, rfl⟩
    exact ⟨rfl, [], List.Perm.refl _, List.Pairwise.nil, h, Fr.refl _ _⟩
  · simp only [Value.slice.injEq, true_and] at e1
    obtain ⟨rfl, rfl⟩ := e1
    have eg : ∀ args w, (callFunc 30 args).run Tryz.prog w = .ok (.enter 30 args) w := enters_of Tryz.func30 (by kernel_rfl) rfl
    have hH : HoldsK icell 2 w g 0 L.toArray := by
      intro j hj
      have hj' : j < L.length * 2 := by simpa using hj
      refine ⟨?_, by simp [World.frozen?, h2]⟩
      rw [Nat.zero_add]
      refine (h.cellAt j hj').trans ?_
      rw [← flat_icells, Array.getElem?_toList, Array.getElem?_eq_getElem (by simpa using hj), getElem!_pos _ j (by simpa using hj)]
      rfl
    have hS := AnyQ.slices_SortFunc sortI 2 Tryz.isAgg24 Tryz.sizeOf24 icell (fun _ => rfl) (fun x v hv => by simp [icell] at hv; rcases hv with rfl | rfl <;> rfl) cfI swoI 30 #[] g 0 cap L.toArray w eg (fun _ _ _ _ x y => closureI x y _) hH (lt_of_block h2) (by simp; omega)
    change Calls Tryz.prog 47 _ _ _ at hS
    refine hS.mono ?_
    rintro e w' ⟨rfl, d', n, os, hp, hs, rfl⟩
    have hsz : d'.size = L.length := by simpa using hp.1
    have hfl := flat_icells d'.toList
    rw [Array.toArray_toList] at hfl
    have hFs : (flatK icell 2 d').size = L.length * 2 := by rw [size_flatK, hsz]
    refine ⟨rfl, d'.toList, ?_, ?_, ?_, ?_⟩
    · have := hp.2.2
      rw [show L.toArray.size = L.length from rfl] at this
      rw [← hsz, Array.extract_size] at this
      rw [hsz, show L.length = L.toArray.size from rfl, Array.extract_size] at this
      exact this
    · rw [List.pairwise_iff_getElem]
      intro i j hi hj hij
      have hi' : i < d'.size := by simpa using hi
      have hj' : j < d'.size := by simpa using hj
      have := hs i j (Nat.zero_le _) hij (by simpa [hsz] using hj')
      rw [ltI, getElem!_pos d' j hj', getElem!_pos d' i hi'] at this
      simp at this
      simpa using this
    · have hl' : d'.toList.length = L.length := by simpa using hsz
      unfold OwI
      rw [hl']
      refine ⟨by rw [icells_len, Array.length_toList, hsz], .inr ⟨g, cap, _, rfl, h1, heap_sortI _ h2, h3, h4, by simp [putCells, h5], ?_⟩⟩
      rw [← hfl, ← hFs]
      exact take_putI cur _ (by rw [hFs, h5]; exact Nat.mul_le_mul_right _ h3)
    · exact (fr_sortI _).mono (fun k _ e => by rw [e]; rfl)
end Go.Proofs.YtjkkonhhnmjcaaaGreatDoor

namespace Go.Proofs.YtjkkonhhnmjcaaaGreatDoor
open Go.RowKit

/-- A row of cells that may be read: n elements of z cells each. -/
structure Rd (w : World) (x : Value) (n z : Nat) (cs : List Value) : Prop where
  f : ∃ xo c, x = .slice xo n c ∧ n ≤ c ∧ (xo = none → c = 0) ∧ ∀ j u, cs[j]? = some u → ∃ g o, xo = some ⟨g, o, none⟩ ∧ w.cell? ⟨g, o + j, none⟩ = some u
  len : cs.length = n * z
  one : ∀ u ∈ cs, u.oneCell' = true
theorem Rd.fr {w w' : World} {x : Value} {n z : Nat} {cs : List Value} {S : Nat → Prop} (h : Rd w x n z cs) (hf : Fr S w w') (hS : ∀ g o n c, x = .slice (some ⟨g, o, none⟩) n c → 0 < cs.length → ¬ S g) : Rd w' x n z cs := by
  obtain ⟨xo, c, rfl, h1, h2, h3⟩ := h.f
  refine ⟨⟨xo, c, rfl, h1, h2, fun j u hu => ?_⟩, h.len, h.one⟩
  obtain ⟨g, o, rfl, hc⟩ := h3 j u hu
  have hp : 0 < cs.length := by have := (List.getElem?_eq_some_iff.1 hu).1; omega
  exact ⟨g, o, rfl, (hf.cell (p := ⟨g, o + j, none⟩) (lt_of_cell hc) (hS g o _ _ rfl hp)).trans hc⟩
theorem Rd.fr0 {w w' : World} {x : Value} {n z : Nat} {cs : List Value} (h : Rd w x n z cs) (hf : Fr (fun _ => False) w w') : Rd w' x n z cs := h.fr hf (fun _ _ _ _ _ _ h => h)
theorem Rd.nil (w : World) (z : Nat) : Rd w (.slice none 0 0) 0 z [] := ⟨⟨none, 0, rfl, Nat.le_refl _, fun _ => rfl, fun j u hu => by simp at hu⟩, by simp, fun u hu => by simp at hu⟩
/-- What one owns may be read. -/
theorem own_rd {w : World} {base e z n : Nat} {v : Value} {cs : List Value} (h : w.ownsRow base e z v n cs) (ho : ∀ u ∈ cs, u.oneCell' = true) : Rd w v n z cs := by
  have hl := h.1
  rcases h.2 with ⟨rfl, rfl⟩ | ⟨g, cap, cur, rfl, h1, h2, h3, h4, h5, h6⟩
  · refine ⟨⟨none, 0, rfl, Nat.le_refl _, fun _ => rfl, fun j u hu => ?_⟩, hl, ho⟩
    have := (List.getElem?_eq_some_iff.1 hu).1
    omega
  · refine ⟨⟨some ⟨g, 0, none⟩, cap, rfl, h3, fun e => (by cases e), fun j u hu => ⟨g, 0, rfl, ?_⟩⟩, hl, ho⟩
    rw [Nat.zero_add]
    have hj := (List.getElem?_eq_some_iff.1 hu).1
    rw [h.cellAt j (by omega)]
    exact hu
theorem scells_one (l : List SM) : ∀ u ∈ scells l, u.oneCell' = true := by
  intro u hu
  simp only [scells, List.mem_flatMap] at hu
  obtain ⟨f, _, hu⟩ := hu
  simp at hu
  rcases hu with rfl | rfl | rfl | rfl <;> rfl
theorem Tryz.infoSm : (Tryz.prog.info? 119).map (fun i => (i.zero, i.size, i.bytes)) = some (some (.agg #[.int .u32 0, .int .u32 0, .int .u32 0, .bool false]), 4, 16) := by kernel_rfl
theorem Tryz.infoIx : (Tryz.prog.info? 24).map (fun i => (i.zero, i.size, i.bytes)) = some (some (.agg #[.int .u32 0, .int .u32 0]), 2, 8) := by kernel_rfl
theorem Tryz.eq1Field (a : Addr) (n c : Nat) (w : World) : (binOp .eql 25 (.slice (some a) n c) (.slice none 0 0)).run Tryz.prog w = .ok (.bool false) w := by kernel_rfl
theorem Tryz.eq0Field (n c : Nat) (w : World) : (binOp .eql 25 (.slice none n c) (.slice none 0 0)).run Tryz.prog w = .ok (.bool true) w := by kernel_rfl
set_option maxRecDepth 100000 in
/-- slices.Clone. -/
theorem cloneField (x : Value) (n : Nat) (cs : List Value) (w : World) (hx : Rd w x n 5 cs) (hl : n ≤ 1048576) :
    Calls Tryz.prog 23 #[x] w fun e w' => ∃ v, e = .returned v ∧ w'.ownsRow w.heap.size 70 5 v n cs ∧ Fr (fun _ => False) w w' := by
  have hlen := hx.len
  have hone := hx.one
  obtain ⟨xo, xc, rfl, h1, h2, h3⟩ := hx.f
  cases xo with
  | none =>
    obtain rfl : n = 0 := by have := h2 rfl; omega
    obtain rfl : cs = [] := List.eq_nil_of_length_eq_zero (by omega)
    have n0 := Tryz.eq0Field
    clear hx h1 h2 h3 hlen hone
    go_enter Tryz.func23, Tryz.ntmps23
    go_wp2_with fail
    go_ret
    exact ⟨_, rfl, World.ownsRow_nil _ _ _ _, Fr.refl _ _⟩
  | some a =>
    obtain ⟨i0, hi, hz0, hz1, hz2⟩ := info_parts Tryz.infoFl
    have hcs : ∀ j u, cs[j]? = some u → (w.alloc (.cells #[] 70)).cell? (a.add j) = some u := fun j u hu => by
      obtain ⟨g, o, e, hc⟩ := h3 j u hu
      cases e
      rw [addr_addS]
      exact ((box1S w _).cell (p := ⟨g, o + j, none⟩) (lt_of_cell hc) (fun h => h)).trans hc
    have hmk : (w.alloc (.cells #[] 70)).ownsRow w.heap.size 70 5 (.slice (some ⟨w.heap.size, 0, none⟩) 0 0) 0 [] := World.ownsRow_made w #[] 0 (Nat.le_refl _) (Nat.zero_le _) rfl
    obtain ⟨v', w2, hr, hw2, hg2, _, hh⟩ := run_append_own_at (P := Tryz.prog) (w := w.alloc (.cells #[] 70)) w.heap.size 25 25 70 i0 (.agg #[.string ⟨#[]⟩, .int .u8 0, .string ⟨#[]⟩, .float .f32 0, .int .u8 0]) 5 48 Tryz.underlying25 hi hz0 hz1 hz2 rfl (by decide) _ 0 [] hmk a n xc cs (by omega) hcs hone (by simp only [maxLen]; omega) (by omega) (by simp)
    obtain ⟨ao, cap, rfl⟩ := own_formX hw2
    have HR := hide hr
    have HA := hide (And.intro hw2 hg2)
    clear hr hw2 hg2 hx h1 h2 h3 hcs hmk hh hlen hone hi hz0 hz1 hz2
    have n1 := Tryz.eq1Field
    go_enter Tryz.func23, Tryz.ntmps23
    go_wp2_with (at_builtin; refine wpList_appS rfl _ _ 25 25 rfl _ _ _ rfl rfl (unhide HR) ?_)
    go_ret
    obtain ⟨hw2, hg2⟩ := unhide HA
    exact ⟨_, rfl, by simpa using hw2, (box1S w _).grown hg2 (fun k hk => .inr (by simp [Value.ownBlock] at hk; omega))⟩
theorem Tryz.eq1Summary (a : Addr) (n c : Nat) (w : World) : (binOp .eql 45 (.slice (some a) n c) (.slice none 0 0)).run Tryz.prog w = .ok (.bool false) w := by kernel_rfl
theorem Tryz.eq0Summary (n c : Nat) (w : World) : (binOp .eql 45 (.slice none n c) (.slice none 0 0)).run Tryz.prog w = .ok (.bool true) w := by kernel_rfl
set_option maxRecDepth 100000 in
/-- slices.Clone. -/
theorem cloneSummary (x : Value) (n : Nat) (cs : List Value) (w : World) (hx : Rd w x n 4 cs) (hl : n ≤ 1048576) :
    Calls Tryz.prog 50 #[x] w fun e w' => ∃ v, e = .returned v ∧ w'.ownsRow w.heap.size 119 4 v n cs ∧ Fr (fun _ => False) w w' := by
  have hlen := hx.len
  have hone := hx.one
  obtain ⟨xo, xc, rfl, h1, h2, h3⟩ := hx.f
  cases xo with
  | none =>
    obtain rfl : n = 0 := by have := h2 rfl; omega
    obtain rfl : cs = [] := List.eq_nil_of_length_eq_zero (by omega)
    have n0 := Tryz.eq0Summary
    clear hx h1 h2 h3 hlen hone
    go_enter Tryz.func50, Tryz.ntmps50
    go_wp2_with fail
    go_ret
    exact ⟨_, rfl, World.ownsRow_nil _ _ _ _, Fr.refl _ _⟩
  | some a =>
    obtain ⟨i0, hi, hz0, hz1, hz2⟩ := info_parts Tryz.infoSm
    have hcs : ∀ j u, cs[j]? = some u → (w.alloc (.cells #[] 119)).cell? (a.add j) = some u := fun j u hu => by
      obtain ⟨g, o, e, hc⟩ := h3 j u hu
      cases e
      rw [addr_addS]
      exact ((box1S w _).cell (p := ⟨g, o + j, none⟩) (lt_of_cell hc) (fun h => h)).trans hc
    have hmk : (w.alloc (.cells #[] 119)).ownsRow w.heap.size 119 4 (.slice (some ⟨w.heap.size, 0, none⟩) 0 0) 0 [] := World.ownsRow_made w #[] 0 (Nat.le_refl _) (Nat.zero_le _) rfl
    obtain ⟨v', w2, hr, hw2, hg2, _, hh⟩ := run_append_own_at (P := Tryz.prog) (w := w.alloc (.cells #[] 119)) w.heap.size 45 45 119 i0 (.agg #[.int .u32 0, .int .u32 0, .int .u32 0, .bool false]) 4 16 Tryz.underlying45 hi hz0 hz1 hz2 rfl (by decide) _ 0 [] hmk a n xc cs (by omega) hcs hone (by simp only [maxLen]; omega) (by omega) (by simp)
    obtain ⟨ao, cap, rfl⟩ := own_formX hw2
    have HR := hide hr
    have HA := hide (And.intro hw2 hg2)
    clear hr hw2 hg2 hx h1 h2 h3 hcs hmk hh hlen hone hi hz0 hz1 hz2
    have n1 := Tryz.eq1Summary
    go_enter Tryz.func50, Tryz.ntmps50
    go_wp2_with (at_builtin; refine wpList_appS rfl _ _ 45 45 rfl _ _ _ rfl rfl (unhide HR) ?_)
    go_ret
    obtain ⟨hw2, hg2⟩ := unhide HA
    exact ⟨_, rfl, by simpa using hw2, (box1S w _).grown hg2 (fun k hk => .inr (by simp [Value.ownBlock] at hk; omega))⟩
theorem Tryz.eq1Id (a : Addr) (n c : Nat) (w : World) : (binOp .eql 54 (.slice (some a) n c) (.slice none 0 0)).run Tryz.prog w = .ok (.bool false) w := by kernel_rfl
theorem Tryz.eq0Id (n c : Nat) (w : World) : (binOp .eql 54 (.slice none n c) (.slice none 0 0)).run Tryz.prog w = .ok (.bool true) w := by kernel_rfl
set_option maxRecDepth 100000 in
/-- slices.Clone. -/
theorem cloneId (x : Value) (n : Nat) (cs : List Value) (w : World) (hx : Rd w x n 2 cs) (hl : n ≤ 1048576) :
    Calls Tryz.prog 22 #[x] w fun e w' => ∃ v, e = .returned v ∧ w'.ownsRow w.heap.size 24 2 v n cs ∧ Fr (fun _ => False) w w' := by
  have hlen := hx.len
  have hone := hx.one
  obtain ⟨xo, xc, rfl, h1, h2, h3⟩ := hx.f
  cases xo with
  | none =>
    obtain rfl : n = 0 := by have := h2 rfl; omega
    obtain rfl : cs = [] := List.eq_nil_of_length_eq_zero (by omega)
    have n0 := Tryz.eq0Id
    clear hx h1 h2 h3 hlen hone
    go_enter Tryz.func22, Tryz.ntmps22
    go_wp2_with fail
    go_ret
    exact ⟨_, rfl, World.ownsRow_nil _ _ _ _, Fr.refl _ _⟩
  | some a =>
    obtain ⟨i0, hi, hz0, hz1, hz2⟩ := info_parts Tryz.infoIx
    have hcs : ∀ j u, cs[j]? = some u → (w.alloc (.cells #[] 24)).cell? (a.add j) = some u := fun j u hu => by
      obtain ⟨g, o, e, hc⟩ := h3 j u hu
      cases e
      rw [addr_addS]
      exact ((box1S w _).cell (p := ⟨g, o + j, none⟩) (lt_of_cell hc) (fun h => h)).trans hc
    have hmk : (w.alloc (.cells #[] 24)).ownsRow w.heap.size 24 2 (.slice (some ⟨w.heap.size, 0, none⟩) 0 0) 0 [] := World.ownsRow_made w #[] 0 (Nat.le_refl _) (Nat.zero_le _) rfl
    obtain ⟨v', w2, hr, hw2, hg2, _, hh⟩ := run_append_own_at (P := Tryz.prog) (w := w.alloc (.cells #[] 24)) w.heap.size 54 54 24 i0 (.agg #[.int .u32 0, .int .u32 0]) 2 8 Tryz.underlying54 hi hz0 hz1 hz2 rfl (by decide) _ 0 [] hmk a n xc cs (by omega) hcs hone (by simp only [maxLen]; omega) (by omega) (by simp)
    obtain ⟨ao, cap, rfl⟩ := own_formX hw2
    have HR := hide hr
    have HA := hide (And.intro hw2 hg2)
    clear hr hw2 hg2 hx h1 h2 h3 hcs hmk hh hlen hone hi hz0 hz1 hz2
    have n1 := Tryz.eq1Id
    go_enter Tryz.func22, Tryz.ntmps22
    go_wp2_with (at_builtin; refine wpList_appS rfl _ _ 54 54 rfl _ _ _ rfl rfl (unhide HR) ?_)
    go_ret
    obtain ⟨hw2, hg2⟩ := unhide HA
    exact ⟨_, rfl, by simpa using hw2, (box1S w _).grown hg2 (fun k hk => .inr (by simp [Value.ownBlock] at hk; omega))⟩
end Go.Proofs.YtjkkonhhnmjcaaaGreatDoor

namespace Go.Proofs.YtjkkonhhnmjcaaaGreatDoor
open Go.RowKit

/-- What Act.put leaves of lists written out. -/
theorem nrmS {α : Type} : (∀ (l : List α) (i : Nat) (h : i < l.toArray.size), l.toArray[i]'h = l[i]'(by simpa using h)) ∧ (∀ (a : α) (l : List α) (h : 0 < (a :: l).length), (a :: l)[0]'h = a) ∧ (∀ (a : α) (l : List α) (i : Nat) (h : i + 1 < (a :: l).length), (a :: l)[i + 1]'h = l[i]'(by simpa using h)) ∧ (∀ (l : List α) (i : Nat) (v : α), l.toArray.setIfInBounds i v = (l.set i v).toArray) ∧ (∀ (a b : α) (l : List α), (a :: l).set 0 b = b :: l) ∧ (∀ (a b : α) (l : List α) (i : Nat), (a :: l).set (i + 1) b = a :: l.set i b) :=
  ⟨fun _ _ _ => rfl, fun _ _ _ => rfl, fun _ _ _ _ => rfl, fun _ _ _ => List.setIfInBounds_toArray .., fun _ _ _ => rfl, fun _ _ _ _ => rfl⟩
/-- An operation of a region that only reads, taken first. -/
theorem wtkS {P : Program} {md : Region.Mode} {ops : Array Oper} {Q : Exit → Act → World → Prop} {S : World → Prop} {i : Nat} {oi : Oper} {v : Value} {fuel : Nat} {listed : Array Bool} {a : Act} {w : World} (hi : ops[i]? = some oi) (hy : YieldsIf P ops S oi v a) (hS : S w)
    (h : wpAnyH P md ops Q S fuel (listed.setIfInBounds i true) (a.put oi.dst v) w) (hs : Region.noSelect ops = true := by kernel_rfl) (hf : Region.free md ops listed i = true := by kernel_rfl) (hr : (Region.ready md ops listed).contains i = true := by kernel_rfl) (hQ : ∀ c a w, Q (.panic c) (a.put oi.dst v) w → Q (.panic c) a w := by exact fun _ _ _ h => h) : wpAnyH P md ops Q S (fuel + 1) listed a w := wpAnyH_take hi hs hf hr hQ hy hS h
/-- The same, its value reckoned by the way. -/
theorem wtk2S {P : Program} {md : Region.Mode} {ops : Array Oper} {Q : Exit → Act → World → Prop} {S : World → Prop} {i : Nat} {oi : Oper} {v : Value} {fuel : Nat} {listed : Array Bool} {a : Act} {w : World} (hi : ops[i]? = some oi) (hS : S w)
    (h : wpAnyH P md ops Q S fuel (listed.setIfInBounds i true) (a.put oi.dst v) w) (hy : YieldsIf P ops S oi v a := by refine Or.inl ⟨by rfl, ?_⟩; intro w hSw; (try dsimp only at hSw); go_simp; (try with_reducible rfl)) (hs : Region.noSelect ops = true := by kernel_rfl) (hf : Region.free md ops listed i = true := by kernel_rfl) (hr : (Region.ready md ops listed).contains i = true := by kernel_rfl) (hQ : ∀ c a w, Q (.panic c) (a.put oi.dst v) w → Q (.panic c) a w := by exact fun _ _ _ h => h) : wpAnyH P md ops Q S (fuel + 1) listed a w := wpAnyH_take hi hs hf hr hQ hy hS h
section
variable {P : Program} {ops : Array Oper} {Q : Exit → Act → World → Prop} {md : Region.Mode} {S : World → Prop}
theorem Oper.wp_impQS {o : Oper} {a : Act} {w : World} {K : Act → World → Prop} {Q1 Q2 : Exit → Act → World → Prop} (hp : ∀ e a w, e ≠ Exit.normal → Q1 e a w → Q2 e a w) (hh : o.wp P a w K Q1) : o.wp P a w K Q2 := by
  have hl : LetsOut Q1 → LetsOut Q2 := fun ⟨a, w, h⟩ => ⟨a, w, hp _ _ _ (by intro h; cases h) h⟩
  unfold Oper.wp at *
  generalize (execOp a.eval o).run P w = r at *
  cases r with
  | ok n w' =>
    cases n <;> simp only [Oper.upon] at hh ⊢ <;>
      first
        | exact hh
        | exact Calls.mono hh (fun e w'' he => by cases e <;> first | exact he | exact hp _ _ _ (by intro h; cases h) he | exact hl he)
  | halt x w' => cases x <;> simp only [Oper.upon] at hh ⊢ <;> first | exact hh | exact hp _ _ _ (by intro h; cases h) hh
theorem wpOp_impS {Q1 Q2 : Exit → Act → World → Prop} (hp : ∀ e a w, e ≠ Exit.normal → Q1 e a w → Q2 e a w) {i : Nat} {K : Act → World → Prop} {a : Act} {w : World} (h : wpOp P ops Q1 i K a w) : wpOp P ops Q2 i K a w := by
  have hl : LetsOut Q1 → LetsOut Q2 := fun ⟨a, w, h⟩ => ⟨a, w, hp _ _ _ (by intro h; cases h) h⟩
  unfold wpOp at *
  split
  · simpa [*] using h
  · rename_i o ho
    simp only [ho] at h
    split
    · rename_i hw
      simp only [hw, if_true] at h
      exact h.imp (Oper.wp_impQS hp) (fun ⟨h1, h2⟩ => ⟨h1, hl h2⟩)
    · rename_i hw
      simp only [hw] at h
      exact h
/-- What is asked behind a region without its last operation. -/
def lastQS (P : Program) (om : Oper) (Q : Exit → Act → World → Prop) : Exit → Act → World → Prop
  | .normal, a, w => om.wp P a w (fun a' w' => Q .normal a' w') Q
  | e, a, w => Q e a w
/-- Does operation i wait for j, by others too? -/
def reachBS (md : Region.Mode) (ops : Array Oper) : Nat → Nat → Nat → Bool
  | 0, _, _ => false
  | n + 1, i, j => match ops[i]? with
    | some o => o.after.any fun e => Region.binds md e && (e.on == j || reachBS md ops n e.on j)
    | none => false
/-- Does operation m wait for all others? -/
def covBS (md : Region.Mode) (ops : Array Oper) (m : Nat) : Bool := (List.range ops.size).all fun j => j == m || reachBS md ops 9 m j
/-- Does each operation wait for those ahead of it alone? -/
def ordBS (ops : Array Oper) : Bool := (List.range ops.size).all fun j => match ops[j]? with
  | some o => o.after.all fun e => decide (e.on < j)
  | none => true
theorem lastQ_impS {om : Oper} : ∀ (e : Exit) (a : Act) (w : World), e ≠ Exit.normal → lastQS P om Q e a w → Q e a w := fun e a w hn h => by
  cases e <;> first | exact absurd rfl hn | exact h
theorem getD_bothS {l : Array Bool} {j : Nat} (h : l.getD j true = false) : l.getD j false = false := by
  rcases Nat.lt_or_ge j l.size with hj | hj
  · simp [hj] at h ⊢; exact h
  · simp [Array.getElem?_eq_none hj] at h
/-- What is waited for has come up. -/
def Shut2S (md : Region.Mode) (ops : Array Oper) (l : Array Bool) : Prop := ∀ j oj, ops[j]? = some oj → l.getD j false = true → ∀ e ∈ oj.after, Region.binds md e = true → l.getD e.on false = true
theorem Shut2S.set {l : Array Bool} (h : Shut2S md ops l) {i : Nat} (hi : i ∈ Region.ready md ops l) : Shut2S md ops (l.setIfInBounds i true) := fun j oj hj hl e he hb => by
  by_cases hji : j = i
  · subst hji
    obtain ⟨_, o, ho, h1⟩ := mem_ready.1 hi
    rw [hj] at ho
    cases ho
    exact getD_set_true (h1 e he hb)
  · rw [getD_set_ne false (Ne.symm hji)] at hl
    exact getD_set_true (h j oj hj hl e he hb)
theorem reach_listedS {l : Array Bool} (h : Shut2S md ops l) : ∀ (n i j : Nat) (o : Oper), ops[i]? = some o → (∀ e ∈ o.after, Region.binds md e = true → l.getD e.on false = true) → reachBS md ops n i j = true → l.getD j false = true
  | 0, _, _, _, _, _, hr => by cases hr
  | n + 1, i, j, o, ho, hd, hr => by
    simp only [reachBS, ho] at hr
    obtain ⟨e, he, hb⟩ := Array.any_eq_true'.1 hr
    simp only [Bool.and_eq_true, Bool.or_eq_true, beq_iff_eq] at hb
    have h6 := hd e he hb.1
    rcases hb.2 with h7 | h7
    · rw [← h7]; exact h6
    · cases ho2 : ops[e.on]? with
      | none =>
        cases n with
        | zero => cases h7
        | succ n => simp only [reachBS, ho2] at h7; cases h7
      | some o2 => exact reach_listedS h n e.on j o2 ho2 (fun e2 he2 hb2 => h e.on o2 ho2 h6 e2 he2 hb2) h7
/-- Behind all others comes the one that waits for them all; S need not hold behind it. -/
theorem any_of_lastS {m : Nat} {om : Oper} (hm : ops[m]? = some om) (hgd : om.guard = none) (hcov : covBS md ops m = true) (hord : ordBS ops = true) :
    ∀ (fuel : Nat) (listed : Array Bool) (a : Act) (w : World), listed.size = ops.size → Shut2S md ops listed → listed.getD m true = false → wpAnyH P md ops (lastQS P om Q) S fuel (listed.setIfInBounds m true) a w → wpAny P md ops Q (fuel + 1) listed a w := by
  have hne : ∀ listed : Array Bool, listed.size = ops.size → listed.getD m true = false → Region.ready md ops listed ≠ [] := fun listed hsz hun h0 => by
    have hall : ∀ j, listed.getD j true = true := fun j => by
      induction j using Nat.strongRecOn with
      | _ j ih =>
        cases hj : listed.getD j true with
        | true => rfl
        | false =>
          have hjl : j < ops.size := by
            rcases Nat.lt_or_ge j listed.size with h | h
            · omega
            · simp [Array.getElem?_eq_none h] at hj
          have hr : j ∈ Region.ready md ops listed := mem_ready.2 ⟨hj, ops[j], Array.getElem?_eq_getElem hjl, fun e he _ => by
            have h1 := List.all_eq_true.1 hord j (List.mem_range.2 hjl)
            rw [Array.getElem?_eq_getElem hjl] at h1
            have h2 := of_decide_eq_true (Array.all_eq_true_iff_forall_mem.1 h1 e he)
            have h3 := ih e.on h2
            have h4 : e.on < listed.size := by omega
            simp [h4] at h3 ⊢
            exact h3⟩
          rw [h0] at hr
          cases hr
    rw [hall m] at hun
    cases hun
  have hend : ∀ listed : Array Bool, Shut2S md ops listed → m ∈ Region.ready md ops listed → Region.ready md ops (listed.setIfInBounds m true) = [] := fun listed hsh hr => by
    apply List.eq_nil_iff_forall_not_mem.2
    intro k hk
    obtain ⟨h1, ok, hok, _⟩ := mem_ready.1 hk
    obtain ⟨h3, om', hom', h4⟩ := mem_ready.1 hr
    rw [hm] at hom'
    cases hom'
    have hkl : k < ops.size := (Array.getElem?_eq_some_iff.1 hok).1
    by_cases hkm : k = m
    · subst hkm
      rcases Nat.lt_or_ge k listed.size with h | h
      · simp [h] at h1
      · simp [Array.getElem?_eq_none h] at h3
    · rw [getD_set_ne true (Ne.symm hkm)] at h1
      have h5 := List.all_eq_true.1 hcov k (List.mem_range.2 hkl)
      simp only [Bool.or_eq_true, beq_iff_eq, hkm, false_or] at h5
      have h8 := reach_listedS hsh 9 m k om hm (fun e he hb => h4 e he hb) h5
      rw [getD_bothS h1] at h8
      cases h8
  have hop : ∀ (K : Act → World → Prop) (a : Act) (w : World), om.wp P a w K Q → wpOp P ops Q m K a w := fun K a w h => by
    unfold wpOp
    have hw : Region.wanted om (yielded ops a.tmps) = true := by simp [Region.wanted, hgd]
    simp only [hm, hw, if_true]
    exact .inl h
  intro fuel
  induction fuel with
  | zero =>
    intro listed a w hsz hsh hun H
    refine ⟨fun h0 => absurd h0 (hne listed hsz hun), fun j hj => ?_⟩
    by_cases hjm : j = m
    · subst hjm
      exact hop _ a w (Oper.wp_mono (fun a' w' h => ⟨hend listed hsh hj, h⟩) H.2)
    · have := ready_mono hj hjm
      rw [H.1] at this
      cases this
  | succ fuel ih =>
    intro listed a w hsz hsh hun H
    refine ⟨fun h0 => absurd h0 (hne listed hsz hun), fun j hj => ?_⟩
    by_cases hjm : j = m
    · subst hjm
      exact hop _ a w (Oper.wp_mono (fun a' w' h => ⟨fun _ => h, by rw [hend listed hsh hj]; simp⟩) (H.1 (hend listed hsh hj)))
    · refine wpOp_mono (fun a' w' h => ih (listed.setIfInBounds j true) a' w' (by simpa using hsz) (hsh.set hj) (by rw [getD_set_ne true hjm]; exact hun) ?_) (wpOp_impS lastQ_impS (H.2 j (ready_mono hj hjm)))
      rw [Array.setIfInBounds_comm _ _ hjm]
      exact h.2
/-- A region whose last operation waits for all others: S holds behind each of the others. -/
theorem wp_region_lastS {id n m : Nat} {om : Oper} {a : Act} {w : World} (hP : P.follows .mixedOrders = true) (hn : ops.size = n + 1) (hm : ops[m]? = some om) (hgd : om.guard = none) (hcov : covBS .any ops m = true) (hord : ordBS ops = true) (hS : S w.drew)
    (h : S w.drew → wpAnyH P .any ops (lastQS P om Q) S n ((Array.replicate ops.size false).setIfInBounds m true) a w.drew) : (Code.region id ops true).wp P Q a w := by
  refine wp_region_any hP ?_
  rw [hn]
  have hml : m < ops.size := (Array.getElem?_eq_some_iff.1 hm).1
  have h1 := h hS
  rw [hn] at h1
  have hml2 : m < n + 1 := by omega
  exact any_of_lastS hm hgd hcov hord n (Array.replicate (n + 1) false) a w.drew (by simp [hn]) (fun j oj _ hl => by
    rcases Nat.lt_or_ge j (n + 1) with h3 | h3 <;> simp [h3] at hl) (by simp [hml2]) h1
/-- The same for several: those of pl come behind all. -/
def reachC (md : Region.Mode) (ops : Array Oper) (pl : List Nat) : Nat → Nat → Nat → Bool
  | 0, _, _ => false
  | n + 1, i, j => match ops[i]? with
    | some o => o.after.any fun e => Region.binds md e && (e.on == j || (!pl.contains e.on && reachC md ops pl n e.on j))
    | none => false
def covC (md : Region.Mode) (ops : Array Oper) (pl : List Nat) (m : Nat) : Bool := (List.range ops.size).all fun j => j == m || (pl.contains j || reachC md ops pl 9 m j)
def Shut3 (pl : List Nat) (md : Region.Mode) (ops : Array Oper) (l : Array Bool) : Prop := ∀ j oj, ops[j]? = some oj → pl.contains j = false → l.getD j false = true → ∀ e ∈ oj.after, Region.binds md e = true → l.getD e.on false = true
theorem Shut3.set {pl : List Nat} {l : Array Bool} (h : Shut3 pl md ops l) {i : Nat} (hi : i ∈ Region.ready md ops l) : Shut3 pl md ops (l.setIfInBounds i true) := fun j oj hj hp hl e he hb => by
  by_cases hji : j = i
  · subst hji
    obtain ⟨_, o, ho, h1⟩ := mem_ready.1 hi
    rw [hj] at ho
    cases ho
    exact getD_set_true (h1 e he hb)
  · rw [getD_set_ne false (Ne.symm hji)] at hl
    exact getD_set_true (h j oj hj hp hl e he hb)
theorem reachC_listed {pl : List Nat} {l : Array Bool} (h : Shut3 pl md ops l) : ∀ (n i j : Nat) (o : Oper), ops[i]? = some o → (∀ e ∈ o.after, Region.binds md e = true → l.getD e.on false = true) → reachC md ops pl n i j = true → l.getD j false = true
  | 0, _, _, _, _, _, hr => by cases hr
  | n + 1, i, j, o, ho, hd, hr => by
    simp only [reachC, ho] at hr
    obtain ⟨e, he, hb⟩ := Array.any_eq_true'.1 hr
    simp only [Bool.and_eq_true, Bool.or_eq_true, beq_iff_eq] at hb
    have h6 := hd e he hb.1
    rcases hb.2 with h7 | ⟨h9, h7⟩
    · rw [← h7]; exact h6
    · cases ho2 : ops[e.on]? with
      | none =>
        cases n with
        | zero => cases h7
        | succ n => simp only [reachC, ho2] at h7; cases h7
      | some o2 => exact reachC_listed h n e.on j o2 ho2 (fun e2 he2 hb2 => h e.on o2 ho2 (by simpa using h9) h6 e2 he2 hb2) h7
theorem any_of_lastA {pl : List Nat} {m : Nat} {om : Oper} (hm : ops[m]? = some om) (hgd : om.guard = none) (hcov : covC md ops pl m = true) (hord : ordBS ops = true) :
    ∀ (fuel : Nat) (listed : Array Bool) (a : Act) (w : World), listed.size = ops.size → Shut3 pl md ops listed → (∀ j, pl.contains j = true → j < ops.size → listed.getD j true = true) → listed.getD m true = false → wpAny P md ops (lastQS P om Q) fuel (listed.setIfInBounds m true) a w → wpAny P md ops Q (fuel + 1) listed a w := by
  have hne : ∀ listed : Array Bool, listed.size = ops.size → listed.getD m true = false → Region.ready md ops listed ≠ [] := fun listed hsz hun h0 => by
    have hall : ∀ j, listed.getD j true = true := fun j => by
      induction j using Nat.strongRecOn with
      | _ j ih =>
        cases hj : listed.getD j true with
        | true => rfl
        | false =>
          have hjl : j < ops.size := by
            rcases Nat.lt_or_ge j listed.size with h | h
            · omega
            · simp [Array.getElem?_eq_none h] at hj
          have hr : j ∈ Region.ready md ops listed := mem_ready.2 ⟨hj, ops[j], Array.getElem?_eq_getElem hjl, fun e he _ => by
            have h1 := List.all_eq_true.1 hord j (List.mem_range.2 hjl)
            rw [Array.getElem?_eq_getElem hjl] at h1
            have h2 := of_decide_eq_true (Array.all_eq_true_iff_forall_mem.1 h1 e he)
            have h3 := ih e.on h2
            have h4 : e.on < listed.size := by omega
            simp [h4] at h3 ⊢
            exact h3⟩
          rw [h0] at hr
          cases hr
    rw [hall m] at hun
    cases hun
  have hend : ∀ listed : Array Bool, Shut3 pl md ops listed → (∀ j, pl.contains j = true → j < ops.size → listed.getD j true = true) → m ∈ Region.ready md ops listed → Region.ready md ops (listed.setIfInBounds m true) = [] := fun listed hsh hpl hr => by
    apply List.eq_nil_iff_forall_not_mem.2
    intro k hk
    obtain ⟨h1, ok, hok, _⟩ := mem_ready.1 hk
    obtain ⟨h3, om', hom', h4⟩ := mem_ready.1 hr
    rw [hm] at hom'
    cases hom'
    have hkl : k < ops.size := (Array.getElem?_eq_some_iff.1 hok).1
    by_cases hkm : k = m
    · subst hkm
      rcases Nat.lt_or_ge k listed.size with h | h
      · simp [h] at h1
      · simp [Array.getElem?_eq_none h] at h3
    · rw [getD_set_ne true (Ne.symm hkm)] at h1
      have h5 := List.all_eq_true.1 hcov k (List.mem_range.2 hkl)
      rw [Bool.or_eq_true, Bool.or_eq_true, beq_iff_eq] at h5
      rcases h5 with h5 | h5 | h5
      · exact absurd h5 hkm
      · rw [hpl k h5 hkl] at h1
        cases h1
      · have h8 := reachC_listed hsh 9 m k om hm (fun e he hb => h4 e he hb) h5
        rw [getD_bothS h1] at h8
        cases h8
  have hop : ∀ (K : Act → World → Prop) (a : Act) (w : World), om.wp P a w K Q → wpOp P ops Q m K a w := fun K a w h => by
    unfold wpOp
    have hw : Region.wanted om (yielded ops a.tmps) = true := by simp [Region.wanted, hgd]
    simp only [hm, hw, if_true]
    exact .inl h
  intro fuel
  induction fuel with
  | zero =>
    intro listed a w hsz hsh hpl hun H
    refine ⟨fun h0 => absurd h0 (hne listed hsz hun), fun j hj => ?_⟩
    by_cases hjm : j = m
    · subst hjm
      exact hop _ a w (Oper.wp_mono (fun a' w' h => ⟨hend listed hsh hpl hj, h⟩) H.2)
    · have := ready_mono hj hjm
      rw [H.1] at this
      cases this
  | succ fuel ih =>
    intro listed a w hsz hsh hpl hun H
    refine ⟨fun h0 => absurd h0 (hne listed hsz hun), fun j hj => ?_⟩
    by_cases hjm : j = m
    · subst hjm
      exact hop _ a w (Oper.wp_mono (fun a' w' h => ⟨fun _ => h, by rw [hend listed hsh hpl hj]; simp⟩) (H.1 (hend listed hsh hpl hj)))
    · refine wpOp_mono (fun a' w' h => ih (listed.setIfInBounds j true) a' w' (by simpa using hsz) (hsh.set hj) (fun k hk hkl => ?_) (by rw [getD_set_ne true hjm]; exact hun) ?_) (wpOp_impS lastQ_impS (H.2 j (ready_mono hj hjm)))
      · have h3 := hpl k hk hkl
        have hks : k < listed.size := by omega
        rw [Array.getD_eq_getD_getElem?, Array.getElem?_setIfInBounds]
        by_cases e : j = k
        · subst e; simp [hks]
        · rw [if_neg e, ← Array.getD_eq_getD_getElem?]; exact h3
      · rw [Array.setIfInBounds_comm _ _ hjm]
        exact h
theorem shut_none {pl : List Nat} {l : Array Bool} (h : ∀ j, pl.contains j = false → l.getD j false = false) : Shut3 pl md ops l := fun j oj _ hp hl => by rw [h j hp] at hl; cases hl
/-- A region whose last three operations come behind all others, one behind the other: S holds behind each of the others. -/
theorem wp_region_last3 {id n m1 m2 m3 : Nat} {o1 o2 o3 : Oper} {a : Act} {w : World} (hP : P.follows .mixedOrders = true) (hn : ops.size = n + 3) (h1 : ops[m1]? = some o1) (h2 : ops[m2]? = some o2) (h3 : ops[m3]? = some o3)
    (g1 : o1.guard = none) (g2 : o2.guard = none) (g3 : o3.guard = none) (c1 : covC .any ops [m2, m3] m1 = true) (c2 : covC .any ops [m3] m2 = true) (c3 : covC .any ops [] m3 = true) (hord : ordBS ops = true) (hd : m1 ≠ m2 ∧ m1 ≠ m3 ∧ m2 ≠ m3)
    (hS : S w.drew) (h : S w.drew → wpAnyH P .any ops (lastQS P o1 (lastQS P o2 (lastQS P o3 Q))) S n ((((Array.replicate ops.size false).setIfInBounds m3 true).setIfInBounds m2 true).setIfInBounds m1 true) a w.drew) : (Code.region id ops true).wp P Q a w := by
  refine wp_region_any hP ?_
  have hl1 : m1 < ops.size := (Array.getElem?_eq_some_iff.1 h1).1
  have hl2 : m2 < ops.size := (Array.getElem?_eq_some_iff.1 h2).1
  have hl3 : m3 < ops.size := (Array.getElem?_eq_some_iff.1 h3).1
  obtain ⟨hd1, hd2, hd3⟩ := hd
  have hA := wpAny_of_held _ _ _ _ (h hS)
  rw [hn] at hA hl1 hl2 hl3 ⊢
  have e0 : ∀ j, (Array.replicate (n + 3) false).getD j false = false := fun j => by
    rcases Nat.lt_or_ge j (n + 3) with h3 | h3 <;> simp [h3]
  have B1 := any_of_lastA (pl := [m2, m3]) h1 g1 c1 hord n _ a w.drew (by simp [hn]) (shut_none fun j hj => by
      simp only [List.contains_cons, List.contains_nil, Bool.or_false, Bool.or_eq_false_iff, beq_eq_false_iff_ne] at hj
      rw [getD_set_ne false (fun e => hj.1 e.symm), getD_set_ne false (fun e => hj.2 e.symm)]; exact e0 j) (fun j hj hjl => by
      simp only [List.contains_cons, List.contains_nil, Bool.or_false, Bool.or_eq_true, beq_iff_eq] at hj
      rcases hj with rfl | rfl
      · simp [hl2]
      · rw [getD_set_ne true hd3]; simp [hl3]) (by rw [getD_set_ne true (fun e => hd1 e.symm), getD_set_ne true (fun e => hd2 e.symm)]; simp [hl1]) hA
  have B2 := any_of_lastA (pl := [m3]) h2 g2 c2 hord (n + 1) _ a w.drew (by simp [hn]) (shut_none fun j hj => by
      simp only [List.contains_cons, List.contains_nil, Bool.or_false, beq_eq_false_iff_ne] at hj
      rw [getD_set_ne false (fun e => hj e.symm)]; exact e0 j) (fun j hj hjl => by
      simp only [List.contains_cons, List.contains_nil, Bool.or_false, beq_iff_eq] at hj
      subst hj
      simp [hl3]) (by rw [getD_set_ne true (fun e => hd3 e.symm)]; simp [hl2]) B1
  exact any_of_lastA (pl := []) h3 g3 c3 hord (n + 2) _ a w.drew (by simp [hn]) (shut_none fun j hj => e0 j) (fun j hj hjl => by simp at hj) (by simp [hl3]) B2
end

theorem blkset {w : World} {b t : Nat} {cs : Array Value} (h : w.heap[b]? = some (.cells cs t)) (o : Nat) (v : Value) : (w.setCell ⟨b, o, none⟩ v).heap[b]? = some (.cells (cs.setIfInBounds o v) t) := by
  simp [World.setCell, Array.getElem?_modify, h]
/-- A whole struct is stored into its box. -/
theorem setCells_blk (g t : Nat) : ∀ (vs olds pre : List Value) (o : Nat) (w : World), w.heap[g]? = some (.cells (pre ++ olds).toArray t) → olds.length = vs.length → pre.length = o → (w.setCells g o vs).heap[g]? = some (.cells (pre ++ vs).toArray t)
  | [], olds, pre, o, w, h, hl, _ => by
    obtain rfl := List.eq_nil_of_length_eq_zero hl
    exact h
  | v :: vs, [], pre, o, w, h, hl, _ => by cases hl
  | v :: vs, a :: olds, pre, o, w, h, hl, ho => by
    rw [World.setCells]
    have := setCells_blk g t vs olds (pre ++ [v]) (o + 1) (w.setCell ⟨g, o, none⟩ v) (by rw [blkset h]; subst ho; simp) (by simpa using hl) (by simp [ho])
    simpa using this
theorem setCells_fr (g : Nat) : ∀ (vs : List Value) (o : Nat) (w : World), Fr (fun k => k = g) w (w.setCells g o vs)
  | [], o, w => Fr.refl _ _
  | v :: vs, o, w => by
    rw [World.setCells]
    exact ((Fr.refl (fun k => k = g) w).setCell (p := ⟨g, o, none⟩) (.inl rfl) v).trans (setCells_fr g vs (o + 1) _) (fun _ _ h => h)
theorem st_all {P : Program} {W : World} {g t ty : Nat} (olds news : List Value) (hb : W.heap[g]? = some (.cells olds.toArray t)) (hl : olds.length = news.length) (hi : (P.info? ty).map (·.size) = some news.length) (h1 : ∀ v ∈ news, v.oneCell' = true) :
    ∃ W8, (Instr.storeAt ty (.pointer (some ⟨g, 0, none⟩)) (.agg news.toArray)).run P W = .ok () W8 ∧ W8.heap[g]? = some (.cells news.toArray t) ∧ Fr (fun k => k = g) W W8 := by
  refine ⟨W.setCells g 0 news, run_storeAt_mid W g 0 ty news.toArray (fun j hj => ?_) (by simpa using hi) (all_oneCell_toArray h1), ?_, setCells_fr g news 0 W⟩
  · have hj : j < news.length := by simpa using hj
    have hj2 : j < olds.length := by omega
    refine ⟨?_, by simp [World.frozen?, hb]⟩
    simp [World.cell?, hb, hj2]
  · have := setCells_blk g t news olds [] 0 W (by simpa using hb) hl rfl
    simpa using this
theorem wpList_stN {P : Program} {w w' : World} {ops : Array Oper} {rest : List Oper} {op : Oper} {a : Act} {Q : Exit → Act → World → Prop} (hgd : op.guard = none) (ty : TypeId) (x y : Operand) (ho : op.op = .store ty x y)
    (p v : Value) (hx : a.eval x = p) (hy : a.eval y = v) (hr : (Instr.storeAt ty p v).run P w = .ok () w')
    (h : wpList P ops Q rest (a.put op.dst undef) w') : wpList P ops Q (op :: rest) a w :=
  wpList_plain hgd fun _ hK => by
    unfold Oper.wp execOp
    simp only [ho, hx, hy, Sem.run_bind, hr, Result.andThen_ok, Sem.run_pure]
    exact hK _ _ h
theorem range_of_block {W : World} {b : Nat} {cs : List Value} {t : TypeId} (h : W.heap[b]? = some (.cells cs.toArray t)) : W.rangeAt b 0 cs := by
  intro j v hv
  simp only [World.cell?, h]
  simpa using hv
theorem results_cellt {P : Program} {fn : Func} {p u : Tmp} {ty : TypeId} (h : fn.results = #[.cell p ty, .tmp u]) (tmps : Array Value) (w : World) (b o : Nat) (cs : List Value) (d : TypeDesc) (x : Value)
    (hp : tmps.getD p undef = .pointer (some ⟨b, o, none⟩)) (hx : tmps.getD u undef = x) (hc : w.rangeAt b o cs)
    (hu : P.underlying ty = some d) (hd : d.isRow = true) (hi : (P.info? ty).map (·.size) = some cs.length) :
    (results fn tmps).run P w = .ok (.tuple #[.agg cs.toArray, x]) w := by
  have hp' : tmps[p]?.getD undef = .pointer (some ⟨b, o, none⟩) := by simpa using hp
  have hx' : tmps[u]?.getD undef = x := by simpa using hx
  simp [results, h, hp', hx', asAddr, run_loadVar_mid w b o ty cs d hc hu hd hi]
theorem results4 {fn : Func} {t u v x : Tmp} (h : fn.results = #[.tmp t, .tmp u, .tmp v, .tmp x]) (tmps : Array Value) (P : Program) (w : World) :
    (results fn tmps).run P w = .ok (.tuple #[tmps.getD t undef, tmps.getD u undef, tmps.getD v undef, tmps.getD x undef]) w := by
  simp [results, h]
theorem wp_stN {P : Program} {w w' : World} {op : Oper} {a : Act} {K : Act → World → Prop} {Q : Exit → Act → World → Prop} (ty : TypeId) (x y : Operand) (ho : op.op = .store ty x y)
    (p v : Value) (hx : a.eval x = p) (hy : a.eval y = v) (hr : (Instr.storeAt ty p v).run P w = .ok () w')
    (h : K (a.put op.dst undef) w') : op.wp P a w K Q := by
  unfold Oper.wp execOp
  simp only [ho, hx, hy, Sem.run_bind, hr, Result.andThen_ok, Sem.run_pure]
  exact h
/-- A store whose run is known, as a step of a region. -/
theorem step_stN {P : Program} {w w' : World} {ops : Array Oper} {op : Oper} {a : Act} {K : Act → World → Prop} {Q : Exit → Act → World → Prop} {E : Prop} (hgd : op.guard = none) (ty : TypeId) (x y : Operand) (ho : op.op = .store ty x y)
    (p v : Value) (hx : a.eval x = p) (hy : a.eval y = v) (hr : (Instr.storeAt ty p v).run P w = .ok () w')
    (h : K (a.put op.dst undef) w') : if Region.wanted op (yielded ops a.tmps) = true then Oper.wp P op a w K Q else E := by
  have hw : Region.wanted op (yielded ops a.tmps) = true := by simp [Region.wanted, hgd]
  rw [if_pos hw]
  unfold Oper.wp execOp
  simp only [ho, hx, hy, Sem.run_bind, hr, Result.andThen_ok, Sem.run_pure]
  exact h
end Go.Proofs.YtjkkonhhnmjcaaaGreatDoor

