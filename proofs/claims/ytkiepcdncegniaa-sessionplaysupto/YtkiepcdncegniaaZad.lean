import Derived.Test.YtkiepcdncegniaaOah
import Derived.Laws.OwnMore
import Derived.Laws.MakeOwn
import Derived.Lib.AppendStr
import Derived.Deep.Cut
import Derived.Deep.CutRange
import Derived.Laws.IdiomCopy
namespace Go.Proofs.Ytkiepcdncegniaa
open Go.RowKit

theorem ownsRow_of_block {w w' : World} {base e size n : Nat} {v : Value} {xs : List Value} (h : w.ownsRow base e size v n xs) (hb : ∀ g, v.ownBlock = some g → w'.heap[g]? = w.heap[g]?) : w'.ownsRow base e size v n xs := by
  refine ⟨h.1, ?_⟩
  rcases h.2 with h0 | ⟨g, cap, cur, e1, e2, e3, e4⟩
  · exact .inl h0
  · exact .inr ⟨g, cap, cur, e1, e2, (hb g (by rw [e1]; rfl)).trans e3, e4⟩
theorem wpList_app {P : Program} {w w' : World} {ops : Array Oper} {rest : List Oper} {o : Oper} {a : Act} {Q : Exit → Act → World → Prop} (hgd : o.guard = none) (s x : Operand) (t u : TypeId)
    (ho : o.op = .call { callee := .builtin .append, args := #[s, x], argTypes := #[t, u] }) (vs vx v' : Value) (hs : a.eval s = vs) (hx : a.eval x = vx) (hr : (Builtin.append_ #[t, u] o.type #[vs, vx]).run P w = .ok v' w')
    (h : wpList P ops Q rest (a.put o.dst v') w') : wpList P ops Q (o :: rest) a w := by
  refine wpList_plain hgd fun K hK => ?_
  unfold Oper.wp execOp
  simp only [ho, resolve, invoke, builtin, Sem.run_bind, Sem.run_pure, Result.andThen_ok, List.map_toArray, List.map_cons, List.map_nil, hs, hx, hr]
  exact hK _ _ h
theorem ownsRow_base {w : World} {base base' e size n : Nat} {v : Value} {xs : List Value} (h : w.ownsRow base e size v n xs) (hb : base' ≤ base) : w.ownsRow base' e size v n xs := by
  refine ⟨h.1, ?_⟩
  rcases h.2 with h | ⟨g, c, cur, e1, e2, e3⟩
  · exact .inl h
  · exact .inr ⟨g, c, cur, e1, Nat.le_trans hb e2, e3⟩
theorem addr_add (g o j : Nat) : (⟨g, o, none⟩ : Addr).add j = ⟨g, o + j, none⟩ := by unfold Addr.add; split <;> simp_all
theorem Fr.absorb {S : Nat → Prop} {w a b : World} (h : Fr (fun _ => False) w a) (k : Fr S a b) (hS : ∀ i, S i → w.heap.size ≤ i) : Fr (fun _ => False) w b :=
  h.trans k (fun i hi hs => by have := hS i hs; omega)
theorem own_formX {w : World} {base e size n : Nat} {v : Value} {xs : List Value} (h : w.ownsRow base e size v n xs) : ∃ ao cap, v = .slice ao n cap := by
  rcases h.2 with ⟨rfl, rfl⟩ | ⟨g, cap, cur, rfl, _⟩
  · exact ⟨none, 0, rfl⟩
  · exact ⟨some ⟨g, 0, none⟩, cap, rfl⟩
/-- The cells of fields. -/
def fcells (l : List F5) : List Value := l.flatMap fun f => [.string f.n, .int .u8 (f.k : Nat), .string f.t, .float .f32 f.v, .int .u8 (f.u : Nat)]
theorem fcells_app (a : List F5) (f : F5) : fcells (a ++ [f]) = fcells a ++ [.string f.n, .int .u8 (f.k : Nat), .string f.t, .float .f32 f.v, .int .u8 (f.u : Nat)] := by simp [fcells]
theorem fcells_len (l : List F5) : (fcells l).length = l.length * 5 := by
  induction l with
  | nil => rfl
  | cons f r ih =>
    have e : fcells (f :: r) = [.string f.n, .int .u8 (f.k : Nat), .string f.t, .float .f32 f.v, .int .u8 (f.u : Nat)] ++ fcells r := by simp [fcells]
    rw [e, List.length_append, ih]
    simp only [List.length_cons, List.length_nil]
    omega
theorem fcells_at : ∀ (l : List F5) (k : Nat) (h : k < l.length), (fcells l)[k * 5]? = some (.string l[k].n) ∧ (fcells l)[k * 5 + 1]? = some (.int .u8 (l[k].k : Nat)) ∧ (fcells l)[k * 5 + 2]? = some (.string l[k].t) ∧ (fcells l)[k * 5 + 3]? = some (.float .f32 l[k].v) ∧ (fcells l)[k * 5 + 4]? = some (.int .u8 (l[k].u : Nat))
  | [], k, h => by simp at h
  | f :: r, 0, _ => by simp [fcells]
  | f :: r, k + 1, h => by
    have ih := fcells_at r k (by simpa using h)
    have e : fcells (f :: r) = [.string f.n, .int .u8 (f.k : Nat), .string f.t, .float .f32 f.v, .int .u8 (f.u : Nat)] ++ fcells r := by simp [fcells]
    have hl : ([Value.string f.n, .int .u8 (f.k : Nat), .string f.t, .float .f32 f.v, .int .u8 (f.u : Nat)]).length = 5 := rfl
    rw [e]
    refine ⟨?_, ?_, ?_, ?_, ?_⟩
    · rw [List.getElem?_append_right (by rw [hl]; omega), hl, show (k + 1) * 5 - 5 = k * 5 by omega]; exact ih.1
    · rw [List.getElem?_append_right (by rw [hl]; omega), hl, show (k + 1) * 5 + 1 - 5 = k * 5 + 1 by omega]; exact ih.2.1
    · rw [List.getElem?_append_right (by rw [hl]; omega), hl, show (k + 1) * 5 + 2 - 5 = k * 5 + 2 by omega]; exact ih.2.2.1
    · rw [List.getElem?_append_right (by rw [hl]; omega), hl, show (k + 1) * 5 + 3 - 5 = k * 5 + 3 by omega]; exact ih.2.2.2.1
    · rw [List.getElem?_append_right (by rw [hl]; omega), hl, show (k + 1) * 5 + 4 - 5 = k * 5 + 4 by omega]; exact ih.2.2.2.2
/-- Fields of one's own. -/
def OwF (w : World) (base : Nat) (v : Value) (l : List F5) : Prop := w.ownsRow base 79 5 v l.length (fcells l)
theorem OwF.fds {w : World} {base : Nat} {v : Value} {l : List F5} (h : OwF w base v l) : Fds w v l := by
  rcases Nat.eq_zero_or_pos l.length with h0 | h0
  · obtain rfl := List.length_eq_zero_iff.1 h0
    obtain ⟨ao, cap, rfl⟩ := own_formX h
    exact .inl ⟨ao, cap, rfl, rfl⟩
  · obtain ⟨g, cap, rfl, _, _⟩ := h.form h0
    refine .inr ⟨g, 0, cap, rfl, fun j hj => ?_⟩
    obtain ⟨e0, e1, e2, e3, e4⟩ := fcells_at l j hj
    have hc : ∀ i u, (fcells l)[i]? = some u → w.cell? ⟨g, 0 + i, none⟩ = some u := fun i u hu => by
      rw [Nat.zero_add]
      have hi : i < (fcells l).length := (List.getElem?_eq_some_iff.1 hu).1
      rw [fcells_len] at hi
      rw [h.cellAt i (by omega)]
      exact hu
    exact ⟨hc _ _ e0, by rw [Nat.add_assoc]; exact hc _ _ e1, by rw [Nat.add_assoc]; exact hc _ _ e2, by rw [Nat.add_assoc]; exact hc _ _ e3, by rw [Nat.add_assoc]; exact hc _ _ e4⟩
theorem OwF.fr {w w' : World} {base : Nat} {v : Value} {l : List F5} {S : Nat → Prop} (h : OwF w base v l) (hf : Fr S w w') (hS : ∀ g, v.ownBlock = some g → ¬ S g) : OwF w' base v l :=
  ownsRow_of_block h (fun g hg => hf.block g (h.lt g hg).2 (hS g hg))
theorem Try.infoFl : (Try.prog.info? 79).map (fun i => (i.zero, i.size, i.bytes)) = some (some (.agg #[.string ⟨#[]⟩, .int .u8 0, .string ⟨#[]⟩, .float .f32 0, .int .u8 0]), 5, 48) := by kernel_rfl
/-- append(l, f). -/
theorem app_fld (w : World) (base : Nat) (v : Value) (l : List F5) (f : F5) (h : OwF w base v l) (hb : base ≤ w.heap.size) (hl : l.length ≤ 1000000000) :
    ∃ ao cap w', (Builtin.append_ #[32, 32] 32 #[v, .slice (some ⟨w.heap.size, 0, none⟩) 1 1]).run Try.prog (w.alloc (.cells #[.string f.n, .int .u8 (f.k : Nat), .string f.t, .float .f32 f.v, .int .u8 (f.u : Nat)] 79)) = .ok (.slice ao (l.length + 1) cap) w' ∧ OwF w' base (.slice ao (l.length + 1) cap) (l ++ [f]) ∧ Fr (fun g => v.ownBlock = some g) w w' ∧
      ∀ g, (Value.slice ao (l.length + 1) cap).ownBlock = some g → v.ownBlock = some g ∨ w.heap.size ≤ g := by
  obtain ⟨i0, hi, hz0, hz1, hz2⟩ := info_parts Try.infoFl
  have hb' := ownsRow_of_block (w' := w.alloc (.cells #[.string f.n, .int .u8 (f.k : Nat), .string f.t, .float .f32 f.v, .int .u8 (f.u : Nat)] 79)) h (fun g hg => Below.heap_alloc _ _ _ (h.lt g hg).2)
  obtain ⟨v', w', hr, h2, h3, _, h5⟩ := run_append_own_at (P := Try.prog) (w := w.alloc (.cells #[.string f.n, .int .u8 (f.k : Nat), .string f.t, .float .f32 f.v, .int .u8 (f.u : Nat)] 79)) base 32 32 79 i0 (.agg #[.string ⟨#[]⟩, .int .u8 0, .string ⟨#[]⟩, .float .f32 0, .int .u8 0]) 5 48 Try.underlying32 hi hz0 hz1 hz2 rfl (by decide) v l.length (fcells l) hb' ⟨w.heap.size, 0, none⟩ 1 1 [.string f.n, .int .u8 (f.k : Nat), .string f.t, .float .f32 f.v, .int .u8 (f.u : Nat)] rfl (fun j u hu => by
    rw [addr_add, World.cell?_alloc_at _ _ _ _ rfl]; simpa using hu) (fun u hu => by simp at hu; rcases hu with rfl | rfl | rfl | rfl | rfl <;> rfl) (by simp only [maxLen]; omega) (by omega) (by simp; omega)
  obtain ⟨ao, cap, rfl⟩ := own_formX h2
  refine ⟨ao, cap, w', hr, by unfold OwF; rw [fcells_app, List.length_append, List.length_singleton]; exact h2, ((box1 w _).mono (fun _ _ h => h.elim)).grown h3 (fun g hg => .inl hg), fun g hg => ?_⟩
  rcases h5 with e | e
  · rw [e] at hg; exact .inl hg
  · rw [e] at hg; cases hg; exact .inr (by simp)
theorem Fds.frS {w w' : World} {x : Value} {l : List F5} {S : Nat → Prop} (h : Fds w x l) (hf : Fr S w w') (hS : ∀ g o n c, x = .slice (some ⟨g, o, none⟩) n c → 0 < n → ¬ S g) : Fds w' x l := by
  rcases h with h | ⟨g, o, c, h1, h2⟩
  · exact .inl h
  · refine .inr ⟨g, o, c, h1, fun j hj => ?_⟩
    obtain ⟨c0, c1, c2, c3, c4⟩ := h2 j hj
    have hg : g < w.heap.size := lt_of_cell c0
    have hn := hS g o _ c h1 (by omega)
    exact ⟨(hf.cell (p := ⟨g, _, none⟩) hg hn).trans c0, (hf.cell (p := ⟨g, _, none⟩) hg hn).trans c1, (hf.cell (p := ⟨g, _, none⟩) hg hn).trans c2, (hf.cell (p := ⟨g, _, none⟩) hg hn).trans c3, (hf.cell (p := ⟨g, _, none⟩) hg hn).trans c4⟩
/-- Fields that may be read, with room. -/
structure FdC (w : World) (base : Nat) (x : Value) (l : List F5) : Prop where
  f : Fds w x l
  b : ∀ g o n c, x = .slice (some ⟨g, o, none⟩) n c → 0 < n → g < base
  c : ∀ xo n c, x = .slice xo n c → n ≤ c
  z : ∀ n c, x = .slice none n c → c = 0
theorem FdC.frS {w w' : World} {base : Nat} {x : Value} {l : List F5} (h : FdC w base x l) (hf : Fr (fun k => base ≤ k) w w') : FdC w' base x l :=
  ⟨h.f.frS hf (fun g o n c e h0 => by have := h.b g o n c e h0; omega), h.b, h.c, h.z⟩
theorem fcells_one (l : List F5) : ∀ u ∈ fcells l, u.oneCell' = true := by
  intro u hu
  simp only [fcells, List.mem_flatMap] at hu
  obtain ⟨f, _, hu⟩ := hu
  simp at hu
  rcases hu with rfl | rfl | rfl | rfl | rfl <;> rfl
theorem fcells_cat (a b : List F5) : fcells (a ++ b) = fcells a ++ fcells b := by simp [fcells]
theorem Fds.cellsX {w : World} {g o n c : Nat} {l : List F5} (h : Fds w (.slice (some ⟨g, o, none⟩) n c) l) : ∀ i u, (fcells l)[i]? = some u → w.cell? ⟨g, o + i, none⟩ = some u := by
  intro i u hu
  have hi : i < (fcells l).length := (List.getElem?_eq_some_iff.1 hu).1
  rw [fcells_len] at hi
  have hj : i / 5 < l.length := by omega
  obtain ⟨g', o', e, d0, d1, d2, d3, d4⟩ := h.at_ (i / 5) hj
  simp only [Option.some.injEq, Addr.mk.injEq, and_true] at e
  obtain ⟨rfl, rfl⟩ := e
  obtain ⟨e0, e1, e2, e3, e4⟩ := fcells_at l (i / 5) hj
  have hm : i % 5 = 0 ∨ i % 5 = 1 ∨ i % 5 = 2 ∨ i % 5 = 3 ∨ i % 5 = 4 := by omega
  rcases hm with hm | hm | hm | hm | hm
  · have ei : i = i / 5 * 5 := by omega
    rw [ei, e0] at hu; cases hu
    rw [show o + i = o + i / 5 * 5 by omega]; exact d0
  · have ei : i = i / 5 * 5 + 1 := by omega
    rw [ei, e1] at hu; cases hu
    rw [show o + i = o + i / 5 * 5 + 1 by omega]; exact d1
  · have ei : i = i / 5 * 5 + 2 := by omega
    rw [ei, e2] at hu; cases hu
    rw [show o + i = o + i / 5 * 5 + 2 by omega]; exact d2
  · have ei : i = i / 5 * 5 + 3 := by omega
    rw [ei, e3] at hu; cases hu
    rw [show o + i = o + i / 5 * 5 + 3 by omega]; exact d3
  · have ei : i = i / 5 * 5 + 4 := by omega
    rw [ei, e4] at hu; cases hu
    rw [show o + i = o + i / 5 * 5 + 4 by omega]; exact d4
/-- A version in a history. -/
structure SM where
  au : Nat
  ev : Nat
  nf : Nat
  rd : Bool
/-- Has a request a form? -/
def RQ.frm (r : RQ) (l : List F5) : Bool :=
  if r.op = 1 then decide (r.rc = 0 ∧ r.ve = 0 ∧ r.rs.size = 0) && fdsB l false
  else if r.op = 2 then decide (r.wa = 0 ∧ r.ow = 0 ∧ r.rs.size = 0) && fdsB l true
  else if r.op = 3 then decide (r.wa = 0 ∧ r.ow = 0 ∧ l.length = 0 ∧ r.rs.size = 0)
  else if r.op = 4 then decide (r.wa = 0 ∧ r.ow = 0 ∧ l.length = 0 ∧ r.rs.size = 0)
  else if r.op = 5 then decide (r.ve = 0 ∧ r.wa = 0 ∧ r.ow = 0 ∧ l.length = 0 ∧ r.rs.size = 0)
  else if r.op = 6 then decide (r.wa = 0 ∧ r.ow = 0 ∧ l.length = 0 ∧ r.rs.size = 0 ∧ r.ve ≤ 1)
  else if r.op = 7 then decide (r.ve = 0 ∧ r.wa = 0 ∧ r.ow = 0 ∧ l.length = 0 ∧ r.rs.size ≤ 64)
  else false
def scells (l : List SM) : List Value := l.flatMap fun s => [.int .u32 (s.au : Nat), .int .u32 (s.ev : Nat), .int .u32 (s.nf : Nat), .bool s.rd]
/-- Summaries of one's own. -/
def OwS (w : World) (base : Nat) (v : Value) (l : List SM) : Prop := w.ownsRow base 81 4 v l.length (scells l)
/-- An answer. -/
structure AN where
  cl : Nat
  nu : Nat
  co : Nat
  rc : Nat
  ve : Nat
  fv : Value
  hv : Value
def AN.cs (a : AN) : List Value := [.int .u32 (a.cl : Nat), .int .u32 (a.nu : Nat), .int .u8 (a.co : Nat), .int .u32 (a.rc : Nat), .int .u32 (a.ve : Nat), a.fv, a.hv]
def AN.v (a : AN) : Value := .agg a.cs.toArray
/-- Summaries that may be read. -/
def Sms (w : World) (x : Value) (l : List SM) : Prop :=
  (∃ a c, x = .slice a 0 c ∧ l = []) ∨ ∃ g o c, x = .slice (some ⟨g, o, none⟩) l.length c ∧ ∀ j (h : j < l.length), w.cell? ⟨g, o + j * 4, none⟩ = some (.int .u32 (l[j].au : Nat)) ∧ w.cell? ⟨g, o + j * 4 + 1, none⟩ = some (.int .u32 (l[j].ev : Nat)) ∧ w.cell? ⟨g, o + j * 4 + 2, none⟩ = some (.int .u32 (l[j].nf : Nat)) ∧ w.cell? ⟨g, o + j * 4 + 3, none⟩ = some (.bool l[j].rd)
theorem Sms.form {w : World} {x : Value} {l : List SM} (h : Sms w x l) : ∃ xo xc, x = .slice xo l.length xc := by
  rcases h with ⟨a, c, rfl, rfl⟩ | ⟨g, o, c, rfl, _⟩ <;> exact ⟨_, _, rfl⟩
theorem Sms.fr {w w' : World} {x : Value} {l : List SM} (h : Sms w x l) (hf : Fr (fun _ => False) w w') : Sms w' x l := by
  rcases h with h | ⟨g, o, c, h1, h2⟩
  · exact .inl h
  · refine .inr ⟨g, o, c, h1, fun j hj => ?_⟩
    obtain ⟨c0, c1, c2, c3⟩ := h2 j hj
    have hg : g < w.heap.size := lt_of_cell c0
    exact ⟨(hf.cell (p := ⟨g, _, none⟩) hg (fun h => h)).trans c0, (hf.cell (p := ⟨g, _, none⟩) hg (fun h => h)).trans c1, (hf.cell (p := ⟨g, _, none⟩) hg (fun h => h)).trans c2, (hf.cell (p := ⟨g, _, none⟩) hg (fun h => h)).trans c3⟩
theorem Sms.at_ {w : World} {xo : Option Addr} {n c : Nat} {l : List SM} (h : Sms w (.slice xo n c) l) (j : Nat) (hj : j < l.length) : ∃ g o, xo = some ⟨g, o, none⟩ ∧ w.cell? ⟨g, o + j * 4, none⟩ = some (.int .u32 (l[j].au : Nat)) ∧ w.cell? ⟨g, o + j * 4 + 1, none⟩ = some (.int .u32 (l[j].ev : Nat)) ∧ w.cell? ⟨g, o + j * 4 + 2, none⟩ = some (.int .u32 (l[j].nf : Nat)) ∧ w.cell? ⟨g, o + j * 4 + 3, none⟩ = some (.bool l[j].rd) := by
  rcases h with ⟨_, _, _, rfl⟩ | ⟨g, o, c', e, h2⟩
  · simp at hj
  · simp only [Value.slice.injEq] at e
    obtain ⟨rfl, _, _⟩ := e
    exact ⟨g, o, rfl, h2 j hj⟩
theorem scells_at : ∀ (l : List SM) (k : Nat) (h : k < l.length), (scells l)[k * 4]? = some (.int .u32 (l[k].au : Nat)) ∧ (scells l)[k * 4 + 1]? = some (.int .u32 (l[k].ev : Nat)) ∧ (scells l)[k * 4 + 2]? = some (.int .u32 (l[k].nf : Nat)) ∧ (scells l)[k * 4 + 3]? = some (.bool l[k].rd)
  | [], k, h => by simp at h
  | f :: r, 0, _ => by simp [scells]
  | f :: r, k + 1, h => by
    have ih := scells_at r k (by simpa using h)
    have e : scells (f :: r) = [.int .u32 (f.au : Nat), .int .u32 (f.ev : Nat), .int .u32 (f.nf : Nat), .bool f.rd] ++ scells r := by simp [scells]
    have hl : ([Value.int .u32 (f.au : Nat), .int .u32 (f.ev : Nat), .int .u32 (f.nf : Nat), .bool f.rd]).length = 4 := rfl
    rw [e]
    refine ⟨?_, ?_, ?_, ?_⟩
    · rw [List.getElem?_append_right (by rw [hl]; omega), hl, show (k + 1) * 4 - 4 = k * 4 by omega]; exact ih.1
    · rw [List.getElem?_append_right (by rw [hl]; omega), hl, show (k + 1) * 4 + 1 - 4 = k * 4 + 1 by omega]; exact ih.2.1
    · rw [List.getElem?_append_right (by rw [hl]; omega), hl, show (k + 1) * 4 + 2 - 4 = k * 4 + 2 by omega]; exact ih.2.2.1
    · rw [List.getElem?_append_right (by rw [hl]; omega), hl, show (k + 1) * 4 + 3 - 4 = k * 4 + 3 by omega]; exact ih.2.2.2
theorem OwS.sms {w : World} {base : Nat} {v : Value} {l : List SM} (h : OwS w base v l) : Sms w v l := by
  have ho : w.ownsRow base 81 4 v l.length (scells l) := h
  rcases Nat.eq_zero_or_pos l.length with h0 | h0
  · obtain rfl := List.length_eq_zero_iff.1 h0
    obtain ⟨ao, cap, rfl⟩ := own_formX ho
    exact .inl ⟨ao, cap, rfl, rfl⟩
  · obtain ⟨g, cap, e, _, _⟩ := ho.form h0
    rw [e] at ho
    refine .inr ⟨g, 0, cap, e, fun j hj => ?_⟩
    obtain ⟨a0, a1, a2, a3⟩ := scells_at l j hj
    rw [Nat.zero_add]
    exact ⟨(ho.cellAt _ (by omega)).trans a0, (ho.cellAt _ (by omega)).trans a1, (ho.cellAt _ (by omega)).trans a2, (ho.cellAt _ (by omega)).trans a3⟩
theorem Fr.of_below {w w' : World} (h : Below w.heap.size w w') : Fr (fun _ => False) w w' := ⟨h.os, h.tape, h.output, h.size, fun k hk _ => h.block k hk⟩
theorem lt_of_block {w : World} {b : Nat} {o : Obj} (h : w.heap[b]? = some o) : b < w.heap.size := by
  rcases Nat.lt_or_ge b w.heap.size with hx | hx
  · exact hx
  · rw [Array.getElem?_eq_none hx] at h; cases h
theorem own_blk {w : World} {base e size n g : Nat} {v : Value} {xs : List Value} (h : w.ownsRow base e size v n xs) (hg : v.ownBlock = some g) : ∃ cur, w.heap[g]? = some (.cells cur e) := by
  rcases h.2 with ⟨rfl, _⟩ | ⟨q, cap, cur, rfl, _, hq, _⟩
  · cases hg
  · cases hg
    exact ⟨cur, hq⟩
theorem heap_alloc_new (w : World) (o : Obj) : (w.alloc o).heap[w.heap.size]? = some o := (MapKept.heap_alloc w o).1
set_option maxRecDepth 100000 in
theorem formed_0 (cl nu ac rc ve wa ow : Nat) (rs : ByteArray) (xo : Option Addr) (n xc : Nat) (w : World) :
    Calls Try.prog 20 #[(RQ.mk cl nu ac 0 rc ve wa ow (.slice xo n xc) rs).v] w fun e w' => e = .returned (.bool false) ∧ Fr (fun _ => False) w w' := by
  simp only [RQ.v]
  go_enter Try.func20, Try.ntmps20
  go_wp2_with fail
  go_ret
  exact ⟨rfl, box1 w _⟩
set_option maxRecDepth 100000 in
theorem formed_8 (cl nu ac k rc ve wa ow : Nat) (rs : ByteArray) (xo : Option Addr) (n xc : Nat) (w : World) (hk : 8 ≤ k) :
    Calls Try.prog 20 #[(RQ.mk cl nu ac k rc ve wa ow (.slice xo n xc) rs).v] w fun e w' => e = .returned (.bool false) ∧ Fr (fun _ => False) w w' := by
  have h1 : ¬ (k : Int) < 1 := by omega
  have h2 : (7 : Int) < (k : Int) := by omega
  simp only [RQ.v]
  go_enter Try.func20, Try.ntmps20
  go_wp2_with fail
  go_ret
  exact ⟨rfl, box1 w _⟩
theorem RQ.emp_eq (r : RQ) (n : Nat) : r.emp n = decide (r.rc = 0 ∧ r.ve = 0 ∧ r.wa = 0 ∧ r.ow = 0 ∧ n = 0 ∧ r.rs.size = 0) := by
  simp only [RQ.emp, Bool.decide_and]
/-- Formed. -/
theorem formed_any (r : RQ) (F : List F5) (w : World) (hx : Fds w r.fv F) (hl : F.length ≤ 140737488355328) (hv : ∀ f ∈ F, f.v < 4294967296 ∧ f.u < 256) :
    Calls Try.prog 20 #[r.v] w fun e w' => e = .returned (.bool (r.frm F)) ∧ Fr (fun _ => False) w w' := by
  obtain ⟨cl, nu, ac, op, rc, ve, wa, ow, fv, rs⟩ := r
  obtain ⟨xo, xc, hfv⟩ := hx.form
  simp only at hfv hx
  subst hfv
  have hnil : F.length = 0 → ∀ g, fdsB F g = true := fun e g => by
    obtain rfl := List.length_eq_zero_iff.1 e
    rfl
  rcases op with _ | _ | _ | _ | _ | _ | _ | _ | op
  · exact (formed_0 cl nu ac rc ve wa ow rs xo _ xc w).mono (fun e w' h => h)
  · refine (formed_1 cl nu ac rc ve wa ow rs xo _ xc F w hx hl hv).mono ?_
    rintro e w' ⟨rfl, hf⟩
    refine ⟨?_, hf⟩
    rw [RQ.emp_eq]
    simp only [RQ.frm, if_true]
    by_cases h : rc = 0 ∧ ve = 0 ∧ rs.size = 0
    · simp [h]
    · rw [decide_eq_false h, decide_eq_false (fun h' => h ⟨h'.1, h'.2.1, h'.2.2.2.2.2⟩)]
      rfl
  · refine (formed_2 cl nu ac rc ve wa ow rs xo _ xc F w hx hl hv).mono ?_
    rintro e w' ⟨rfl, hf⟩
    refine ⟨?_, hf⟩
    rw [RQ.emp_eq]
    simp only [RQ.frm, if_true]
    by_cases h : wa = 0 ∧ ow = 0 ∧ rs.size = 0
    · simp [h]
    · rw [if_neg (by decide), decide_eq_false h, decide_eq_false (fun h' => h ⟨h'.2.2.1, h'.2.2.2.1, h'.2.2.2.2.2⟩)]
      rfl
  · refine (formed_3 cl nu ac rc ve wa ow rs xo _ xc F w hx hl hv).mono ?_
    rintro e w' ⟨rfl, hf⟩
    refine ⟨?_, hf⟩
    rw [RQ.emp_eq]
    by_cases h : wa = 0 ∧ ow = 0 ∧ F.length = 0 ∧ rs.size = 0
    · obtain ⟨a1, a2, a3, a4⟩ := h
      simp [RQ.frm, a1, a2, a3, a4, hnil a3]
    · have e1 : (RQ.mk cl nu ac 3 rc ve wa ow (.slice xo F.length xc) rs).frm F = false := by
        simp only [RQ.frm]
        simpa using h
      rw [show (RQ.mk cl nu ac (3) rc ve wa ow (.slice xo F.length xc) rs).frm F = false from e1]
      congr 1
      congr 1
      rw [Bool.and_eq_false_iff]
      exact .inl (decide_eq_false (fun h' => h ⟨h'.2.2.1, h'.2.2.2.1, h'.2.2.2.2.1, h'.2.2.2.2.2⟩))
  · refine (formed_4 cl nu ac rc ve wa ow rs xo _ xc F w hx hl hv).mono ?_
    rintro e w' ⟨rfl, hf⟩
    refine ⟨?_, hf⟩
    rw [RQ.emp_eq]
    by_cases h : wa = 0 ∧ ow = 0 ∧ F.length = 0 ∧ rs.size = 0
    · obtain ⟨a1, a2, a3, a4⟩ := h
      simp [RQ.frm, a1, a2, a3, a4, hnil a3]
    · have e1 : (RQ.mk cl nu ac 4 rc ve wa ow (.slice xo F.length xc) rs).frm F = false := by
        simp only [RQ.frm]
        simpa using h
      rw [show (RQ.mk cl nu ac (4) rc ve wa ow (.slice xo F.length xc) rs).frm F = false from e1]
      congr 1
      congr 1
      rw [Bool.and_eq_false_iff]
      exact .inl (decide_eq_false (fun h' => h ⟨h'.2.2.1, h'.2.2.2.1, h'.2.2.2.2.1, h'.2.2.2.2.2⟩))
  · refine (formed_5 cl nu ac rc ve wa ow rs xo _ xc F w hx hl hv).mono ?_
    rintro e w' ⟨rfl, hf⟩
    refine ⟨?_, hf⟩
    rw [RQ.emp_eq]
    by_cases h : ve = 0 ∧ wa = 0 ∧ ow = 0 ∧ F.length = 0 ∧ rs.size = 0
    · obtain ⟨a0, a1, a2, a3, a4⟩ := h
      simp [RQ.frm, a0, a1, a2, a3, a4, hnil a3]
    · have e1 : (RQ.mk cl nu ac 5 rc ve wa ow (.slice xo F.length xc) rs).frm F = false := by
        simp only [RQ.frm]
        simpa using h
      rw [show (RQ.mk cl nu ac (5) rc ve wa ow (.slice xo F.length xc) rs).frm F = false from e1]
      congr 1
      congr 1
      rw [Bool.and_eq_false_iff]
      exact .inl (decide_eq_false (fun h' => h ⟨h'.2.1, h'.2.2.1, h'.2.2.2.1, h'.2.2.2.2.1, h'.2.2.2.2.2⟩))
  · refine (formed_6 cl nu ac rc ve wa ow rs xo _ xc F w hx hl hv).mono ?_
    rintro e w' ⟨rfl, hf⟩
    refine ⟨?_, hf⟩
    rw [RQ.emp_eq]
    by_cases h : wa = 0 ∧ ow = 0 ∧ F.length = 0 ∧ rs.size = 0 ∧ ve ≤ 1
    · obtain ⟨a1, a2, a3, a4, a5⟩ := h
      simp [RQ.frm, a1, a2, a3, a4, a5, hnil a3]
    · have e1 : (RQ.mk cl nu ac 6 rc ve wa ow (.slice xo F.length xc) rs).frm F = false := by
        simp only [RQ.frm]
        simpa using h
      rw [show (RQ.mk cl nu ac (6) rc ve wa ow (.slice xo F.length xc) rs).frm F = false from e1]
      congr 1
      congr 1
      rw [Bool.and_eq_false_iff]
      by_cases h6 : ve ≤ 1
      · exact .inl (decide_eq_false (fun h' => h ⟨h'.2.2.1, h'.2.2.2.1, h'.2.2.2.2.1, h'.2.2.2.2.2, h6⟩))
      · exact .inr (by simp [h6])
  · refine (formed_7 cl nu ac rc ve wa ow rs xo _ xc F w hx hl hv).mono ?_
    rintro e w' ⟨rfl, hf⟩
    refine ⟨?_, hf⟩
    rw [RQ.emp_eq]
    by_cases h : ve = 0 ∧ wa = 0 ∧ ow = 0 ∧ F.length = 0 ∧ rs.size ≤ 64
    · obtain ⟨a0, a1, a2, a3, a4⟩ := h
      simp [RQ.frm, a0, a1, a2, a3, a4, hnil a3, ba_empty]
    · have e1 : (RQ.mk cl nu ac 7 rc ve wa ow (.slice xo F.length xc) rs).frm F = false := by
        simp only [RQ.frm]
        simpa using h
      rw [show (RQ.mk cl nu ac (7) rc ve wa ow (.slice xo F.length xc) rs).frm F = false from e1]
      congr 1
      congr 1
      rw [Bool.and_eq_false_iff]
      by_cases h6 : rs.size ≤ 64
      · exact .inl (decide_eq_false (fun h' => h ⟨h'.2.1, h'.2.2.1, h'.2.2.2.1, h'.2.2.2.2.1, h6⟩))
      · exact .inr (by simp [h6])
  · refine (formed_8 cl nu ac (op + 8) rc ve wa ow rs xo _ xc w (by omega)).mono ?_
    rintro e w' ⟨rfl, hf⟩
    refine ⟨?_, hf⟩
    simp [RQ.frm]
end Go.Proofs.Ytkiepcdncegniaa
