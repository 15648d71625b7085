import Derived.Test.YthccbfgjekdiiaaDoorSbe
import Derived.Deep.MidRow
namespace Go.Proofs.YthccbfgjekdiiaaDoor
open Go.RowKit

/-- A result that lies in memory: a whole row. -/
theorem results_cell_mid {P : Program} {fn : Func} {p : Tmp} {ty : TypeId} (h : fn.results = #[.cell p ty]) (tmps : Array Value) (w : World) (b o : Nat) (cs : List Value) (d : TypeDesc)
    (hp : tmps.getD p undef = .pointer (some ⟨b, o, none⟩)) (hc : w.rangeAt b o cs)
    (hu : P.underlying ty = some d) (hd : d.isRow = true) (hi : (P.info? ty).map (·.size) = some cs.length) :
    (results fn tmps).run P w = .ok (.agg cs.toArray) w := by
  have hp' : tmps[p]?.getD undef = .pointer (some ⟨b, o, none⟩) := by simpa using hp
  simp [results, h, hp', asAddr, run_loadVar_mid w b o ty cs d hc hu hd hi]
def V8 (l : List Nat) : List Value := l.map fun c : Nat => Value.int .u8 (c : Int)
def V32 (l : List Nat) : List Value := l.map fun c : Nat => Value.int .u32 (c : Int)
theorem u8s_V (l : List Nat) : u8s l = (V8 l).toArray := rfl
theorem u32s_V (l : List Nat) : u32s l = (V32 l).toArray := rfl
theorem V8_len (l : List Nat) : (V8 l).length = l.length := by simp [V8]
theorem V32_len (l : List Nat) : (V32 l).length = l.length := by simp [V32]
theorem V8_one (l : List Nat) : ∀ v ∈ V8 l, v.oneCell' = true := by
  intro v hv
  simp only [V8, List.mem_map] at hv
  obtain ⟨c, _, rfl⟩ := hv
  rfl
theorem V32_one (l : List Nat) : ∀ v ∈ V32 l, v.oneCell' = true := by
  intro v hv
  simp only [V32, List.mem_map] at hv
  obtain ⟨c, _, rfl⟩ := hv
  rfl
theorem V32_at (l : List Nat) (j : Nat) (v : Value) (h : (V32 l)[j]? = some v) : j < l.length ∧ v = .int .u32 ((l.getD j 0 : Nat) : Int) := by
  have hj : j < l.length := by
    have := (List.getElem?_eq_some_iff.1 h).1
    rwa [V32_len] at this
  refine ⟨hj, ?_⟩
  rw [V32, List.getElem?_map, List.getElem?_eq_getElem hj, Option.map_some] at h
  rw [List.getD, List.getElem?_eq_getElem hj, Option.getD_some]
  exact (Option.some.inj h).symm
theorem V8_at (l : List Nat) (j : Nat) (v : Value) (h : (V8 l)[j]? = some v) : j < l.length ∧ v = .int .u8 ((l.getD j 0 : Nat) : Int) := by
  have hj : j < l.length := by
    have := (List.getElem?_eq_some_iff.1 h).1
    rwa [V8_len] at this
  refine ⟨hj, ?_⟩
  rw [V8, List.getElem?_map, List.getElem?_eq_getElem hj, Option.map_some] at h
  rw [List.getD, List.getElem?_eq_getElem hj, Option.getD_some]
  exact (Option.some.inj h).symm
theorem Fr.setCells {S : Nat → Prop} {a w : World} (h : Fr S a w) {b o : Nat} (hp : S b ∨ a.heap.size ≤ b) (vs : List Value) : Fr S a (w.setCells b o vs) := by
  induction vs generalizing o w with
  | nil => exact h
  | cons v r ih =>
    rw [World.setCells]
    exact ih (h.setCell (p := ⟨b, o, none⟩) hp v)
/-- Blocks that were not there do not count. -/
theorem Fr.weak {w w' : World} (h : Fr (fun k => w.heap.size ≤ k) w w') : Fr (fun _ => False) w w' := ⟨h.os, h.tape, h.output, h.size, fun k hk _ => h.block k hk (by omega)⟩
/-- A whole row is stored: the world behind it by its name. -/
theorem wpList_store_to {P : Program} {ops : Array Oper} {rest : List Oper} {op : Oper} {a : Act} {w : World} {Q : Exit → Act → World → Prop} (hgd : op.guard = none) (ty : TypeId) (x y : Operand) (ho : op.op = .store ty x y)
    (b o : Nat) (cells : Array Value) (hx : a.eval x = .pointer (some ⟨b, o, none⟩)) (hy : a.eval y = .agg cells)
    (ht : w.there b o cells.size) (hi : (P.info? ty).map (·.size) = some cells.size) (h1 : cells.all (·.oneCell') = true) (w' : World) (hw : w.setCells b o cells.toList = w')
    (h : wpList P ops Q rest (a.put op.dst undef) w') : wpList P ops Q (op :: rest) a w := by
  subst hw
  exact wpList_store_mid hgd ty x y ho b o cells hx hy ht hi h1 h
end Go.Proofs.YthccbfgjekdiiaaDoor
