import Derived.Test.YtkiepcdncegniaaBase
import Derived.Laws.OwnMore
import Derived.Deep.Cut
import Derived.Deep.CutRange
import Derived.BigQuiet
import Derived.Deep.QuietTactic
import Derived.KernelRfl
import Derived.Deep.RegionHeld3
import Derived.Deep.MidRow
import Derived.Laws.StructEq
import Derived.Laws.ResultCell
namespace Go.Proofs.Ytkiepcdncegniaa
open Go.RowKit

/-- One of the staff: number, role, ward. -/
structure P3 where
  a : Nat
  r : Nat
  w : Nat
deriving DecidableEq
def P3.cells (p : P3) : List Value := [.int .u32 (p.a : Nat), .int .u32 (p.r : Nat), .int .u32 (p.w : Nat)]
def pcells (l : List P3) : List Value := l.flatMap P3.cells
/-- The staff in memory. -/
def Stf (w : World) (x : Value) (l : List P3) : Prop :=
  (∃ a c, x = .slice a 0 c ∧ l = []) ∨ ∃ g o c, x = .slice (some ⟨g, o, none⟩) l.length c ∧ ∀ j (h : j < l.length), w.cell? ⟨g, o + j * 3, none⟩ = some (.int .u32 (l[j].a : Nat)) ∧ w.cell? ⟨g, o + j * 3 + 1, none⟩ = some (.int .u32 (l[j].r : Nat)) ∧ w.cell? ⟨g, o + j * 3 + 2, none⟩ = some (.int .u32 (l[j].w : Nat))
theorem Stf.form {w : World} {x : Value} {l : List P3} (h : Stf w x l) : ∃ xo xc, x = .slice xo l.length xc := by
  rcases h with ⟨a, c, rfl, rfl⟩ | ⟨g, o, c, rfl, _⟩ <;> exact ⟨_, _, rfl⟩
theorem Stf.fr {w w' : World} {x : Value} {l : List P3} (h : Stf w x l) (hf : Fr (fun _ => False) w w') : Stf w' x l := by
  rcases h with h | ⟨g, o, c, h1, h2⟩
  · exact .inl h
  · refine .inr ⟨g, o, c, h1, fun j hj => ?_⟩
    obtain ⟨c0, c1, c2⟩ := h2 j hj
    exact ⟨(hf.cell (p := ⟨g, _, none⟩) (lt_of_cell c0) (fun h => h)).trans c0, (hf.cell (p := ⟨g, _, none⟩) (lt_of_cell c1) (fun h => h)).trans c1, (hf.cell (p := ⟨g, _, none⟩) (lt_of_cell c2) (fun h => h)).trans c2⟩
theorem Stf.at_ {w : World} {xo : Option Addr} {n c : Nat} {l : List P3} (h : Stf w (.slice xo n c) l) (j : Nat) (hj : j < l.length) : ∃ g o, xo = some ⟨g, o, none⟩ ∧ w.cell? ⟨g, o + j * 3, none⟩ = some (.int .u32 (l[j].a : Nat)) ∧ w.cell? ⟨g, o + j * 3 + 1, none⟩ = some (.int .u32 (l[j].r : Nat)) ∧ w.cell? ⟨g, o + j * 3 + 2, none⟩ = some (.int .u32 (l[j].w : Nat)) := by
  rcases h with ⟨_, _, _, rfl⟩ | ⟨g, o, c', e, h2⟩
  · simp at hj
  · simp only [Value.slice.injEq] at e
    obtain ⟨rfl, _, _⟩ := e
    exact ⟨g, o, rfl, h2 j hj⟩
/-- The place of the first one of that number, and who it is. -/
def fnd (l : List P3) (k : Nat) : Option Nat := l.findIdx? (fun p => decide (p.a = k))
def perso (l : List P3) (k : Nat) : Option P3 := l.find? (fun p => decide (p.a = k))
theorem fnd_at {l : List P3} {k j : Nat} (hj : j < l.length) (h : ∀ i (hi : i < l.length), i < j → l[i].a ≠ k) (e : l[j].a = k) : fnd l k = some j ∧ perso l k = some l[j] := by
  refine ⟨List.findIdx?_eq_some_iff_getElem.2 ⟨hj, by simpa using e, fun i hi => by simpa using h i (by omega) hi⟩, ?_⟩
  exact List.find?_eq_some_iff_getElem.2 ⟨by simpa using e, j, hj, rfl, fun i hi => by simpa using h i (by omega) hi⟩
theorem fnd_no {l : List P3} {k : Nat} (h : ∀ i (hi : i < l.length), l[i].a ≠ k) : fnd l k = none ∧ perso l k = none := by
  refine ⟨List.findIdx?_eq_none_iff.2 fun x hx => ?_, List.find?_eq_none.2 fun x hx => ?_⟩
  · obtain ⟨i, hi, rfl⟩ := List.mem_iff_getElem.1 hx
    simpa using h i hi
  · obtain ⟨i, hi, rfl⟩ := List.mem_iff_getElem.1 hx
    simpa using h i hi
theorem fnd_cases (l : List P3) (k : Nat) : (fnd l k = none ∧ perso l k = none) ∨ ∃ (j : Nat) (hj : j < l.length), fnd l k = some j ∧ perso l k = some l[j] ∧ l[j].a = k := by
  rcases h : fnd l k with _ | j
  · refine .inl ⟨rfl, (fnd_no fun i hi => ?_).2⟩
    have := List.findIdx?_eq_none_iff.1 h l[i] (List.getElem_mem hi)
    simpa using this
  · obtain ⟨hj, e, hlt⟩ := List.findIdx?_eq_some_iff_getElem.1 h
    have e' : l[j].a = k := by simpa using e
    exact .inr ⟨j, hj, rfl, (fnd_at hj (fun i hi h => by simpa using hlt i h) e').2, e'⟩
/-- How a person is told. -/
def pv (p : P3) : Value := .agg #[.int .u32 (p.a : Nat), .int .u32 (p.r : Nat), .int .u32 (p.w : Nat)]
def p0 : P3 := ⟨0, 0, 0⟩
end Go.Proofs.Ytkiepcdncegniaa
