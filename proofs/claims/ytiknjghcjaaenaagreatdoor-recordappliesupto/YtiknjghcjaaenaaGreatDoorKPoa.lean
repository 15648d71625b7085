import Derived.Test.YtiknjghcjaaenaaGreatDoorKBase
import Derived.Laws.OwnMore
import Derived.Deep.Cut
import Derived.Deep.CutRange
import Derived.BigQuiet
import Derived.Deep.QuietTactic
import Derived.KernelRfl
import Derived.Deep.RegionHeld3
import Derived.Deep.MidRow
import Derived.Laws.StructEq
import Derived.Laws.ResultCell
namespace Go.Proofs.YtiknjghcjaaenaaGreatDoor
open Go.RowKit
structure P3 where
 a : Nat
 r : Nat
 w : Nat
deriving DecidableEq
def P3.cells (p : P3) : List Value := [.int .u32 (p.a : Nat), .int .u32 (p.r : Nat), .int .u32 (p.w : Nat)]
def pcells (l : List P3) : List Value := l.flatMap P3.cells
def Stf (w : World) (x : Value) (l : List P3) : Prop :=
 (∃ a c, x = .slice a 0 c ∧ l = []) ∨ ∃ g o c, x = .slice (some ⟨g, o, none⟩) l.length c ∧ ∀ j (h : j < l.length), w.cell? ⟨g, o + j * 3, none⟩ = some (.int .u32 (l[j].a : Nat)) ∧ w.cell? ⟨g, o + j * 3 + 1, none⟩ = some (.int .u32 (l[j].r : Nat)) ∧ w.cell? ⟨g, o + j * 3 + 2, none⟩ = some (.int .u32 (l[j].w : Nat))
theorem Stf.form {w : World} {x : Value} {l : List P3} (h : Stf w x l) : ∃ xo xc, x = .slice xo l.length xc := by
 rcases h with ⟨a, c, rfl, rfl⟩ | ⟨g, o, c, rfl, _⟩ <;> exact ⟨_, _, rfl⟩
theorem Stf.fr {w w' : World} {x : Value} {l : List P3} (h : Stf w x l) (hf : Fr (fun _ => False) w w') : Stf w' x l := by
 rcases h with h | ⟨g, o, c, h1, h2⟩
 ·exact .inl h
 ·refine .inr ⟨g, o, c, h1, fun j hj => ?_⟩
  obtain ⟨c0, c1, c2⟩ := h2 j hj
  exact ⟨(hf.cell (p := ⟨g, _, none⟩) (lt_of_cell c0) (fun h => h)).trans c0, (hf.cell (p := ⟨g, _, none⟩) (lt_of_cell c1) (fun h => h)).trans c1, (hf.cell (p := ⟨g, _, none⟩) (lt_of_cell c2) (fun h => h)).trans c2⟩
theorem Stf.at_ {w : World} {xo : Option Addr} {n c : Nat} {l : List P3} (h : Stf w (.slice xo n c) l) (j : Nat) (hj : j < l.length) : ∃ g o, xo = some ⟨g, o, none⟩ ∧ w.cell? ⟨g, o + j * 3, none⟩ = some (.int .u32 (l[j].a : Nat)) ∧ w.cell? ⟨g, o + j * 3 + 1, none⟩ = some (.int .u32 (l[j].r : Nat)) ∧ w.cell? ⟨g, o + j * 3 + 2, none⟩ = some (.int .u32 (l[j].w : Nat)) := by
 rcases h with ⟨_, _, _, rfl⟩ | ⟨g, o, c', e, h2⟩
 ·simp at hj
 ·simp only [Value.slice.injEq] at e
  obtain ⟨rfl, _, _⟩ := e
  exact ⟨g, o, rfl, h2 j hj⟩
def fnd (l : List P3) (k : Nat) : Option Nat := l.findIdx? (fun p => decide (p.a = k))
def perso (l : List P3) (k : Nat) : Option P3 := l.find? (fun p => decide (p.a = k))
theorem fnd_at {l : List P3} {k j : Nat} (hj : j < l.length) (h : ∀ i (hi : i < l.length), i < j → l[i].a ≠ k) (e : l[j].a = k) : fnd l k = some j ∧ perso l k = some l[j] := by
 refine ⟨List.findIdx?_eq_some_iff_getElem.2 ⟨hj, by simpa using e, fun i hi => by simpa using h i (by omega) hi⟩, ?_⟩
 exact List.find?_eq_some_iff_getElem.2 ⟨by simpa using e, j, hj, rfl, fun i hi => by simpa using h i (by omega) hi⟩
theorem fnd_no {l : List P3} {k : Nat} (h : ∀ i (hi : i < l.length), l[i].a ≠ k) : fnd l k = none ∧ perso l k = none := by
 refine ⟨List.findIdx?_eq_none_iff.2 fun x hx => ?_, List.find?_eq_none.2 fun x hx => ?_⟩
 ·obtain ⟨i, hi, rfl⟩ := List.mem_iff_getElem.1 hx
  simpa using h i hi
 ·obtain ⟨i, hi, rfl⟩ := List.mem_iff_getElem.1 hx
  simpa using h i hi
theorem fnd_cases (l : List P3) (k : Nat) : (fnd l k = none ∧ perso l k = none) ∨ ∃ (j : Nat) (hj : j < l.length), fnd l k = some j ∧ perso l k = some l[j] ∧ l[j].a = k := by
 rcases h : fnd l k with _ | j
 ·refine .inl ⟨rfl, (fnd_no fun i hi => ?_).2⟩
  have := List.findIdx?_eq_none_iff.1 h l[i] (List.getElem_mem hi)
  simpa using this
 ·obtain ⟨hj, e, hlt⟩ := List.findIdx?_eq_some_iff_getElem.1 h
  have e' : l[j].a = k := by simpa using e
  exact .inr ⟨j, hj, rfl, (fnd_at hj (fun i hi h => by simpa using hlt i h) e').2, e'⟩
def pv (p : P3) : Value := .agg #[.int .u32 (p.a : Nat), .int .u32 (p.r : Nat), .int .u32 (p.w : Nat)]
def p0 : P3 := ⟨0, 0, 0⟩
set_option maxRecDepth 100000 in
theorem find_any (x : Value) (l : List P3) (k : Nat) (w : World) (hx : Stf w x l) (hl : l.length ≤ 140737488355328) :
  Calls Tryz.prog 37 #[x, .int .u32 (k : Nat)] w fun e w' => e = .returned (.tuple #[pv ((perso l k).getD p0), .bool (perso l k).isSome]) ∧ Fr (fun _ => False) w w' := by
 have HX := hide hx
 obtain ⟨xo, xc, rfl⟩ := hx.form
 clear hx
 go_enter Tryz.func37, Tryz.ntmps37
 go_wp2_with fail
 obtain ⟨w1, hw1⟩ : ∃ w1, w.alloc (.cells #[.int .u32 0, .int .u32 0, .int .u32 0] 33) = w1 := ⟨_, rfl⟩
 have hf1 : Fr (fun _ => False) w w1 := by rw [← hw1]; exact (Fr.refl _ _).alloc _
 have hs1 : w.heap.size < w1.heap.size := by rw [← hw1]; simp
 have HB := hide (And.intro hf1 (And.intro (show w1.heap[w.heap.size]? = some (.cells #[.int .u32 0, .int .u32 0, .int .u32 0] 33) by rw [← hw1]; exact Array.getElem?_push_size) hs1))
 have HX1 := hide ((unhide HX).fr hf1)
 rw [hw1]
 clear hw1 hf1 HX
 go_loopw [10] (fun iv wr => ∃ j : Nat, j ≤ l.length ∧ iv = .int .i64 (j : Nat) ∧ (∀ i (hi : i < l.length), i < j → l[i].a ≠ k) ∧ Fr (fun _ => False) w1 wr) (fun iv _ => l.length - (intOf iv).toNat)
 case atStart => exact ⟨0, Nat.zero_le _, rfl, fun i _ h => by omega, Fr.refl _ _⟩
 case round =>
  obtain ⟨j, hj, rfl, hno, hfr⟩ := hrel
  have HF := hide (And.intro hno hfr)
  have hsz : w.heap.size < wr.heap.size := Nat.lt_of_lt_of_le hs1 hfr.size
  clear hno
  have hbx := (hfr.block _ hs1 (fun h => h)).trans (unhide HB).2.1
  have b0 : wr.cell? ⟨w.heap.size, 0, none⟩ = some (.int .u32 0) := by simp [World.cell?, hbx]
  have b1 : wr.cell? ⟨w.heap.size, 1, none⟩ = some (.int .u32 0) := by simp [World.cell?, hbx]
  have b2 : wr.cell? ⟨w.heap.size, 2, none⟩ = some (.int .u32 0) := by simp [World.cell?, hbx]
  have z0 : wr.frozen? ⟨w.heap.size, 0, none⟩ = false := by simp [World.frozen?, hbx]
  have z1 : wr.frozen? ⟨w.heap.size, 1, none⟩ = false := by simp [World.frozen?, hbx]
  have z2 : wr.frozen? ⟨w.heap.size, 2, none⟩ = false := by simp [World.frozen?, hbx]
  by_cases hlt : j < l.length
  ·obtain ⟨g, o, rfl, c0, c1, c2⟩ := ((unhide HX1).fr hfr).at_ j hlt
   have hgl : g < wr.heap.size := lt_of_cell c0
   clear hfr hbx
   by_cases hk : l[j].a = k
   ·obtain ⟨hA, hP⟩ := fnd_at hlt (unhide HF).1 hk
    have HP := hide hP
    obtain ⟨P, hPe⟩ : ∃ P, l[j] = P := ⟨_, rfl⟩
    rw [hPe] at c0 c1 c2 hk
    obtain ⟨pa, pr, pw⟩ := P
    simp only at c0 c1 c2 hk
    subst hk
    have HE := hide (hP.trans (congrArg some hPe))
    clear hA hP HP hPe
    go_wp2_with fail
    (try simp only [Exit.inBlock, Exit.then])
    refine bodyPost_ret (v := .tuple #[.agg #[.int .u32 (pa : Nat), .int .u32 (pr : Nat), .int .u32 (pw : Nat)], .bool true]) ?_ rfl ⟨?_, ?_⟩
    ·rw [results_cell_tmp rfl]
     go_simp
    ·rw [unhide HE]; rfl
    ·exact (((((unhide HB).1.trans (unhide HF).2 (fun _ _ h => h)).setCell (.inr (Nat.le_refl _)) _).setCell (.inr (Nat.le_refl _)) _).setCell (.inr (Nat.le_refl _)) _).alloc _
   ·obtain ⟨P, hPe⟩ : ∃ P, l[j] = P := ⟨_, rfl⟩
    rw [hPe] at c0 c1 c2
    have hk' : ¬ P.a = k := by rw [← hPe]; exact hk
    have HK := hide hk
    obtain ⟨pa, pr, pw⟩ := P
    simp only at c0 c1 c2 hk'
    clear hk hPe
    go_wp2_with fail
    go_roundw
    case rel =>
     refine ⟨j + 1, hlt, rfl, fun i hi h => ?_, (unhide HF).2.alloc _⟩
     rcases Nat.lt_or_ge i j with h1 | h1
     ·exact (unhide HF).1 i hi h1
     ·obtain rfl : i = j := by omega
      exact unhide HK
    case measure => simp [intOf]; omega
  ·have HE := hide (fnd_no (l := l) (k := k) (fun i hi => (unhide HF).1 i hi (by omega))).2
   clear hfr hbx
   go_wp2_with fail
   (try simp only [Exit.inBlock, Exit.then])
   refine bodyPost_ret (v := .tuple #[.agg #[.int .u32 0, .int .u32 0, .int .u32 0], .bool false]) ?_ rfl ⟨?_, ?_⟩
   ·rw [results_cell_tmp rfl]
    go_simp
   ·rw [unhide HE]; rfl
   ·exact ((((unhide HB).1.trans (unhide HF).2 (fun _ _ h => h)).setCell (.inr (Nat.le_refl _)) _).setCell (.inr (Nat.le_refl _)) _).setCell (.inr (Nat.le_refl _)) _
end Go.Proofs.YtiknjghcjaaenaaGreatDoor
