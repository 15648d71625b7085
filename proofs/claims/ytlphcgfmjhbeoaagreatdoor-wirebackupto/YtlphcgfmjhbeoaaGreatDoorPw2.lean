import Derived.Test.YtlphcgfmjhbeoaaGreatDoorKWrb
import Derived.Test.YtlphcgfmjhbeoaaGreatDoorPw1
import Derived.Maps.AppendAt
import Derived.Test.YtlphcgfmjhbeoaaGreatDoorKBase
import Derived.Deep.RegionLaw
import Derived.Deep.RegionHeld3
namespace Go.Proofs.YtlphcgfmjhbeoaaGreatDoor
open Go.RowKit
def unN (beside : Bool) (_ : Nat) : Nat := if beside then 4 else 0
set_option maxRecDepth 100000 in
theorem unless_clo (bs : Bool) (v : Nat) (E : Nat → Addr) (p0 : Addr) (w : World) (h0 : w.cell? p0 = some (.bool bs)) (g4 : w.cell? ⟨4, 0, none⟩ = some (errV E 4)) :
  Calls Tryz.prog 162 #[.int .u8 (v : Nat), .pointer (some p0)] w fun e w' => e = .returned (errV E (unN bs v)) ∧ Fr (fun _ => False) w w' := by
 cases bs
 all_goals
  go_enter Tryz.func162, Tryz.ntmps162
  go_wp2_with fail
  go_ret
  exact ⟨rfl, Fr.refl _ _⟩
set_option maxRecDepth 100000 in
theorem unless_any (bs : Bool) (E : Nat → Addr) (w : World) (hg : G6 w E) :
  Calls Tryz.prog 144 #[.bool bs] w fun e w' => ∃ fv, e = .returned fv ∧ ∃ K, FnR enU8 w' K fv E (unN bs) ∧ Fr (fun _ => False) w w' ∧ Knew w K := by
 have hmf := mf
 have k4 := hg.k4
 have hl4 := ltC k4
 clear hg
 go_enter Tryz.func144, Tryz.ntmps144
 go_wp2_with fail
 go_ret
 refine ⟨_, rfl, fun k => k = w.heap.size ∨ k = 4, ⟨fun k hk => ?_, fun v => by simp only [unN]; split <;> omega, _, _, rfl, fun _ W => enters Tryz.func162 rfl rfl _ W, ?_⟩, box1 _ _, fun k hk => ?_⟩
 ·simp
  omega
 ·rintro w2 x v hk ⟨rfl, _⟩
  exact unless_clo bs v E _ w2 (cell_of (by simp) (hk _ (.inl rfl))) (cell_of ((box1 w _).cell hl4 (fun h => h) |>.trans k4) (hk _ (.inr rfl)))
 ·rcases hk with rfl | rfl
  ·exact .inl (Nat.le_refl _)
  ·exact .inr (by decide)
def sle (v a : ByteArray) : Bool := Op.bytesLess v.toList a.toList || v.toList == a.toList
theorem leq_str (v a : ByteArray) (w : World) : (binOp .leq 9 (.string v) (.string a)).run Tryz.prog w = .ok (.bool (sle v a)) w := by simp [binOp, Op.stringOp, sle]
def abN (a v : ByteArray) : Nat := if sle v a then 6 else 0
set_option maxRecDepth 100000 in
theorem above_clo (a v : ByteArray) (E : Nat → Addr) (p0 : Addr) (w : World) (h0 : w.cell? p0 = some (.string a)) (g6 : w.cell? ⟨6, 0, none⟩ = some (errV E 6)) :
  Calls Tryz.prog 173 #[.string v, .pointer (some p0)] w fun e w' => e = .returned (errV E (abN a v)) ∧ Fr (fun _ => False) w w' := by
 have hle := leq_str v a
 unfold abN
 generalize sle v a = t at *
 cases t
 all_goals
  go_enter Tryz.func173, Tryz.ntmps173
  go_wp2_with fail
  go_ret
  exact ⟨rfl, Fr.refl _ _⟩
set_option maxRecDepth 100000 in
theorem above_any (a : ByteArray) (E : Nat → Addr) (w : World) (hg : G6 w E) :
  Calls Tryz.prog 154 #[.string a] w fun e w' => ∃ fv, e = .returned fv ∧ ∃ K, FnR enStr w' K fv E (abN a) ∧ Fr (fun _ => False) w w' ∧ Knew w K := by
 have hmf := mf
 have k6 := hg.k6
 have hl6 := ltC k6
 clear hg
 go_enter Tryz.func154, Tryz.ntmps154
 go_wp2_with fail
 go_ret
 refine ⟨_, rfl, fun k => k = w.heap.size ∨ k = 6, ⟨fun k hk => ?_, fun v => by unfold abN; split <;> omega, _, _, rfl, fun _ W => enters Tryz.func173 rfl rfl _ W, ?_⟩, box1 _ _, fun k hk => ?_⟩
 ·simp
  omega
 ·rintro w2 x v hk rfl
  exact above_clo a v E _ w2 (cell_of (by simp) (hk _ (.inl rfl))) (cell_of ((box1 w _).cell hl6 (fun h => h) |>.trans k6) (hk _ (.inr rfl)))
 ·rcases hk with rfl | rfl
  ·exact .inl (Nat.le_refl _)
  ·exact .inr (by decide)
def rsN (hi : Int) (v : ByteArray) : Nat := wiI 0 hi 4 v.size
set_option maxRecDepth 100000 in
theorem reason_clo (hi : Int) (v : ByteArray) (lb : Nat) (E : Nat → Addr) (w : World) (h0 : w.cell? ⟨lb, 5, none⟩ = some (.int .i64 hi)) (g4 : w.cell? ⟨4, 0, none⟩ = some (errV E 4)) :
  Calls Tryz.prog 136 #[.string v, .pointer (some ⟨lb, 0, none⟩)] w fun e w' => e = .returned (errV E (rsN hi v)) ∧ Fr (fun _ => False) w w' := by
 go_enter Tryz.func136, Tryz.ntmps136
 go_wp2_with fail
 refine (within_int 0 hi 4 E w (by decide)).mono ?_
 rintro e w1 ⟨fv, rfl, K, hF, hf, _⟩
 obtain ⟨Fc, caps, rfl, he, hcall⟩ := hF.ex
 have HC := hid (And.intro (hcall w1 (.int .i64 (v.size : Nat)) (v.size : Nat) (fun _ _ => rfl) rfl) hf)
 clear hcall hF hf
 go_wp2_with fail
 refine (uh HC).1.mono ?_
 rintro e w2 ⟨rfl, hf2⟩
 have HX := hid ((uh HC).2.trans hf2 (fun _ _ h => h))
 clear hf2
 go_wp2_with fail
 go_ret
 exact ⟨rfl, uh HX⟩
theorem reason_fn (hi : Int) (lb : Nat) (E : Nat → Addr) (w : World) (h0 : w.cell? ⟨lb, 5, none⟩ = some (.int .i64 hi)) (hg : G6 w E) : FnR enStr w (fun k => k = lb ∨ k = 4) (.func (.func 136) #[] #[.pointer (some ⟨lb, 0, none⟩)]) E (rsN hi) := by
 have hl := ltC h0
 have hl4 := ltC hg.k4
 refine ⟨fun k hk => ?_, fun v => by simp only [rsN, wiI]; split <;> omega, _, _, rfl, fun _ W => enters Tryz.func136 rfl rfl _ W, ?_⟩
 ·rcases hk with rfl | rfl
  ·exact hl
  ·exact hl4
 ·rintro w2 x v hk rfl
  exact reason_clo hi v lb E w2 (cell_of h0 (hk _ (.inl rfl))) (cell_of hg.k4 (hk _ (.inr rfl)))
theorem addr_add (g o j : Nat) : (⟨g, o, none⟩ : Addr).add j = ⟨g, o + j, none⟩ := by unfold Addr.add; split <;> simp_all
theorem Rus.cells {α : Type} {en : World → Value → α → Prop} {w : World} {K : Nat → Prop} {xo : Option Addr} {n c : Nat} {E : Nat → Addr} {rs : List (α → Nat)} (h : Rus en w K (.slice xo n c) E rs) :
  ∃ fvs : List Value, fvs.length = rs.length ∧ (∀ u ∈ fvs, u.oneCell' = true) ∧ (∀ (j : Nat) fv r, fvs[j]? = some fv → rs[j]? = some r → FnR en w K fv E r) ∧ ∀ g o, xo = some ⟨g, o, none⟩ → ∀ (j : Nat) fv, fvs[j]? = some fv → w.cell? ⟨g, o + j, none⟩ = some fv := by
 cases rs with
 | nil => exact ⟨[], rfl, fun u hu => by simp at hu, fun j fv r hf => by simp at hf, fun g o _ j fv hf => by simp at hf⟩
 | cons r0 rs' =>
  obtain ⟨g, o, _, hxo, _, _, _⟩ := h.cell xo n c rfl 0 r0 rfl
  have hc : ∀ (j : Nat) r, (r0 :: rs')[j]? = some r → ∃ fv, w.cell? ⟨g, o + j, none⟩ = some fv ∧ FnR en w K fv E r := fun j r hr => by
   obtain ⟨g', o', fv, h1, _, h3, h4⟩ := h.cell xo n c rfl j r hr
   rw [hxo] at h1
   obtain ⟨rfl, rfl⟩ : g = g' ∧ o = o' := by simpa using h1
   exact ⟨fv, h3, h4⟩
  have hl : ∀ j, j < (r0 :: rs').length → ∃ r fv, (r0 :: rs')[j]? = some r ∧ w.cell? ⟨g, o + j, none⟩ = some fv ∧ FnR en w K fv E r := fun j hj => by
   obtain ⟨fv, h3, h4⟩ := hc j _ (List.getElem?_eq_getElem hj)
   exact ⟨_, fv, List.getElem?_eq_getElem hj, h3, h4⟩
  have key : ∀ (j : Nat) fv, ((List.range (r0 :: rs').length).map fun j => (w.cell? ⟨g, o + j, none⟩).getD .nilIface)[j]? = some fv → j < (r0 :: rs').length ∧ w.cell? ⟨g, o + j, none⟩ = some fv := fun j fv hf => by
   have hj : j < (r0 :: rs').length := by
    have := (List.getElem?_eq_some_iff.1 hf).1
    simpa using this
   rw [List.getElem?_map, List.getElem?_range hj] at hf
   simp only [Option.map_some, Option.some.injEq] at hf
   obtain ⟨r, fv', _, h2, _⟩ := hl j hj
   rw [h2] at hf
   exact ⟨hj, by rw [h2]; simpa using hf⟩
  refine ⟨(List.range (r0 :: rs').length).map fun j => (w.cell? ⟨g, o + j, none⟩).getD .nilIface, by simp, fun u hu => ?_, fun j fv r hf hr => ?_, fun g' o' e j fv hf => ?_⟩
  ·obtain ⟨j, hj⟩ := List.mem_iff_getElem?.1 hu
   obtain ⟨hj1, hj2⟩ := key j u hj
   obtain ⟨r, fv, _, h2, h3⟩ := hl j hj1
   rw [h2] at hj2
   obtain rfl := Option.some.inj hj2
   obtain ⟨Fc, caps, rfl, _⟩ := h3.ex
   rfl
  ·obtain ⟨hj1, hj2⟩ := key j fv hf
   obtain ⟨fv', h3, h4⟩ := hc j r hr
   rw [h3] at hj2
   obtain rfl := Option.some.inj hj2
   exact h4
  ·rw [hxo] at e
   obtain ⟨rfl, rfl⟩ : g = g' ∧ o = o' := by simpa using e
   exact (key j fv hf).2
theorem Tryz.infoRu_str : (Tryz.prog.info? 281).map (fun i => (i.zero, i.size, i.bytes)) = some (some .nilFunc, 1, 8) := by kernel_rfl
theorem rus_cons_str (w : World) (K0 K : Nat → Prop) (fv : Value) (E : Nat → Addr) (r0 : ByteArray → Nat) (rs : List (ByteArray → Nat)) (xo : Option Addr) (xc : Nat) (h0 : FnR enStr w K0 fv E r0) (h : Rus enStr w K (.slice xo rs.length xc) E rs) (hn : rs.length < 1000) :
  ∃ ao cp w2, (Builtin.append_ #[285, 285] 285 #[.slice (some ⟨w.heap.size, 0, none⟩) 1 1, .slice xo rs.length xc]).run Tryz.prog (w.alloc (.cells #[fv] 281)) = .ok (.slice ao (r0 :: rs).length cp) w2 ∧ Fr (fun _ => False) w w2 ∧ Rus enStr w2 (fun k => K0 k ∨ K k ∨ w.heap.size ≤ k ∧ k < w2.heap.size) (.slice ao (r0 :: rs).length cp) E (r0 :: rs) := by
 obtain ⟨i0, hi, hz0, hz1, hz2⟩ := info_parts Tryz.infoRu_str
 have hown : (w.alloc (.cells #[fv] 281)).ownsRow w.heap.size 281 1 (.slice (some ⟨w.heap.size, 0, none⟩) 1 1) 1 [fv] := ⟨rfl, .inr ⟨w.heap.size, 1, #[fv], rfl, Nat.le_refl _, heap_alloc_new _ _, by decide, by decide, rfl, rfl⟩⟩
 obtain ⟨fvs, hl, h1, hF, hcell⟩ := h.cells
 have hfin : ∀ (v' : Value) (w2 : World), w2.ownsRow w.heap.size 281 1 v' (1 + rs.length) ([fv] ++ fvs) → Fr (fun _ => False) w w2 → ∃ ao cp, v' = .slice ao (r0 :: rs).length cp ∧ Rus enStr w2 (fun k => K0 k ∨ K k ∨ w.heap.size ≤ k ∧ k < w2.heap.size) (.slice ao (r0 :: rs).length cp) E (r0 :: rs) := by
  intro v' w2 ho hf
  have ho2 := ho.2
  rcases ho2 with ⟨_, e⟩ | ⟨g, cap, cur, rfl, _⟩
  ·omega
  have hlt : ∀ k, (K0 k ∨ K k ∨ w.heap.size ≤ k ∧ k < w2.heap.size) → k < w2.heap.size := fun k hk => by
   rcases hk with hk | hk | hk
   ·exact Nat.lt_of_lt_of_le (h0.lt k hk) hf.size
   ·exact Nat.lt_of_lt_of_le (h.lt k hk) hf.size
   ·exact hk.2
  refine ⟨some ⟨g, 0, none⟩, cap, by simp [Nat.add_comm], hlt, ⟨_, _, rfl⟩, fun _ _ _ e => .inr ⟨g, 0, by cases e; rfl⟩, fun xo' n' c' e j r hr => ?_⟩
  have ex : xo' = some ⟨g, 0, none⟩ := by cases e; rfl
  have hg := ho.lt g rfl
  have hcs : ∀ (j : Nat) u, ([fv] ++ fvs)[j]? = some u → w2.cell? ⟨g, 0 + j, none⟩ = some u := fun j u hu => by
   have := ho.cells (g := g) rfl j u hu
   rwa [addr_add] at this
  cases j with
  | zero =>
   obtain rfl : r0 = r := by simpa using hr
   exact ⟨g, 0, fv, ex, .inr (.inr hg), hcs 0 fv rfl, h0.mono (fun k hk => hf.block k (h0.lt k hk) (fun h => h)) (fun k hk => .inl hk) hlt⟩
  | succ j =>
   have hr' : rs[j]? = some r := by simpa using hr
   have hj : j < fvs.length := by rw [hl]; exact (List.getElem?_eq_some_iff.1 hr').1
   have hfv : fvs[j]? = some fvs[j] := List.getElem?_eq_getElem hj
   exact ⟨g, 0, fvs[j], ex, .inr (.inr hg), hcs (j + 1) _ (by simp), (hF j _ r hfv hr').mono (fun k hk => hf.block k (h.lt k hk) (fun h => h)) (fun k hk => .inr (.inl hk)) hlt⟩
 have hbox : Fr (fun _ => False) w (w.alloc (.cells #[fv] 281)) := box1 w _
 rcases h.nz _ _ _ rfl with ⟨rfl, hn0, rfl⟩ | ⟨g, o, rfl⟩
 ·have hr := run_append_owned_none (P := Tryz.prog) (w.alloc (.cells #[fv] 281)) w.heap.size 285 285 281 i0 1 Tryz.underlying285 hi _ 1 [fv] hown
  have e0 : fvs = [] := List.eq_nil_of_length_eq_zero (by omega)
  obtain ⟨ao, cp, e, hRu⟩ := hfin _ _ (by rw [hn0, e0]; exact hown) hbox
  refine ⟨ao, cp, _, ?_, hbox, hRu⟩
  rw [← e, hn0]
  exact hr
 ·obtain ⟨v', w', hr, h2, h3, _, h5⟩ := run_append_own_at (P := Tryz.prog) (w := w.alloc (.cells #[fv] 281)) w.heap.size 285 285 281 i0 .nilFunc 1 8 Tryz.underlying285 hi hz0 hz1 hz2 rfl (by decide) (.slice (some ⟨w.heap.size, 0, none⟩) 1 1) 1 [fv] hown ⟨g, o, none⟩ rs.length xc fvs (by omega) (fun j u hu => by
    rw [addr_add]
    have hc := hcell g o rfl j u hu
    exact (hbox.cell (ltC hc) (fun h => h)).trans hc) h1 (by simp only [maxLen]; omega) (by omega) (by simp)
  have hf : Fr (fun _ => False) w w' := hbox.grown h3 (fun k hk => .inr (by simp [Value.ownBlock] at hk; omega))
  obtain ⟨ao, cp, rfl, hRu⟩ := hfin v' w' h2 hf
  exact ⟨ao, cp, w', hr, hf, hRu⟩
theorem Tryz.infoRu_byt : (Tryz.prog.info? 294).map (fun i => (i.zero, i.size, i.bytes)) = some (some .nilFunc, 1, 8) := by kernel_rfl
theorem rus_cons_byt (w : World) (K0 K : Nat → Prop) (fv : Value) (E : Nat → Addr) (r0 : (List Nat) → Nat) (rs : List ((List Nat) → Nat)) (xo : Option Addr) (xc : Nat) (h0 : FnR enByt w K0 fv E r0) (h : Rus enByt w K (.slice xo rs.length xc) E rs) (hn : rs.length < 1000) :
  ∃ ao cp w2, (Builtin.append_ #[291, 291] 291 #[.slice (some ⟨w.heap.size, 0, none⟩) 1 1, .slice xo rs.length xc]).run Tryz.prog (w.alloc (.cells #[fv] 294)) = .ok (.slice ao (r0 :: rs).length cp) w2 ∧ Fr (fun _ => False) w w2 ∧ Rus enByt w2 (fun k => K0 k ∨ K k ∨ w.heap.size ≤ k ∧ k < w2.heap.size) (.slice ao (r0 :: rs).length cp) E (r0 :: rs) := by
 obtain ⟨i0, hi, hz0, hz1, hz2⟩ := info_parts Tryz.infoRu_byt
 have hown : (w.alloc (.cells #[fv] 294)).ownsRow w.heap.size 294 1 (.slice (some ⟨w.heap.size, 0, none⟩) 1 1) 1 [fv] := ⟨rfl, .inr ⟨w.heap.size, 1, #[fv], rfl, Nat.le_refl _, heap_alloc_new _ _, by decide, by decide, rfl, rfl⟩⟩
 obtain ⟨fvs, hl, h1, hF, hcell⟩ := h.cells
 have hfin : ∀ (v' : Value) (w2 : World), w2.ownsRow w.heap.size 294 1 v' (1 + rs.length) ([fv] ++ fvs) → Fr (fun _ => False) w w2 → ∃ ao cp, v' = .slice ao (r0 :: rs).length cp ∧ Rus enByt w2 (fun k => K0 k ∨ K k ∨ w.heap.size ≤ k ∧ k < w2.heap.size) (.slice ao (r0 :: rs).length cp) E (r0 :: rs) := by
  intro v' w2 ho hf
  have ho2 := ho.2
  rcases ho2 with ⟨_, e⟩ | ⟨g, cap, cur, rfl, _⟩
  ·omega
  have hlt : ∀ k, (K0 k ∨ K k ∨ w.heap.size ≤ k ∧ k < w2.heap.size) → k < w2.heap.size := fun k hk => by
   rcases hk with hk | hk | hk
   ·exact Nat.lt_of_lt_of_le (h0.lt k hk) hf.size
   ·exact Nat.lt_of_lt_of_le (h.lt k hk) hf.size
   ·exact hk.2
  refine ⟨some ⟨g, 0, none⟩, cap, by simp [Nat.add_comm], hlt, ⟨_, _, rfl⟩, fun _ _ _ e => .inr ⟨g, 0, by cases e; rfl⟩, fun xo' n' c' e j r hr => ?_⟩
  have ex : xo' = some ⟨g, 0, none⟩ := by cases e; rfl
  have hg := ho.lt g rfl
  have hcs : ∀ (j : Nat) u, ([fv] ++ fvs)[j]? = some u → w2.cell? ⟨g, 0 + j, none⟩ = some u := fun j u hu => by
   have := ho.cells (g := g) rfl j u hu
   rwa [addr_add] at this
  cases j with
  | zero =>
   obtain rfl : r0 = r := by simpa using hr
   exact ⟨g, 0, fv, ex, .inr (.inr hg), hcs 0 fv rfl, h0.mono (fun k hk => hf.block k (h0.lt k hk) (fun h => h)) (fun k hk => .inl hk) hlt⟩
  | succ j =>
   have hr' : rs[j]? = some r := by simpa using hr
   have hj : j < fvs.length := by rw [hl]; exact (List.getElem?_eq_some_iff.1 hr').1
   have hfv : fvs[j]? = some fvs[j] := List.getElem?_eq_getElem hj
   exact ⟨g, 0, fvs[j], ex, .inr (.inr hg), hcs (j + 1) _ (by simp), (hF j _ r hfv hr').mono (fun k hk => hf.block k (h.lt k hk) (fun h => h)) (fun k hk => .inr (.inl hk)) hlt⟩
 have hbox : Fr (fun _ => False) w (w.alloc (.cells #[fv] 294)) := box1 w _
 rcases h.nz _ _ _ rfl with ⟨rfl, hn0, rfl⟩ | ⟨g, o, rfl⟩
 ·have hr := run_append_owned_none (P := Tryz.prog) (w.alloc (.cells #[fv] 294)) w.heap.size 291 291 294 i0 1 Tryz.underlying291 hi _ 1 [fv] hown
  have e0 : fvs = [] := List.eq_nil_of_length_eq_zero (by omega)
  obtain ⟨ao, cp, e, hRu⟩ := hfin _ _ (by rw [hn0, e0]; exact hown) hbox
  refine ⟨ao, cp, _, ?_, hbox, hRu⟩
  rw [← e, hn0]
  exact hr
 ·obtain ⟨v', w', hr, h2, h3, _, h5⟩ := run_append_own_at (P := Tryz.prog) (w := w.alloc (.cells #[fv] 294)) w.heap.size 291 291 294 i0 .nilFunc 1 8 Tryz.underlying291 hi hz0 hz1 hz2 rfl (by decide) (.slice (some ⟨w.heap.size, 0, none⟩) 1 1) 1 [fv] hown ⟨g, o, none⟩ rs.length xc fvs (by omega) (fun j u hu => by
    rw [addr_add]
    have hc := hcell g o rfl j u hu
    exact (hbox.cell (ltC hc) (fun h => h)).trans hc) h1 (by simp only [maxLen]; omega) (by omega) (by simp)
  have hf : Fr (fun _ => False) w w' := hbox.grown h3 (fun k hk => .inr (by simp [Value.ownBlock] at hk; omega))
  obtain ⟨ao, cp, rfl, hRu⟩ := hfin v' w' h2 hf
  exact ⟨ao, cp, w', hr, hf, hRu⟩
theorem Tryz.infoRu_int : (Tryz.prog.info? 255).map (fun i => (i.zero, i.size, i.bytes)) = some (some .nilFunc, 1, 8) := by kernel_rfl
theorem rus_cons_int (w : World) (K0 K : Nat → Prop) (fv : Value) (E : Nat → Addr) (r0 : Int → Nat) (rs : List (Int → Nat)) (xo : Option Addr) (xc : Nat) (h0 : FnR enInt w K0 fv E r0) (h : Rus enInt w K (.slice xo rs.length xc) E rs) (hn : rs.length < 1000) :
  ∃ ao cp w2, (Builtin.append_ #[278, 278] 278 #[.slice (some ⟨w.heap.size, 0, none⟩) 1 1, .slice xo rs.length xc]).run Tryz.prog (w.alloc (.cells #[fv] 255)) = .ok (.slice ao (r0 :: rs).length cp) w2 ∧ Fr (fun _ => False) w w2 ∧ Rus enInt w2 (fun k => K0 k ∨ K k ∨ w.heap.size ≤ k ∧ k < w2.heap.size) (.slice ao (r0 :: rs).length cp) E (r0 :: rs) := by
 obtain ⟨i0, hi, hz0, hz1, hz2⟩ := info_parts Tryz.infoRu_int
 have hown : (w.alloc (.cells #[fv] 255)).ownsRow w.heap.size 255 1 (.slice (some ⟨w.heap.size, 0, none⟩) 1 1) 1 [fv] := ⟨rfl, .inr ⟨w.heap.size, 1, #[fv], rfl, Nat.le_refl _, heap_alloc_new _ _, by decide, by decide, rfl, rfl⟩⟩
 obtain ⟨fvs, hl, h1, hF, hcell⟩ := h.cells
 have hfin : ∀ (v' : Value) (w2 : World), w2.ownsRow w.heap.size 255 1 v' (1 + rs.length) ([fv] ++ fvs) → Fr (fun _ => False) w w2 → ∃ ao cp, v' = .slice ao (r0 :: rs).length cp ∧ Rus enInt w2 (fun k => K0 k ∨ K k ∨ w.heap.size ≤ k ∧ k < w2.heap.size) (.slice ao (r0 :: rs).length cp) E (r0 :: rs) := by
  intro v' w2 ho hf
  have ho2 := ho.2
  rcases ho2 with ⟨_, e⟩ | ⟨g, cap, cur, rfl, _⟩
  ·omega
  have hlt : ∀ k, (K0 k ∨ K k ∨ w.heap.size ≤ k ∧ k < w2.heap.size) → k < w2.heap.size := fun k hk => by
   rcases hk with hk | hk | hk
   ·exact Nat.lt_of_lt_of_le (h0.lt k hk) hf.size
   ·exact Nat.lt_of_lt_of_le (h.lt k hk) hf.size
   ·exact hk.2
  refine ⟨some ⟨g, 0, none⟩, cap, by simp [Nat.add_comm], hlt, ⟨_, _, rfl⟩, fun _ _ _ e => .inr ⟨g, 0, by cases e; rfl⟩, fun xo' n' c' e j r hr => ?_⟩
  have ex : xo' = some ⟨g, 0, none⟩ := by cases e; rfl
  have hg := ho.lt g rfl
  have hcs : ∀ (j : Nat) u, ([fv] ++ fvs)[j]? = some u → w2.cell? ⟨g, 0 + j, none⟩ = some u := fun j u hu => by
   have := ho.cells (g := g) rfl j u hu
   rwa [addr_add] at this
  cases j with
  | zero =>
   obtain rfl : r0 = r := by simpa using hr
   exact ⟨g, 0, fv, ex, .inr (.inr hg), hcs 0 fv rfl, h0.mono (fun k hk => hf.block k (h0.lt k hk) (fun h => h)) (fun k hk => .inl hk) hlt⟩
  | succ j =>
   have hr' : rs[j]? = some r := by simpa using hr
   have hj : j < fvs.length := by rw [hl]; exact (List.getElem?_eq_some_iff.1 hr').1
   have hfv : fvs[j]? = some fvs[j] := List.getElem?_eq_getElem hj
   exact ⟨g, 0, fvs[j], ex, .inr (.inr hg), hcs (j + 1) _ (by simp), (hF j _ r hfv hr').mono (fun k hk => hf.block k (h.lt k hk) (fun h => h)) (fun k hk => .inr (.inl hk)) hlt⟩
 have hbox : Fr (fun _ => False) w (w.alloc (.cells #[fv] 255)) := box1 w _
 rcases h.nz _ _ _ rfl with ⟨rfl, hn0, rfl⟩ | ⟨g, o, rfl⟩
 ·have hr := run_append_owned_none (P := Tryz.prog) (w.alloc (.cells #[fv] 255)) w.heap.size 278 278 255 i0 1 Tryz.underlying278 hi _ 1 [fv] hown
  have e0 : fvs = [] := List.eq_nil_of_length_eq_zero (by omega)
  obtain ⟨ao, cp, e, hRu⟩ := hfin _ _ (by rw [hn0, e0]; exact hown) hbox
  refine ⟨ao, cp, _, ?_, hbox, hRu⟩
  rw [← e, hn0]
  exact hr
 ·obtain ⟨v', w', hr, h2, h3, _, h5⟩ := run_append_own_at (P := Tryz.prog) (w := w.alloc (.cells #[fv] 255)) w.heap.size 278 278 255 i0 .nilFunc 1 8 Tryz.underlying278 hi hz0 hz1 hz2 rfl (by decide) (.slice (some ⟨w.heap.size, 0, none⟩) 1 1) 1 [fv] hown ⟨g, o, none⟩ rs.length xc fvs (by omega) (fun j u hu => by
    rw [addr_add]
    have hc := hcell g o rfl j u hu
    exact (hbox.cell (ltC hc) (fun h => h)).trans hc) h1 (by simp only [maxLen]; omega) (by omega) (by simp)
  have hf : Fr (fun _ => False) w w' := hbox.grown h3 (fun k hk => .inr (by simp [Value.ownBlock] at hk; omega))
  obtain ⟨ao, cp, rfl, hRu⟩ := hfin v' w' h2 hf
  exact ⟨ao, cp, w', hr, hf, hRu⟩
set_option maxRecDepth 100000 in
theorem number_u8 (c : CS) (nm : ByteArray) (rs : List (Nat → Nat)) (v : Nat) (cb b g i : Nat) (F : Nat → Prop) (E : Nat → Addr) (rx : Value) (w : World) (h : Cd w cb b F c E) (hp : w.cell? ⟨g, i, none⟩ = some (.int .u8 (v : Nat))) (hL : Loc w cb F g i) (hv : v < 256) (hR : RuC enU8 w F g rx E rs) (hroom : c.room 1) :
  Calls Tryz.prog 127 #[.pointer (some ⟨cb, 0, none⟩), .string nm, .pointer (some ⟨g, i, none⟩), rx] w fun e w' => e = .returned (.tuple #[]) ∧ ∃ F', Cd w' cb b F' (c.pU8 nm rs v).1 E ∧ w'.cell? ⟨g, i, none⟩ = some (.int .u8 ((c.pU8 nm rs v).2 : Nat)) ∧ Stp w w' F F' (fun k j => k = g ∧ j = i) := by
 have H := hid (part_u8 c nm rs v 0 cb b g i F E rx w h hp hL hv hR hroom)
 obtain ⟨K, hRu, _⟩ := hR.ex
 obtain ⟨xo, xc, rfl⟩ := hRu.form
 clear h hp hL hR hRu
 go_enter Tryz.func127, Tryz.ntmps127
 go_wp2_with fail
 refine (uh H).mono ?_
 rintro e w' ⟨rfl, hr⟩
 have HR := hid hr
 clear hr
 go_wp2_with fail
 go_end0
 exact ⟨rfl, uh HR⟩
set_option maxRecDepth 100000 in
theorem number_u32 (c : CS) (nm : ByteArray) (rs : List (Nat → Nat)) (v : Nat) (cb b g i : Nat) (F : Nat → Prop) (E : Nat → Addr) (rx : Value) (w : World) (h : Cd w cb b F c E) (hp : w.cell? ⟨g, i, none⟩ = some (.int .u32 (v : Nat))) (hL : Loc w cb F g i) (hv : v < 4294967296) (hR : RuC enU32 w F g rx E rs) (hroom : c.room 1) :
  Calls Tryz.prog 130 #[.pointer (some ⟨cb, 0, none⟩), .string nm, .pointer (some ⟨g, i, none⟩), rx] w fun e w' => e = .returned (.tuple #[]) ∧ ∃ F', Cd w' cb b F' (c.pU32 nm rs v).1 E ∧ w'.cell? ⟨g, i, none⟩ = some (.int .u32 ((c.pU32 nm rs v).2 : Nat)) ∧ Stp w w' F F' (fun k j => k = g ∧ j = i) := by
 have H := hid (part_u32 c nm rs v 0 cb b g i F E rx w h hp hL hv hR hroom)
 obtain ⟨K, hRu, _⟩ := hR.ex
 obtain ⟨xo, xc, rfl⟩ := hRu.form
 clear h hp hL hR hRu
 go_enter Tryz.func130, Tryz.ntmps130
 go_wp2_with fail
 refine (uh H).mono ?_
 rintro e w' ⟨rfl, hr⟩
 have HR := hid hr
 clear hr
 go_wp2_with fail
 go_end0
 exact ⟨rfl, uh HR⟩
set_option maxRecDepth 100000 in
theorem number_f32 (c : CS) (nm : ByteArray) (rs : List (Nat → Nat)) (v : Nat) (cb b g i : Nat) (F : Nat → Prop) (E : Nat → Addr) (rx : Value) (w : World) (h : Cd w cb b F c E) (hp : w.cell? ⟨g, i, none⟩ = some (.float .f32 v)) (hL : Loc w cb F g i) (hv : v < 4294967296) (hR : RuC enF32 w F g rx E rs) (hroom : c.room 1) :
  Calls Tryz.prog 175 #[.pointer (some ⟨cb, 0, none⟩), .string nm, .pointer (some ⟨g, i, none⟩), rx] w fun e w' => e = .returned (.tuple #[]) ∧ ∃ F', Cd w' cb b F' (c.pF32 nm rs v).1 E ∧ w'.cell? ⟨g, i, none⟩ = some (.float .f32 (c.pF32 nm rs v).2) ∧ Stp w w' F F' (fun k j => k = g ∧ j = i) := by
 have H := hid (part_f32 c nm rs v 0 cb b g i F E rx w h hp hL hv hR hroom)
 obtain ⟨K, hRu, _⟩ := hR.ex
 obtain ⟨xo, xc, rfl⟩ := hRu.form
 clear h hp hL hR hRu
 go_enter Tryz.func175, Tryz.ntmps175
 go_wp2_with fail
 refine (uh H).mono ?_
 rintro e w' ⟨rfl, hr⟩
 have HR := hid hr
 clear hr
 go_wp2_with fail
 go_end0
 exact ⟨rfl, uh HR⟩
theorem Loc.fr0 {w w' : World} {cb : Nat} {F : Nat → Prop} {g i : Nat} (h : Loc w cb F g i) (hf : Fr (fun _ => False) w w') : Loc w' cb F g i := h.stp (Stp.of_fr hf F (fun _ _ => False))
theorem BV.fr0 {w w' : World} {x : Value} {l : List Nat} {F : Nat → Prop} (h : BV w x l F) (hf : Fr (fun _ => False) w w') : BV w' x l F := h.stp (Stp.of_fr hf F (fun _ _ => False)) (fun _ _ _ _ _ _ h => h)
theorem st_func (a : Addr) (fn : Fn) (f c : Array Value) (m : Mode) (W : World) : (store a (.func fn f c) m).run Tryz.prog W = stored Tryz.prog W a (.func fn f c) m := run_store _ _ _ _ _ rfl
theorem szN_fit {α : Type} (rs : List (α → Nat)) (lo hi : Int) (f : α → Nat) (v : α) (h : fb ((fun v => szN lo hi (f v)) :: rs) v = 0) : (f v : Int) ≤ hi := by
 by_cases hc : hi < (f v : Int)
 ·have e : szN lo hi (f v) = 2 := by rw [szN, if_pos hc]
  simp [fb, e] at h
 ·omega
theorem knew_apart {w : World} {cb b : Nat} {F K : Nat → Prop} {c : CS} {E : Nat → Addr} {g i : Nat} (h : Cd w cb b F c E) (hL : Loc w cb F g i) (hK : Knew w K) : ∀ k, K k → ¬ F k ∧ k ≠ g := fun k hk => by
 have hlt := hL.lt
 have hlo := hL.lo
 rcases hK k hk with h1 | h1
 ·exact ⟨fun hF => by have := h.lt k hF; omega, by omega⟩
 ·exact ⟨fun hF => by have := h.lo k hF; omega, by omega⟩
set_option maxRecDepth 100000 in
theorem run_byt (c : CS) (nm : ByteArray) (lo hi : Int) (rs : List ((List Nat) → Nat)) (x : Value) (v : (List Nat)) (cb b g i : Nat) (F : Nat → Prop) (E : Nat → Addr) (rx : Value) (w : World) (h : Cd w cb b F c E) (hp : w.cell? ⟨g, i, none⟩ = some x) (hB : BV w x v F) (hL : Loc w cb F g i) (hv : v.length < 9223372036854775808) (hhi : hi ≤ 32768) (hR : RuC enByt w F g rx E rs) (hn : rs.length < 1000) (hroom : c.room 1) :
  Calls Tryz.prog 141 #[.pointer (some ⟨cb, 0, none⟩), .string nm, .pointer (some ⟨g, i, none⟩), .int .i64 lo, .int .i64 hi, rx] w fun e w' => e = .returned (.tuple #[]) ∧ ∃ F' x', Cd w' cb b F' (c.pByt nm hi ((fun v => szN lo hi v.length) :: rs) v).1 E ∧ w'.cell? ⟨g, i, none⟩ = some x' ∧ (((∃ s, c = .wr s) ∧ x' = x) ∨ w'.ownsRow w.heap.size 5 1 x' (c.pByt nm hi ((fun v => szN lo hi v.length) :: rs) v).2.length (cellsOf (c.pByt nm hi ((fun v => szN lo hi v.length) :: rs) v).2)) ∧ (∀ k o m c, x' = .slice (some ⟨k, o, none⟩) m c → ¬ F' k) ∧ Stp w w' F F' (fun k j => k = g ∧ j = i) := by
 obtain ⟨K, hRu, hKa⟩ := hR.ex
 have hgo : ∀ (w1 : World) (fv : Value) (K0 : Nat → Prop), FnR enByt w1 K0 fv E (fun v => szN lo hi v.length) → Fr (fun _ => False) w w1 → Knew w K0 → ∀ xo xc, rx = .slice xo rs.length xc → ∃ ao cp w2, (Builtin.append_ #[291, 291] 291 #[.slice (some ⟨w1.heap.size, 0, none⟩) 1 1, .slice xo rs.length xc]).run Tryz.prog (w1.alloc (.cells #[fv] 294)) = .ok (.slice ao (rs.length + 1) cp) w2 ∧
   Calls Tryz.prog 160 #[.pointer (some ⟨cb, 0, none⟩), .string nm, .pointer (some ⟨g, i, none⟩), .int .i64 hi, .slice ao (rs.length + 1) cp] w2 fun e w' => e = .returned (.tuple #[]) ∧ ∃ F' x', Cd w' cb b F' (c.pByt nm hi ((fun v => szN lo hi v.length) :: rs) v).1 E ∧ w'.cell? ⟨g, i, none⟩ = some x' ∧ (((∃ s, c = .wr s) ∧ x' = x) ∨ w'.ownsRow w.heap.size 5 1 x' (c.pByt nm hi ((fun v => szN lo hi v.length) :: rs) v).2.length (cellsOf (c.pByt nm hi ((fun v => szN lo hi v.length) :: rs) v).2)) ∧ (∀ k o m c, x' = .slice (some ⟨k, o, none⟩) m c → ¬ F' k) ∧ Stp w w' F F' (fun k j => k = g ∧ j = i) := by
  intro w1 fv K0 hF hf1 hK0 xo xc e
  subst e
  obtain ⟨ao, cp, w2, hr, hf2, hRu2⟩ := rus_cons_byt w1 K0 K fv E _ rs xo xc hF (hRu.fr hf1 (fun _ _ h => h)) hn
  have hf := hf1.trans hf2 (fun _ _ h => h)
  refine ⟨ao, cp, w2, hr, ?_⟩
  refine (part_byt c nm ((fun v => szN lo hi v.length) :: rs) x v hi cb b g i F E _ w2 (h.fr0 hf) ((hf.cell (p := ⟨g, i, none⟩) hL.lt (fun h => h)).trans hp) (hB.fr0 hf) (hL.fr0 hf) hv (by omega) (fun e => ?_) ⟨⟨_, hRu2, fun k hk => ?_⟩, by simp; omega⟩ hroom).mono ?_
  ·have := szN_fit rs lo hi (fun v : (List Nat) => v.length) v e
   omega
  ·rcases hk with hk | hk | hk
   ·exact knew_apart h hL hK0 k hk
   ·exact hKa k hk
   ·have h1 := hf1.size
    have h2 := hL.lt
    exact ⟨fun hx => by have := h.lt k hx; omega, by omega⟩
  ·rintro e w' ⟨rfl, F', x', hC, hcell, hx, hno, hs⟩
   have hs' : Stp w w' F F' (fun k j => k = g ∧ j = i) := (Stp.of_fr hf F _).trans hs (fun _ _ _ h => h)
   exact ⟨rfl, ⟨F', x', hC, hcell, hx.imp id (fun ho => own_mono ho hf.size), hno, hs'⟩⟩
 have HG := hid hgo
 have HS := hid (sized_byt lo hi E w h.g7)
 obtain ⟨xo, xc, rfl⟩ := hRu.form
 clear hgo h hp hL hR hRu hKa
 go_enter Tryz.func141, Tryz.ntmps141
 go_wp2_with fail
 refine (uh HS).mono ?_
 rintro e w1 ⟨fv, rfl, K0, hF, hf1, hK0⟩
 obtain ⟨ao, cp, w2, hr, hcall⟩ := (uh HG) w1 fv K0 hF hf1 hK0 xo xc rfl
 obtain ⟨Fc, caps, rfl, _⟩ := hF.ex
 have HR := hid hr
 have HC := hid hcall
 clear hF hf1 hK0 hr hcall
 have hsf := st_func
 go_wp2_with (at_builtin; refine wpList_app rfl _ _ 291 291 rfl _ _ _ rfl rfl (uh HR) ?_)
 refine (uh HC).mono ?_
 rintro e w' ⟨rfl, hr⟩
 have HX := hid hr
 clear hr
 go_wp2_with fail
 go_end0
 exact ⟨rfl, uh HX⟩
set_option maxRecDepth 100000 in
theorem run_str (c : CS) (nm : ByteArray) (lo hi : Int) (rs : List (ByteArray → Nat))  (v : ByteArray) (cb b g i : Nat) (F : Nat → Prop) (E : Nat → Addr) (rx : Value) (w : World) (h : Cd w cb b F c E) (hp : w.cell? ⟨g, i, none⟩ = some (.string v)) (hL : Loc w cb F g i) (hv : v.size < 9223372036854775808) (hhi : hi ≤ 32768) (hR : RuC enStr w F g rx E rs) (hn : rs.length < 1000) (hroom : c.room 1) :
  Calls Tryz.prog 135 #[.pointer (some ⟨cb, 0, none⟩), .string nm, .pointer (some ⟨g, i, none⟩), .int .i64 lo, .int .i64 hi, rx] w fun e w' => e = .returned (.tuple #[]) ∧ ∃ F', Cd w' cb b F' (c.pStr nm hi ((fun v => szN lo hi v.size) :: rs) v).1 E ∧ w'.cell? ⟨g, i, none⟩ = some (.string (c.pStr nm hi ((fun v => szN lo hi v.size) :: rs) v).2) ∧ Stp w w' F F' (fun k j => k = g ∧ j = i) := by
 obtain ⟨K, hRu, hKa⟩ := hR.ex
 have hgo : ∀ (w1 : World) (fv : Value) (K0 : Nat → Prop), FnR enStr w1 K0 fv E (fun v => szN lo hi v.size) → Fr (fun _ => False) w w1 → Knew w K0 → ∀ xo xc, rx = .slice xo rs.length xc → ∃ ao cp w2, (Builtin.append_ #[285, 285] 285 #[.slice (some ⟨w1.heap.size, 0, none⟩) 1 1, .slice xo rs.length xc]).run Tryz.prog (w1.alloc (.cells #[fv] 281)) = .ok (.slice ao (rs.length + 1) cp) w2 ∧
   Calls Tryz.prog 157 #[.pointer (some ⟨cb, 0, none⟩), .string nm, .pointer (some ⟨g, i, none⟩), .int .i64 hi, .slice ao (rs.length + 1) cp] w2 fun e w' => e = .returned (.tuple #[]) ∧ ∃ F', Cd w' cb b F' (c.pStr nm hi ((fun v => szN lo hi v.size) :: rs) v).1 E ∧ w'.cell? ⟨g, i, none⟩ = some (.string (c.pStr nm hi ((fun v => szN lo hi v.size) :: rs) v).2) ∧ Stp w w' F F' (fun k j => k = g ∧ j = i) := by
  intro w1 fv K0 hF hf1 hK0 xo xc e
  subst e
  obtain ⟨ao, cp, w2, hr, hf2, hRu2⟩ := rus_cons_str w1 K0 K fv E _ rs xo xc hF (hRu.fr hf1 (fun _ _ h => h)) hn
  have hf := hf1.trans hf2 (fun _ _ h => h)
  refine ⟨ao, cp, w2, hr, ?_⟩
  refine (part_str c nm ((fun v => szN lo hi v.size) :: rs) v hi cb b g i F E _ w2 (h.fr0 hf) ((hf.cell (p := ⟨g, i, none⟩) hL.lt (fun h => h)).trans hp) (hL.fr0 hf) hv (by omega) (fun e => ?_) ⟨⟨_, hRu2, fun k hk => ?_⟩, by simp; omega⟩ hroom).mono ?_
  ·have := szN_fit rs lo hi (fun v : ByteArray => v.size) v e
   omega
  ·rcases hk with hk | hk | hk
   ·exact knew_apart h hL hK0 k hk
   ·exact hKa k hk
   ·have h1 := hf1.size
    have h2 := hL.lt
    exact ⟨fun hx => by have := h.lt k hx; omega, by omega⟩
  ·rintro e w' ⟨rfl, F', hC, hcell, hs⟩
   have hs' : Stp w w' F F' (fun k j => k = g ∧ j = i) := (Stp.of_fr hf F _).trans hs (fun _ _ _ h => h)
   exact ⟨rfl, ⟨F', hC, hcell, hs'⟩⟩
 have HG := hid hgo
 have HS := hid (sized_str lo hi E w h.g7)
 obtain ⟨xo, xc, rfl⟩ := hRu.form
 clear hgo h hp hL hR hRu hKa
 go_enter Tryz.func135, Tryz.ntmps135
 go_wp2_with fail
 refine (uh HS).mono ?_
 rintro e w1 ⟨fv, rfl, K0, hF, hf1, hK0⟩
 obtain ⟨ao, cp, w2, hr, hcall⟩ := (uh HG) w1 fv K0 hF hf1 hK0 xo xc rfl
 obtain ⟨Fc, caps, rfl, _⟩ := hF.ex
 have HR := hid hr
 have HC := hid hcall
 clear hF hf1 hK0 hr hcall
 have hsf := st_func
 go_wp2_with (at_builtin; refine wpList_app rfl _ _ 285 285 rfl _ _ _ rfl rfl (uh HR) ?_)
 refine (uh HC).mono ?_
 rintro e w' ⟨rfl, hr⟩
 have HX := hid hr
 clear hr
 go_wp2_with fail
 go_end0
 exact ⟨rfl, uh HX⟩
def n_form : ByteArray := ⟨#[102, 111, 114, 109]⟩
def n_client : ByteArray := ⟨#[99, 108, 105, 101, 110, 116]⟩
def n_number : ByteArray := ⟨#[110, 117, 109, 98, 101, 114]⟩
def n_actor : ByteArray := ⟨#[97, 99, 116, 111, 114]⟩
def n_op : ByteArray := ⟨#[111, 112]⟩
def n_record : ByteArray := ⟨#[114, 101, 99, 111, 114, 100]⟩
def n_version : ByteArray := ⟨#[118, 101, 114, 115, 105, 111, 110]⟩
def n_ward : ByteArray := ⟨#[119, 97, 114, 100]⟩
def n_owner : ByteArray := ⟨#[111, 119, 110, 101, 114]⟩
def n_fields : ByteArray := ⟨#[102, 105, 101, 108, 100, 115]⟩
def n_reason : ByteArray := ⟨#[114, 101, 97, 115, 111, 110]⟩
def n_name : ByteArray := ⟨#[110, 97, 109, 101]⟩
def n_kind : ByteArray := ⟨#[107, 105, 110, 100]⟩
def n_text : ByteArray := ⟨#[116, 101, 120, 116]⟩
def n_value : ByteArray := ⟨#[118, 97, 108, 117, 101]⟩
def n_unit : ByteArray := ⟨#[117, 110, 105, 116]⟩
def n_code : ByteArray := ⟨#[99, 111, 100, 101]⟩
def n_history : ByteArray := ⟨#[104, 105, 115, 116, 111, 114, 121]⟩
def n_author : ByteArray := ⟨#[97, 117, 116, 104, 111, 114]⟩
def n_event : ByteArray := ⟨#[101, 118, 101, 110, 116]⟩
def n_many : ByteArray := ⟨#[109, 97, 110, 121]⟩
def n_gone : ByteArray := ⟨#[103, 111, 110, 101]⟩
def n_place : ByteArray := ⟨#[112, 108, 97, 99, 101]⟩
def n_digest : ByteArray := ⟨#[100, 105, 103, 101, 115, 116]⟩
def n_size : ByteArray := ⟨#[115, 105, 122, 101]⟩
def n_root : ByteArray := ⟨#[114, 111, 111, 116]⟩
def n_key : ByteArray := ⟨#[107, 101, 121]⟩
def n_signature : ByteArray := ⟨#[115, 105, 103, 110, 97, 116, 117, 114, 101]⟩
def n_hashes : ByteArray := ⟨#[104, 97, 115, 104, 101, 115]⟩
def n_hash : ByteArray := ⟨#[104, 97, 115, 104]⟩
def n_busy : ByteArray := ⟨#[98, 117, 115, 121]⟩
def n_length : ByteArray := ⟨#[108, 101, 110, 103, 116, 104]⟩
def n_end : ByteArray := ⟨#[101, 110, 100]⟩
def CS.pHash (c : CS) (nm : ByteArray) (v : List Nat) : CS × List Nat := c.pByt nm 32 [fun v => szN 1 32 v.length] v
set_option maxRecDepth 100000 in
theorem hash_any (c : CS) (nm : ByteArray) (x : Value) (v : List Nat) (cb b g i : Nat) (F : Nat → Prop) (E : Nat → Addr) (w : World) (h : Cd w cb b F c E) (hp : w.cell? ⟨g, i, none⟩ = some x) (hB : BV w x v F) (hL : Loc w cb F g i) (hv : v.length < 9223372036854775808) (hroom : c.room 1) :
  Calls Tryz.prog 140 #[.pointer (some ⟨cb, 0, none⟩), .string nm, .pointer (some ⟨g, i, none⟩)] w fun e w' => e = .returned (.tuple #[]) ∧ ∃ F' x', Cd w' cb b F' (c.pHash nm v).1 E ∧ w'.cell? ⟨g, i, none⟩ = some x' ∧ (((∃ s, c = .wr s) ∧ x' = x) ∨ w'.ownsRow w.heap.size 5 1 x' (c.pHash nm v).2.length (cellsOf (c.pHash nm v).2)) ∧ (∀ k o m c, x' = .slice (some ⟨k, o, none⟩) m c → ¬ F' k) ∧ Stp w w' F F' (fun k j => k = g ∧ j = i) := by
 have H := hid (run_byt c nm 1 32 [] x v cb b g i F E (.slice none 0 0) w h hp hB hL hv (by decide) (RuC.nil _ w F g E) (by decide) hroom)
 clear h hp hB hL
 go_enter Tryz.func140, Tryz.ntmps140
 go_wp2_with fail
 refine (uh H).mono ?_
 rintro e w' ⟨rfl, hr⟩
 have HR := hid hr
 clear hr
 go_wp2_with fail
 go_end0
 exact ⟨rfl, uh HR⟩
set_option maxRecDepth 100000 in
theorem proof1_any (c : CS) (x : Value) (v : List Nat) (cb b g i : Nat) (p : Addr) (F : Nat → Prop) (E : Nat → Addr) (w : World) (h : Cd w cb b F c E) (hc : w.cell? p = some (.pointer (some ⟨cb, 0, none⟩))) (hp : w.cell? ⟨g, i, none⟩ = some x) (hB : BV w x v F) (hL : Loc w cb F g i) (hv : v.length < 9223372036854775808) (hroom : c.room 1) :
  Calls Tryz.prog 143 #[.pointer (some ⟨g, i, none⟩), .pointer (some p)] w fun e w' => e = .returned (.tuple #[]) ∧ ∃ F' x', Cd w' cb b F' (c.pHash n_hash v).1 E ∧ w'.cell? ⟨g, i, none⟩ = some x' ∧ (((∃ s, c = .wr s) ∧ x' = x) ∨ w'.ownsRow w.heap.size 5 1 x' (c.pHash n_hash v).2.length (cellsOf (c.pHash n_hash v).2)) ∧ (∀ k o m c, x' = .slice (some ⟨k, o, none⟩) m c → ¬ F' k) ∧ Stp w w' F F' (fun k j => k = g ∧ j = i) := by
 have H := hid (hash_any c n_hash x v cb b g i F E w h hp hB hL hv hroom)
 clear h hp hB hL
 go_enter Tryz.func143, Tryz.ntmps143
 go_wp2_with fail
 refine (uh H).mono ?_
 rintro e w' ⟨rfl, hr⟩
 have HR := hid hr
 clear hr
 go_wp2_with fail
 go_end0
 exact ⟨rfl, uh HR⟩
theorem CS.pHash_room {c : CS} {n : Nat} (h : c.room (n + 1)) (nm : ByteArray) (v : List Nat) : (c.pHash nm v).1.room n :=
 CS.pByt_room h nm 32 _ v (fun e => by have := szN_fit [] 1 32 (fun v : List Nat => v.length) v e; omega)
theorem Cd.box {w : World} {cb b : Nat} {F : Nat → Prop} {c : CS} {E : Nat → Addr} (h : Cd w cb b F c E) (vs : Array Value) (t : TypeId) (i : Nat) : Loc (w.alloc (.cells vs t)) cb F w.heap.size i := by
 have hl := ltC h.c0
 have hlo := h.cl
 simp only at hl
 exact ⟨by simp, by simp, fun hx => by have := h.lt _ hx; omega, by omega, by omega⟩
def lrs (m : Int) (rs : List (Int → Nat)) : List (Int → Nat) := wiI 0 m 2 :: rs
theorem list_head (c : CS) (nm : ByteArray) (n m : Int) (rs : List (Int → Nat)) (cb b : Nat) (F : Nat → Prop) (E : Nat → Addr) (rx : Value) (w : World) (h : Cd w cb b F c E) (hn : n < 9223372036854775808) (hm : m < 9223372036854775808) (hR : ∃ K, Rus enInt w K rx E rs ∧ ∀ k, K k → ¬ F k) (hrs : rs.length < 1000) (hroom : c.room 1) (T : TypeId) :
  ∀ (w1 : World) (fv : Value) (K0 : Nat → Prop), FnR enInt w1 K0 fv E (wiI 0 m 2) → Fr (fun _ => False) (w.alloc (.cells #[.int .i64 n] T)) w1 → Knew (w.alloc (.cells #[.int .i64 n] T)) K0 → ∀ xo xc, rx = .slice xo rs.length xc → ∃ ao cp w2, (Builtin.append_ #[278, 278] 278 #[.slice (some ⟨w1.heap.size, 0, none⟩) 1 1, .slice xo rs.length xc]).run Tryz.prog (w1.alloc (.cells #[fv] 255)) = .ok (.slice ao (rs.length + 1) cp) w2 ∧
   Calls Tryz.prog 159 #[.pointer (some ⟨cb, 0, none⟩), .string nm, .pointer (some ⟨w.heap.size, 0, none⟩), .int .i64 m, .slice ao (rs.length + 1) cp] w2 fun e w' => e = .returned (.tuple #[]) ∧ ∃ F', Cd w' cb b F' (c.pInt nm m (lrs m rs) n).1 E ∧ w'.cell? ⟨w.heap.size, 0, none⟩ = some (.int .i64 (c.pInt nm m (lrs m rs) n).2) ∧ w.heap.size < w'.heap.size ∧ ¬ F' w.heap.size ∧ Stp w w' F F' (fun _ _ => False) := by
 intro w1 fv K0 hF hf1 hK0 xo xc e
 subst e
 obtain ⟨K, hRu, hKa⟩ := hR
 have hb := box1 w (.cells #[.int .i64 n] T)
 have hsz : (w.alloc (.cells #[.int .i64 n] T)).heap.size = w.heap.size + 1 := by simp
 have hf01 := hb.trans hf1 (fun _ _ h => h)
 obtain ⟨ao, cp, w2, hr, hf2, hRu2⟩ := rus_cons_int w1 K0 K fv E _ rs xo xc hF (hRu.fr hf01 (fun _ _ h => h)) hrs
 have hf12 := hf1.trans hf2 (fun _ _ h => h)
 have hf := hf01.trans hf2 (fun _ _ h => h)
 have hng : 9 ≤ w.heap.size := by
  have := h.cl
  have h2 := ltC h.c0
  simp only at h2
  omega
 have hnF : ¬ F w.heap.size := fun hx => by have := h.lt _ hx; omega
 have hlt2 : w.heap.size < w2.heap.size := by have := hf12.size; omega
 have hlc := ltC h.c0
 have hL : Loc w2 cb F w.heap.size 0 := ⟨(hf12.frozen (p := ⟨w.heap.size, 0, none⟩) (by simp) (fun h => h)).trans (by simp), hlt2, hnF, by simp only at hlc; omega, hng⟩
 have hp : w2.cell? ⟨w.heap.size, 0, none⟩ = some (.int .i64 n) := (hf12.cell (p := ⟨w.heap.size, 0, none⟩) (by simp) (fun h => h)).trans (by simp)
 refine ⟨ao, cp, w2, hr, ?_⟩
 refine (part_int c nm (lrs m rs) n m cb b w.heap.size 0 F E _ w2 (h.fr0 hf) hp hL hn hm ⟨⟨_, hRu2, fun k hk => ?_⟩, by simp [lrs]; omega⟩ hroom).mono ?_
 ·rcases hk with hk | hk | hk
  ·rcases hK0 k hk with h1 | h1
   ·exact ⟨fun hx => by have := h.lt k hx; omega, by omega⟩
   ·exact ⟨fun hx => by have := h.lo k hx; omega, by omega⟩
  ·exact ⟨hKa k hk, by have := hRu.lt k hk; omega⟩
  ·have h1 := hf1.size
   exact ⟨fun hx => by have := h.lt k hx; omega, by omega⟩
 ·rintro e w' ⟨rfl, F', hC, hcell, hs⟩
  exact ⟨rfl, F', hC, hcell, Nat.lt_of_lt_of_le hlt2 hs.size, hs.nF hlt2 hnF, (Stp.of_fr hf F _).trans hs (fun k j hk h => by omega)⟩
def loopW {α : Type} (each : CS → α → CS × α) : CS → List α → CS
 | c, [] => c
 | c, x :: xs => loopW each (each c x).1 xs
theorem loopW_snoc {α : Type} (each : CS → α → CS × α) (xs : List α) : ∀ (c : CS) (x : α), loopW each c (xs ++ [x]) = (each (loopW each c xs) x).1 := by
 induction xs with
 | nil => intro c x; rfl
 | cons y ys ih => intro c x; exact ih _ x
theorem loopW_succ {α : Type} (each : CS → α → CS × α) (c : CS) (xs : List α) (k : Nat) (x : α) (h : xs[k]? = some x) : loopW each c (xs.take (k + 1)) = (each (loopW each c (xs.take k)) x).1 := by
 rw [List.take_add_one, h, Option.toList_some, loopW_snoc]
structure PcV (w : World) (xo : Option Addr) (xc : Nat) (ps : List (List Nat)) (F : Nat → Prop) : Prop where
 cap : ps.length ≤ xc
 el : ∀ (j : Nat) p, ps[j]? = some p → ∃ g o x, xo = some ⟨g, o, none⟩ ∧ ¬ F g ∧ w.cell? ⟨g, o + j, none⟩ = some x ∧ BV w x p F ∧ p.length < 9223372036854775808
theorem PcV.stp {w w' : World} {xo : Option Addr} {xc : Nat} {ps : List (List Nat)} {F F' : Nat → Prop} {P : Nat → Nat → Prop} (h : PcV w xo xc ps F) (hs : Stp w w' F F' P) (hP : ∀ k j, k < w.heap.size → ¬ P k j) : PcV w' xo xc ps F' := by
 refine ⟨h.cap, fun j p hp => ?_⟩
 obtain ⟨g, o, x, h1, h2, h3, h4, h5⟩ := h.el j p hp
 have hlt := ltC h3
 exact ⟨g, o, x, h1, hs.nF hlt h2, (hs.oth g (o + j) hlt h2 (hP g _ hlt)).trans h3, h4.stp hs (fun k o m c e i => hP k i (h4.at_ k o m c e).1), h5⟩
def loopR {α : Type} (each : CS → α → CS × α) (z : α) : Nat → CS → CS × List α
 | 0, c => (c, [])
 | n + 1, c => ((each (loopR each z n c).1 z).1, (loopR each z n c).2 ++ [(each (loopR each z n c).1 z).2])
theorem loopR_len {α : Type} (each : CS → α → CS × α) (z : α) (c : CS) (n : Nat) : (loopR each z n c).2.length = n := by
 induction n with
 | zero => rfl
 | succ n ih => simp [loopR, ih]
theorem ownsRow_base {w : World} {base base' e size n : Nat} {v : Value} {xs : List Value} (h : w.ownsRow base e size v n xs) (hb : base' ≤ base) : w.ownsRow base' e size v n xs := by
 refine ⟨h.1, ?_⟩
 rcases h.2 with h | ⟨g, c, cur, e1, e2, e3⟩
 ·exact .inl h
 ·exact .inr ⟨g, c, cur, e1, Nat.le_trans hb e2, e3⟩
structure OwP (w : World) (base : Nat) (x : Value) (ps : List (List Nat)) (F : Nat → Prop) : Prop where
 nF : ∀ k, x.ownBlock = some k → ¬ F k
 us : ∃ us : List Value, us.length = ps.length ∧ w.ownsRow base 23 1 x ps.length us ∧
  (∀ (j : Nat) u p, us[j]? = some u → ps[j]? = some p → w.ownsRow base 5 1 u p.length (cellsOf p)) ∧
  (∀ (j : Nat) u k, us[j]? = some u → u.ownBlock = some k → ¬ F k ∧ x.ownBlock ≠ some k) ∧
  (∀ (j j' : Nat) u u' k, j ≠ j' → us[j]? = some u → us[j']? = some u' → u.ownBlock = some k → u'.ownBlock ≠ some k)
theorem OwP.nil (w : World) (base : Nat) (F : Nat → Prop) : OwP w base (.slice none 0 0) [] F :=
 ⟨fun _ h => (by cases h), [], rfl, ⟨rfl, .inl ⟨rfl, rfl⟩⟩, fun j u p h => by simp at h, fun j u k h => by simp at h, fun j j' u u' k _ h => by simp at h⟩
theorem OwP.stp {w w' : World} {base : Nat} {x : Value} {ps : List (List Nat)} {F F' : Nat → Prop} {P : Nat → Nat → Prop} (h : OwP w base x ps F) (hs : Stp w w' F F' P) (hP : ∀ k j, base ≤ k → k < w.heap.size → ¬ P k j) : OwP w' base x ps F' := by
 obtain ⟨us, h1, h2, h3, h4, h5⟩ := h.us
 have hblk : ∀ k, base ≤ k → k < w.heap.size → ¬ F k → w'.heap[k]? = w.heap[k]? := fun k hb hk hF => hs.block hk hF (fun j => hP k j hb hk)
 refine ⟨fun k hk => hs.nF (h2.lt k hk).2 (h.nF k hk), us, h1, ownsRow_of_block h2 (fun k hk => hblk k (h2.lt k hk).1 (h2.lt k hk).2 (h.nF k hk)), fun j u p hu hp => ?_, fun j u k hu hk => ?_, h5⟩
 ·have ho := h3 j u p hu hp
  exact ownsRow_of_block ho (fun k hk => hblk k (ho.lt k hk).1 (ho.lt k hk).2 (h4 j u k hu hk).1)
 ·have hj : j < ps.length := by rw [← h1]; exact (List.getElem?_eq_some_iff.1 hu).1
  have ho := h3 j u _ hu (List.getElem?_eq_getElem hj)
  exact ⟨hs.nF (ho.lt k hk).2 (h4 j u k hu hk).1, (h4 j u k hu hk).2⟩
theorem OwP.fr0 {w w' : World} {base : Nat} {x : Value} {ps : List (List Nat)} {F : Nat → Prop} (h : OwP w base x ps F) (hf : Fr (fun _ => False) w w') : OwP w' base x ps F := h.stp (Stp.of_fr hf F (fun _ _ => False)) (fun _ _ _ _ h => h)
theorem OwP.base {w : World} {base base' : Nat} {x : Value} {ps : List (List Nat)} {F : Nat → Prop} (h : OwP w base x ps F) (hb : base' ≤ base) : OwP w base' x ps F := by
 obtain ⟨us, h1, h2, h3, h4, h5⟩ := h.us
 exact ⟨h.nF, us, h1, ownsRow_base h2 hb, fun j u p hu hp => own_mono (h3 j u p hu hp) hb, h4, h5⟩
theorem OwP.form {w : World} {base : Nat} {x : Value} {ps : List (List Nat)} {F : Nat → Prop} (h : OwP w base x ps F) : ∃ ao cap, x = .slice ao ps.length cap := by
 obtain ⟨us, _, h2, _⟩ := h.us
 have hl := h2.1
 rcases h2.2 with ⟨rfl, e⟩ | ⟨g, cap, cur, rfl, _⟩
 ·exact ⟨none, 0, by rw [e]⟩
 ·exact ⟨some ⟨g, 0, none⟩, cap, rfl⟩
theorem Tryz.infoSl : (Tryz.prog.info? 23).map (fun i => (i.zero, i.size, i.bytes)) = some (some (.slice none 0 0), 1, 24) := by kernel_rfl
theorem OwP.app {w : World} {base : Nat} {ao : Option Addr} {cap : Nat} {ps : List (List Nat)} {F : Nat → Prop} (h : OwP w base (.slice ao ps.length cap) ps F) (a : Option Addr) (c : Nat) (p : List Nat) (hb : base ≤ w.heap.size) (hp : w.ownsRow base 5 1 (.slice a p.length c) p.length (cellsOf p)) (hpF : ∀ k, (Value.slice a p.length c).ownBlock = some k → ¬ F k ∧ (Value.slice ao ps.length cap).ownBlock ≠ some k)
  (hne : ∀ us, w.ownsRow base 23 1 (.slice ao ps.length cap) ps.length us → ∀ (j : Nat) u k, us[j]? = some u → (Value.slice a p.length c).ownBlock = some k → u.ownBlock ≠ some k) (hF : ∀ k, F k → k < w.heap.size) (hl : ps.length < 100000) :
  ∃ ao' cap' w2, (Builtin.append_ #[38, 38] 38 #[.slice ao ps.length cap, .slice (some ⟨w.heap.size, 0, none⟩) 1 1]).run Tryz.prog (w.alloc (.cells #[.slice a p.length c] 23)) = .ok (.slice ao' (ps ++ [p]).length cap') w2 ∧ OwP w2 base (.slice ao' (ps ++ [p]).length cap') (ps ++ [p]) F ∧ Fr (fun k => (Value.slice ao ps.length cap).ownBlock = some k) w w2 := by
 obtain ⟨i0, hi, hz0, hz1, hz2⟩ := info_parts Tryz.infoSl
 obtain ⟨us, h1, h2, h3, h4, h5⟩ := h.us
 have hbx := box1 w (.cells #[.slice a p.length c] 23)
 have h2' := ownsRow_of_block (w' := w.alloc (.cells #[.slice a p.length c] 23)) h2 (fun g hg => Below.heap_alloc _ _ _ (h2.lt g hg).2)
 obtain ⟨v', w', hr, h6, h7, _, h8⟩ := run_append_own_at (P := Tryz.prog) (w := w.alloc (.cells #[.slice a p.length c] 23)) base 38 38 23 i0 (.slice none 0 0) 1 24 Tryz.underlying38 hi hz0 hz1 hz2 rfl (by decide) (.slice ao ps.length cap) ps.length us h2' ⟨w.heap.size, 0, none⟩ 1 1 [.slice a p.length c] rfl (fun j u hu => by
  rw [addr_add, World.cell?_alloc_at _ _ _ _ rfl]; simpa using hu) (fun u hu => by simp at hu; subst hu; rfl) (by simp only [maxLen]; omega) (by omega) (by simp; omega)
 have hform : ∃ ao' cap', v' = .slice ao' (ps ++ [p]).length cap' := by
  rcases h6.2 with ⟨_, e⟩ | ⟨g, cap', cur, rfl, _⟩
  ·omega
  ·exact ⟨some ⟨g, 0, none⟩, cap', by simp⟩
 obtain ⟨ao', cap', rfl⟩ := hform
 have hfr : Fr (fun k => (Value.slice ao ps.length cap).ownBlock = some k) w w' := (hbx.mono (fun _ _ h => h.elim)).grown h7 (fun k hk => .inl hk)
 have hown' : ∀ k, (Value.slice ao' (ps ++ [p]).length cap').ownBlock = some k → (Value.slice ao ps.length cap).ownBlock = some k ∨ w.heap.size ≤ k := fun k hk => by
  rcases h8 with e | e
  ·rw [e] at hk; exact .inl hk
  ·rw [e] at hk; cases hk; exact .inr (by simp)
 refine ⟨ao', cap', w', hr, ⟨fun k hk hx => ?_, us ++ [.slice a p.length c], by simp [h1], by simpa using h6, fun j u q hu hq => ?_, fun j u k hu hk => ?_, fun j j' u u' k hj hu hu' hk => ?_⟩, hfr⟩
 ·rcases hown' k hk with e | e
  ·exact h.nF k e hx
  ·have := hF k hx; omega
 ·by_cases hj : j < ps.length
  ·rw [List.getElem?_append_left (by omega)] at hu hq
   have ho := h3 j u q hu hq
   exact ownsRow_of_block ho (fun k hk => hfr.block k (ho.lt k hk).2 (h4 j u k hu hk).2)
  ·have hj2 : j = ps.length := by
    have := (List.getElem?_eq_some_iff.1 hq).1
    simp at this; omega
   subst hj2
   rw [List.getElem?_append_right (by omega)] at hu
   simp [h1] at hu hq
   subst hu hq
   exact ownsRow_of_block hp (fun k hk => hfr.block k (hp.lt k hk).2 (hpF k hk).2)
 ·by_cases hj : j < ps.length
  ·rw [List.getElem?_append_left (by omega)] at hu
   have ho := h3 j u _ hu (List.getElem?_eq_getElem hj)
   refine ⟨(h4 j u k hu hk).1, fun e => ?_⟩
   rcases hown' k e with e2 | e2
   ·exact (h4 j u k hu hk).2 e2
   ·have := (ho.lt k hk).2; omega
  ·rw [List.getElem?_append_right (by omega)] at hu
   have hu' : u = .slice a p.length c := by
    have := (List.getElem?_eq_some_iff.1 hu).1
    have h0 : j - us.length = 0 := by simp at this; omega
    rw [h0] at hu; simpa using hu.symm
   subst hu'
   refine ⟨(hpF k hk).1, fun e => ?_⟩
   rcases hown' k e with e2 | e2
   ·exact (hpF k hk).2 e2
   ·have := (hp.lt k hk).2; omega
 ·have hlast : ∀ (j : Nat) u, (us ++ [Value.slice a p.length c])[j]? = some u → ¬ j < us.length → u = .slice a p.length c := fun j u hu hj => by
   rw [List.getElem?_append_right (by omega)] at hu
   have := (List.getElem?_eq_some_iff.1 hu).1
   have h0 : j - us.length = 0 := by simp at this; omega
   rw [h0] at hu; simpa using hu.symm
  have hlen : ∀ (j : Nat) u, (us ++ [Value.slice a p.length c])[j]? = some u → j ≤ us.length := fun j u hu => by
   have := (List.getElem?_eq_some_iff.1 hu).1
   simp at this; omega
  by_cases hj1 : j < us.length
  ·by_cases hj2 : j' < us.length
   ·rw [List.getElem?_append_left hj1] at hu
    rw [List.getElem?_append_left hj2] at hu'
    exact h5 j j' u u' k hj hu hu' hk
   ·rw [List.getElem?_append_left hj1] at hu
    rw [hlast j' u' hu' hj2]
    intro e
    exact hne us h2 j u k hu e hk
  ·have h8' := hlen j u hu
   have h9' := hlen j' u' hu'
   have hj2 : j' < us.length := by omega
   rw [List.getElem?_append_left hj2] at hu'
   rw [hlast j u hu hj1] at hk
   exact hne us h2 j' u' k hu' hk
theorem ownsRow_unique {w : World} {base e n : Nat} {v : Value} {xs ys : List Value} (h : w.ownsRow base e 1 v n xs) (h' : w.ownsRow base e 1 v n ys) : xs = ys := by
  have l1 := h.1
  have l2 := h'.1
  rcases h.2 with ⟨_, h0⟩ | ⟨g, cap, cur, rfl, _, hg, _, _, _, ht⟩
  · rw [h0] at l1 l2
    exact (List.eq_nil_of_length_eq_zero (by simpa using l1)).trans (List.eq_nil_of_length_eq_zero (by simpa using l2)).symm
  · rcases h'.2 with ⟨e2, _⟩ | ⟨g', cap', cur', e2, _, hg', _, _, _, ht'⟩
    · cases e2
    · cases e2
      rw [hg] at hg'
      cases hg'
      exact ht.symm.trans ht'
theorem own_at {w : World} {base e n k : Nat} {v : Value} {xs : List Value} (h : w.ownsRow base e 1 v n xs) (hk : v.ownBlock = some k) : ∃ m c, v = .slice (some ⟨k, 0, none⟩) m c := by
  rcases h.2 with ⟨rfl, _⟩ | ⟨g, cap, cur, rfl, _⟩
  · cases hk
  · cases hk
    exact ⟨_, _, rfl⟩
theorem Stp.grow {a b c : World} {F G : Nat → Prop} {P : Nat → Nat → Prop} {S : Nat → Prop} (h : Stp a b F G P) (hf : Fr S b c) (hS : ∀ k, S k → a.heap.size ≤ k) : Stp a c F G P := by
  have hs := h.fr.size
  refine ⟨h.fr.trans hf (fun i hi hx => by have := hS i hx; omega), h.new, fun g i hg hF hp => ?_, fun g i hg hF => ?_⟩
  · exact (hf.cell (p := ⟨g, i, none⟩) (by show g < b.heap.size; omega) (fun hx => by have := hS g hx; omega)).trans (h.oth g i hg hF hp)
  · exact (hf.frozen (p := ⟨g, i, none⟩) (by show g < b.heap.size; omega) (fun hx => by have := hS g hx; omega)).trans (h.fz g i hg hF)
set_option maxHeartbeats 2000000 in
set_option maxRecDepth 100000 in
theorem list_byt_r (q : Q) (nm : ByteArray) (m : Nat) (cb b g i kb : Nat) (F : Nat → Prop) (E : Nat → Addr) (w : World) (h : Cd w cb b F (.rd q) E) (hm : m ≤ 4096) (hp : w.cell? ⟨g, i, none⟩ = some (.slice none 0 0)) (hL : Loc w cb F g i) (hkb : w.cell? ⟨kb, 0, none⟩ = some (.pointer (some ⟨cb, 0, none⟩))) (hkF : ¬ F kb) (hkg : kb ≠ g) :
    Calls Tryz.prog 142 #[.pointer (some ⟨cb, 0, none⟩), .string nm, .pointer (some ⟨g, i, none⟩), .int .i64 (m : Nat), .func (.func 143) #[] #[.pointer (some ⟨kb, 0, none⟩)], .slice none 0 0] w fun e w' => e = .returned (.tuple #[]) ∧ ∃ F', Cd w' cb b F' (loopR (fun c v => c.pHash n_hash v) [] (min ((q.named nm).go 7 m).2.1 m) ((CS.rd q).pInt nm m (lrs m []) 0).1).1 E ∧ ∃ x, w'.cell? ⟨g, i, none⟩ = some x ∧ OwP w' w.heap.size x (loopR (fun c v => c.pHash n_hash v) [] (min ((q.named nm).go 7 m).2.1 m) ((CS.rd q).pInt nm m (lrs m []) 0).1).2 F' ∧ Stp w w' F F' (fun k j => k = g ∧ j = i) := by
  have k2 := h.g7.k2
  have hl2 := ltC k2
  have hsf := st_func
  have hent : ∀ (x : Value) (W : World), (callFunc 143 (#[x] ++ #[.pointer (some ⟨kb, 0, none⟩)])).run Tryz.prog W = .ok (.enter 143 (#[x] ++ #[.pointer (some ⟨kb, 0, none⟩)])) W := fun _ W => enters Tryz.func143 rfl rfl _ W
  have hhead := list_head (.rd q) nm 0 m [] cb b F E (.slice none 0 0) w h (by omega) (by omega) ⟨_, Rus.nil _ w E, fun _ h => h.elim⟩ (by decide) (by simp only [CS.room, CS.len]; omega) 3
  obtain ⟨c1, hc1⟩ : ∃ c1, c1 = ((CS.rd q).pInt nm m (lrs m []) 0).1 := ⟨_, rfl⟩
  obtain ⟨n, hn⟩ : ∃ n, n = ((q.named nm).go 7 m).2.1 := ⟨_, rfl⟩
  have hn1 : ((CS.rd q).pInt nm m (lrs m []) 0).2 = (n : Int) := by rw [hn]; rfl
  have hq1 : ∃ q', c1 = .rd q' := ⟨_, hc1⟩
  have hnlt : n < 4294967296 := by rw [hn]; exact (q.named nm).go_lt 7 m
  rw [← hc1, hn1] at hhead
  rw [← hc1, ← hn]
  clear hc1 hn1 hn
  have HG := hid hhead
  clear hhead
  obtain ⟨N, hN⟩ : ∃ N, N = min n m := ⟨_, rfl⟩
  rw [← hN]
  have hNm : N ≤ 4096 := by omega
  have HM := hid hN
  clear hN
  have HW := hid (within_int 0 m 2 E (w.alloc (.cells #[.int .i64 0] 3)) (by decide))
  have H := hid (And.intro h (And.intro hL (And.intro hkF hq1)))
  have hlp := hL.lt
  have hlk := ltC hkb
  clear h hL hq1
  go_enter Tryz.func142, Tryz.ntmps142
  go_wp2_with fail
  refine (uh HW).mono ?_
  rintro e w1 ⟨fv, rfl, K0, hF, hf1, hK0⟩
  obtain ⟨ao, cp, w2, hr, hcall⟩ := (uh HG) w1 fv K0 hF hf1 hK0 none 0 rfl
  obtain ⟨Fc, caps, rfl, _⟩ := hF.ex
  have HR := hid hr
  have HC := hid hcall
  clear hF hf1 hK0 hr hcall
  go_wp2_with (at_builtin; refine wpList_app rfl _ _ 278 278 rfl _ _ _ rfl rfl (uh HR) ?_)
  refine (uh HC).mono ?_
  rintro e w3 ⟨rfl, F3, hC3, hn3, hlt3, hnF3, hs3⟩
  have hp3 : w3.cell? ⟨g, i, none⟩ = some (.slice none 0 0) := (hs3.oth g i hlp (uh H).2.1.nF (fun h => h)).trans hp
  have H3 := hid (And.intro hC3 (And.intro hs3 hp3))
  clear hC3 hs3 hlt3 hnF3 hp3
  by_cases hnm : n ≤ m
  all_goals
    go_wp2_with fail
    go_loopw [32] (fun iv wr => ∃ (k : Nat) (Fk : Nat → Prop) (x : Value), k ≤ N ∧ iv = .int .i64 (k : Nat) ∧ Cd wr cb b Fk (loopR (fun c v => c.pHash n_hash v) [] k c1).1 E ∧ (∃ q', (loopR (fun c v => c.pHash n_hash v) [] k c1).1 = .rd q') ∧ wr.cell? ⟨g, i, none⟩ = some x ∧ OwP wr w.heap.size x (loopR (fun c v => c.pHash n_hash v) [] k c1).2 Fk ∧ Stp w wr F Fk (fun k j => k = g ∧ j = i)) (fun iv _ => N - (intOf iv).toNat)
    case atStart => exact ⟨0, F3, .slice none 0 0, Nat.zero_le _, rfl, (uh H3).1, (uh H).2.2.2, (uh H3).2.2, OwP.nil _ _ _, (uh H3).2.1.mono (fun _ _ _ h => h.elim)⟩
    case round =>
      obtain ⟨k, Fk, x, hk, rfl, hCk, ⟨qk, hqk⟩, hxk, hOk, hsk2⟩ := hrel
      by_cases hlt : k < N
      · have hlt' : (k : Int) < (n : Int) := by have := uh HM; omega
        have hltm : (k : Int) < (m : Int) := by have := uh HM; omega
        have hkr : wr.cell? ⟨kb, 0, none⟩ = some (.pointer (some ⟨cb, 0, none⟩)) := (hsk2.oth kb 0 hlk (uh H).2.2.1 (fun h => hkg h.1)).trans hkb
        rw [hqk] at hCk
        have h0r : wr.cell? ⟨cb, 0, none⟩ = some (.pointer none) := hCk.c0
        have h1r : wr.cell? ⟨cb, 1, none⟩ = some (.pointer (some ⟨b, 0, none⟩)) := hCk.c1
        have hlg := ltC hxk
        have hlkr := ltC hkr
        have hlcr := ltC h0r
        have hLk := (uh H).2.1.stp hsk2
        have HK := hid (And.intro hCk (And.intro hsk2 (And.intro hOk (And.intro hqk hLk))))
        clear hCk hsk2 hqk hOk hLk
        go_wp2_with fail
        have hbx := box1 wr (.cells #[.slice none 0 0] 23)
        refine (proof1_any (.rd qk) (.slice none 0 0) [] cb b wr.heap.size 0 ⟨kb, 0, none⟩ Fk E _ ((uh HK).1.fr0 hbx) ((hbx.cell hlkr (fun h => h)).trans hkr) (by simp) ⟨.inl ⟨rfl, rfl⟩, fun _ _ _ _ e => by cases e⟩ ((uh HK).1.box _ _ 0) (by decide) (by simp only [CS.room, CS.len]; omega)).mono ?_
        rintro e w4 ⟨rfl, F4, x4, hC4, hx4, hown4, hno4, hs4⟩
        have hown4' : w4.ownsRow (wr.alloc (.cells #[.slice none 0 0] 23)).heap.size 5 1 x4 ((CS.rd qk).pHash n_hash []).2.length (cellsOf ((CS.rd qk).pHash n_hash []).2) := by
          rcases hown4 with ⟨⟨s, e⟩, _⟩ | ho
          · cases e
          · exact ho
        obtain ⟨p, hpv⟩ : ∃ p, p = ((CS.rd qk).pHash n_hash []).2 := ⟨_, rfl⟩
        rw [← hpv] at hown4'
        obtain ⟨a4, c4, rfl⟩ := own_form hown4'
        have hs14 : Stp wr w4 Fk F4 (fun k j => k = wr.heap.size ∧ j = 0) := (Stp.of_fr hbx Fk _).trans hs4 (fun _ _ _ h => h)
        have hwb : (wr.alloc (.cells #[.slice none 0 0] 23)).heap.size = wr.heap.size + 1 := by simp
        obtain ⟨psk, hpsk⟩ : ∃ psk, psk = (loopR (fun c v => c.pHash n_hash v) [] k c1).2 := ⟨_, rfl⟩
        have hOk := (uh HK).2.2.1
        rw [← hpsk] at hOk
        obtain ⟨xo, xc, rfl⟩ := hOk.form
        have hOd : OwP w4.drew w.heap.size (.slice xo psk.length xc) psk F4 := (hOk.stp hs14 (fun k j _ hk h => by omega)).fr0 (Fr.drew (Fr.refl _ _))
        have hszw := (uh HK).2.1.size
        have hszr := hs14.size
        have hxlt : ∀ k, (Value.slice xo psk.length xc).ownBlock = some k → k < wr.heap.size := fun k hk => by
          obtain ⟨us, _, h2, _⟩ := hOk.us
          exact (h2.lt k hk).2
        obtain ⟨ao', cap', w6, hr6, hO6, hf6⟩ := hOd.app a4 c4 p (by show w.heap.size ≤ w4.drew.heap.size; simp; omega) (own_mono (ownsRow_of_block hown4' (fun _ _ => rfl)) (by omega)) (fun k hk => ⟨(by obtain ⟨m', c', e'⟩ := own_at hown4' hk; exact hno4 k 0 m' c' e'), fun e => by have h1 := hxlt k e; have h2 := (hown4'.lt k hk).1; omega⟩)
          (fun us hus j u kk hu hkk e => by
            obtain ⟨us0, hl0, h2, h3, _⟩ := hOk.us
            have h2' : w4.drew.ownsRow w.heap.size 23 1 (.slice xo psk.length xc) psk.length us0 := ownsRow_of_block h2 (fun kx hkx => (hs14.block (h2.lt kx hkx).2 (hOk.nF kx hkx) (fun j h => by have := (h2.lt kx hkx).2; omega)))
            obtain rfl := ownsRow_unique hus h2'
            have hj : j < psk.length := by rw [← hl0]; exact (List.getElem?_eq_some_iff.1 hu).1
            have ho := (h3 j u _ hu (List.getElem?_eq_getElem hj)).lt kk e
            have := (hown4'.lt kk hkk).1
            omega) (fun k hk => hC4.lt k hk) (by rw [hpsk, loopR_len]; omega)
        rw [List.length_append, List.length_singleton] at hr6 hO6
        have h0w : w4.cell? ⟨cb, 1, none⟩ = some (.pointer (some ⟨b, 0, none⟩)) := hC4.c1
        have hp4 : w4.cell? ⟨g, i, none⟩ = some (.slice xo psk.length xc) := (hs14.oth g i hlg (uh HK).2.2.2.2.nF (fun h => by omega)).trans hxk
        have fz4 : w4.frozen? ⟨g, i, none⟩ = false := (hs14.fz g i hlg (uh HK).2.2.2.2.nF).trans (uh HK).2.2.2.2.fz
        have hlg4 := ltC hp4
        have hlx4 := ltC hx4
        have hxlo : ∀ k, (Value.slice xo psk.length xc).ownBlock = some k → w.heap.size ≤ k := fun k hk => by
          obtain ⟨us, _, h2, _⟩ := hOk.us
          exact (h2.lt k hk).1
        have hp6 : w6.cell? ⟨g, i, none⟩ = some (.slice xo psk.length xc) := (hf6.cell (p := ⟨g, i, none⟩) hlg4 (fun h => by have := hxlo g h; omega)).trans hp4
        have fz6 : w6.frozen? ⟨g, i, none⟩ = false := (hf6.frozen (p := ⟨g, i, none⟩) hlg4 (fun h => by have := hxlo g h; omega)).trans fz4
        have hf46 : Fr (fun k => (Value.slice xo psk.length xc).ownBlock = some k) w4 w6 := ⟨hf6.os, hf6.tape, hf6.output, hf6.size, hf6.block⟩
        have hgF4 : ¬ F4 g := hs14.nF hlg (uh HK).2.2.2.2.nF
        have hsW : Stp w (w6.setCell ⟨g, i, none⟩ (.slice ao' (psk.length + 1) cap')) F F4 (fun k j => k = g ∧ j = i) := ((((uh HK).2.1.trans hs14 (fun k j hk h => by omega)).grow hf46 hxlo)).trans (Stp.set g i _) (fun _ _ _ h => h)
        have hC7 : Cd (w6.setCell ⟨g, i, none⟩ (.slice ao' (psk.length + 1) cap')) cb b F4 ((CS.rd qk).pHash n_hash []).1 E :=
          (hC4.fr hf46 (fun kk hk hS => hOd.nF kk hS hk) (fun hS => by have := hxlo cb hS; have := ltC (uh H).1.c0; simp only at this; omega) (fun kk hS => by have := hxlo kk hS; have := (uh H).2.1.lo; omega)).fr ((Fr.refl (fun kk => kk = g) _).setCell (.inl rfl) _) (fun kk hk e => hgF4 (e ▸ hk)) (fun e => (uh H).2.1.nc e.symm) (fun kk e => by rw [e]; exact (uh H).2.1.lo)
        have hO7 : OwP (w6.setCell ⟨g, i, none⟩ (.slice ao' (psk.length + 1) cap')) w.heap.size (.slice ao' (psk.length + 1) cap') (psk ++ [p]) F4 := hO6.stp (Stp.set g i _) (fun kk j hb _ h => by omega)
        have hc7 : (w6.setCell ⟨g, i, none⟩ (.slice ao' (psk.length + 1) cap')).cell? ⟨g, i, none⟩ = some (.slice ao' (psk.length + 1) cap') := World.cell?_setCell_same _ _ _ hp6
        have e1 : (loopR (fun c v => c.pHash n_hash v) [] (k + 1) c1).1 = ((CS.rd qk).pHash n_hash []).1 := by
          show ((loopR (fun c v => c.pHash n_hash v) [] k c1).1.pHash n_hash []).1 = _
          rw [(uh HK).2.2.2.1]
        have e2 : (loopR (fun c v => c.pHash n_hash v) [] (k + 1) c1).2 = psk ++ [p] := by
          show (loopR (fun c v => c.pHash n_hash v) [] k c1).2 ++ [((loopR (fun c v => c.pHash n_hash v) [] k c1).1.pHash n_hash []).2] = _
          rw [(uh HK).2.2.2.1, hpsk, hpv]
        rw [← e1] at hC7
        have hq7 : ∃ q', (loopR (fun c v => c.pHash n_hash v) [] (k + 1) c1).1 = .rd q' := by rw [e1]; exact ⟨_, rfl⟩
        have hO7' : OwP (w6.setCell ⟨g, i, none⟩ (.slice ao' (psk.length + 1) cap')) w.heap.size (.slice ao' (psk.length + 1) cap') (loopR (fun c v => c.pHash n_hash v) [] (k + 1) c1).2 F4 := by rw [e2]; exact hO7
        have HFIN := hid (And.intro hC7 (And.intro hq7 (And.intro hc7 (And.intro hO7' hsW))))
        clear hf46 hsW hC7 hO7 hO7' hc7 e1 e2 hq7 hgF4
        have HR6 := hid hr6
        clear hxlo hr6 hO6 hf6 hC4 hs14 hs4 hown4 hown4' hno4 hOk hOd hpv hpsk hxlt hbx
        go_wp2_with fail
        go_region_law (refine step_app rfl (.tmp 56) (.tmp 58) 38 38 rfl _ _ _ (by simp [Act.eval]) (by simp [Act.eval]) (uh HR6) ?_)
        all_goals
          go_wp2_with fail
          exact ⟨⟨k + 1, F4, _, by omega, by go_num, (uh HFIN).1, (uh HFIN).2.1, (uh HFIN).2.2.1, (uh HFIN).2.2.2.1, (uh HFIN).2.2.2.2⟩, by simp [intOf]; omega⟩
      · have hkN : k = N := by omega
        have HK := hid (And.intro hCk (And.intro hsk2 (And.intro hOk hxk)))
        clear hCk hqk hsk2 hOk
        first
          | (have hlt' : ¬ (k : Int) < (n : Int) := by have := uh HM; omega
             go_wp2_with fail)
          | (have hlt' : ¬ (k : Int) < (m : Int) := by have := uh HM; omega
             go_wp2_with fail)
        go_end0
        rw [hkN] at HK
        exact ⟨rfl, Fk, (uh HK).1, x, (uh HK).2.2.2, (uh HK).2.2.1, (uh HK).2.1⟩
def CS.pForm (c : CS) (k : Nat) : CS := (c.pU8 n_form [wiN k k 5] k).1
theorem ruc_one {α : Type} {en : World → Value → α → Prop} {w w1 : World} {cb b g i : Nat} {F K0 : Nat → Prop} {c : CS} {E : Nat → Addr} {r : α → Nat} {fv : Value} (T : TypeId) (h : Cd w cb b F c E) (hL : Loc w cb F g i) (hF : FnR en w1 K0 fv E r) (hf : Fr (fun _ => False) w w1) (hK : Knew w K0) :
  RuC en (w1.alloc (.cells #[fv] T)) F g (.slice (some ⟨w1.heap.size, 0, none⟩) 1 1) E [r] := by
 have hb := box1 w1 (.cells #[fv] T)
 have hlt : ∀ k, (K0 k ∨ k = w1.heap.size) → k < (w1.alloc (.cells #[fv] T)).heap.size := fun k hk => by
  rcases hk with hk | rfl
  ·exact Nat.lt_of_lt_of_le (hF.lt k hk) hb.size
  ·simp
 refine ⟨⟨fun k => K0 k ∨ k = w1.heap.size, ⟨hlt, ⟨_, _, rfl⟩, fun _ _ _ e => .inr ⟨w1.heap.size, 0, by cases e; rfl⟩, fun xo n c' e j r' hr => ?_⟩, fun k hk => ?_⟩, by simp⟩
 ·have ex : xo = some ⟨w1.heap.size, 0, none⟩ := by cases e; rfl
  have hj : j = 0 := by
   have := (List.getElem?_eq_some_iff.1 hr).1
   simp at this; exact this
  subst hj
  obtain rfl : r = r' := by simpa using hr
  exact ⟨w1.heap.size, 0, fv, ex, .inr rfl, by simp, hF.mono (fun k hk => hb.block k (hF.lt k hk) (fun h => h)) (fun _ h => .inl h) hlt⟩
 ·rcases hk with hk | rfl
  ·exact knew_apart h hL hK k hk
  ·have h1 := hf.size
   have h2 := hL.lt
   exact ⟨fun hx => by have := h.lt _ hx; omega, by omega⟩
set_option maxRecDepth 100000 in
theorem form_any (c : CS) (k : Nat) (cb b : Nat) (F : Nat → Prop) (E : Nat → Addr) (w : World) (h : Cd w cb b F c E) (hk : k < 256) (hroom : c.room 1) :
  Calls Tryz.prog 107 #[.pointer (some ⟨cb, 0, none⟩), .int .u8 (k : Nat)] w fun e w' => e = .returned (.tuple #[]) ∧ ∃ F', Cd w' cb b F' (c.pForm k) E ∧ Stp w w' F F' (fun _ _ => False) := by
 have k5 := h.g7.k5
 have hl5 := ltC k5
 have hsf := st_func
 have hbx := box1 w (.cells #[.int .u8 (k : Nat)] 5)
 have HW := hid (within_u8 k k 5 E (w.alloc (.cells #[.int .u8 (k : Nat)] 5)) (by decide))
 have hgo : ∀ w1 fv K0, FnR enU8 w1 K0 fv E (wiN k k 5) → Fr (fun _ => False) (w.alloc (.cells #[.int .u8 (k : Nat)] 5)) w1 → Knew (w.alloc (.cells #[.int .u8 (k : Nat)] 5)) K0 → ∀ T,
   Calls Tryz.prog 127 #[.pointer (some ⟨cb, 0, none⟩), .string n_form, .pointer (some ⟨w.heap.size, 0, none⟩), .slice (some ⟨w1.heap.size, 0, none⟩) 1 1] (w1.alloc (.cells #[fv] T)) fun e w' => e = .returned (.tuple #[]) ∧ ∃ F', Cd w' cb b F' (c.pForm k) E ∧ Stp w w' F F' (fun _ _ => False) := by
  intro w1 fv K0 hF hf hK T
  have hf2 := hf.trans (box1 w1 (.cells #[fv] T)) (fun _ _ h => h)
  have hf02 := hbx.trans hf2 (fun _ _ h => h)
  have hL0 := h.box #[.int .u8 (k : Nat)] 5 0
  refine (number_u8 c n_form [wiN k k 5] k cb b w.heap.size 0 F E _ _ (h.fr0 hf02) ((hf2.cell (p := ⟨w.heap.size, 0, none⟩) (by simp) (fun h => h)).trans (by simp)) (hL0.fr0 hf2) hk (ruc_one T (h.fr0 hbx) hL0 hF hf hK) hroom).mono ?_
  rintro e w' ⟨rfl, F', hC, _, hs⟩
  exact ⟨rfl, F', hC, (Stp.of_fr hf02 F _).trans hs (fun k j hk h => by omega)⟩
 have HG := hid hgo
 clear h hgo
 go_enter Tryz.func107, Tryz.ntmps107
 go_wp2_with fail
 refine (uh HW).mono ?_
 rintro e w1 ⟨fv, rfl, K0, hF, hf, hK⟩
 have HX := hid ((uh HG) w1 fv K0 hF hf hK 241)
 obtain ⟨Fc, caps, rfl, _⟩ := hF.ex
 clear hF hf hK
 go_wp2_with fail
 refine (uh HX).mono ?_
 rintro e w' ⟨rfl, hr⟩
 have HR := hid hr
 clear hr
 go_wp2_with fail
 go_end0
 exact ⟨rfl, uh HR⟩
structure BVg (w : World) (x : Value) (l : List Nat) (F : Nat → Prop) (g : Nat) : Prop where
 bv : BV w x l F
 ng : ∀ k o m c, x = .slice (some ⟨k, o, none⟩) m c → k ≠ g
 len : l.length < 9223372036854775808
theorem BVg.stp {w w' : World} {x : Value} {l : List Nat} {F F' : Nat → Prop} {P : Nat → Nat → Prop} {g : Nat} (h : BVg w x l F g) (hs : Stp w w' F F' P) (hP : ∀ k i, k < w.heap.size → P k i → k = g) : BVg w' x l F' g :=
 ⟨h.bv.stp hs (fun k o m c e i hp => h.ng k o m c e (hP k i (h.bv.at_ k o m c e).1 hp)), h.ng, h.len⟩
structure BO (w0 w : World) (c : CS) (x' : Value) (l' : List Nat) (F : Nat → Prop) (g : Nat) : Prop where
 bv : BVg w x' l' F g
 val : ∀ q, c = .rd q → w.ownsRow w0.heap.size 5 1 x' l'.length (cellsOf l')
theorem BO.stp {w0 w w' : World} {c : CS} {x' : Value} {l' : List Nat} {F F' : Nat → Prop} {P : Nat → Nat → Prop} {g : Nat} (h : BO w0 w c x' l' F g) (hs : Stp w w' F F' P) (hP : ∀ k i, k < w.heap.size → P k i → k = g) : BO w0 w' c x' l' F' g := by
 refine ⟨h.bv.stp hs hP, fun q hq => ownsRow_of_block (h.val q hq) (fun k hk => ?_)⟩
 obtain ⟨m, c', e⟩ := own_at (h.val q hq) hk
 have ha := h.bv.bv.at_ k 0 m c' e
 exact hs.block ha.1 ha.2 (fun j hp => h.bv.ng k 0 m c' e (hP k j ha.1 hp))
theorem BO.mode {w0 w1 w : World} {c c1 : CS} {x' : Value} {l' : List Nat} {F : Nat → Prop} {g : Nat} (h : BO w1 w c1 x' l' F g) (hs : w0.heap.size ≤ w1.heap.size) (hm : ∀ q, c = .rd q → ∃ q', c1 = .rd q') : BO w0 w c x' l' F g :=
 ⟨h.bv, fun q hq => by obtain ⟨q', h1⟩ := hm q hq; exact own_mono (h.val q' h1) hs⟩
theorem bo_of {w w' : World} {cb b g i : Nat} {c : CS} {E : Nat → Addr} {nm : ByteArray} {m : Int} {rs : List (List Nat → Nat)} {x x' : Value} {v : List Nat} {F F' : Nat → Prop} (h : Cd w cb b F c E) (hB : BVg w x v F g) (hg : g < w.heap.size) (hs : Stp w w' F F' (fun k j => k = g ∧ j = i))
  (hx : ((∃ s, c = .wr s) ∧ x' = x) ∨ w'.ownsRow w.heap.size 5 1 x' (c.pByt nm m rs v).2.length (cellsOf (c.pByt nm m rs v).2)) (hno : ∀ k o m c, x' = .slice (some ⟨k, o, none⟩) m c → ¬ F' k) : BO w w' c x' (c.pByt nm m rs v).2 F' g := by
 rcases hx with ⟨⟨s, rfl⟩, rfl⟩ | hown
 ·exact ⟨hB.stp hs (fun k j _ h => h.1), fun q e => by cases e⟩
 ·exact ⟨⟨⟨own_src hown, fun k o m c e => ⟨(hown.lt k (by rw [e]; rfl)).2, hno k o m c e⟩⟩, fun k o m c e => by have := (hown.lt k (by rw [e]; rfl)).1; omega, CS.pByt_lt h nm m rs v hB.len⟩, fun _ _ => hown⟩
def CS.pHead (c : CS) (v : Nat × List Nat) : CS × Nat × List Nat := (((c.pU32 n_size [] v.1).1.pHash n_root v.2).1, (c.pU32 n_size [] v.1).2, ((c.pU32 n_size [] v.1).1.pHash n_root v.2).2)
def cellsAt (g o n : Nat) (k j : Nat) : Prop := k = g ∧ o ≤ j ∧ j < o + n
theorem CS.pU32_mode (c : CS) (nm : ByteArray) (rs : List (Nat → Nat)) (v : Nat) : ∀ q, c = .rd q → ∃ q', (c.pU32 nm rs v).1 = .rd q' := by rintro q rfl; exact ⟨_, rfl⟩
set_option maxRecDepth 100000 in
theorem head_any (c : CS) (size : Nat) (root : List Nat) (x : Value) (cb b g o : Nat) (F : Nat → Prop) (E : Nat → Addr) (w : World) (h : Cd w cb b F c E) (hp0 : w.cell? ⟨g, o, none⟩ = some (.int .u32 (size : Nat))) (hp1 : w.cell? ⟨g, o + 1, none⟩ = some x) (hB : BVg w x root F g) (hL : ∀ i, Loc w cb F g i) (hsz : size < 4294967296) (hroom : c.room 2) :
  Calls Tryz.prog 111 #[.pointer (some ⟨cb, 0, none⟩), .pointer (some ⟨g, o, none⟩)] w fun e w' => e = .returned (.tuple #[]) ∧ ∃ F', Cd w' cb b F' (c.pHead (size, root)).1 E ∧ w'.cell? ⟨g, o, none⟩ = some (.int .u32 ((c.pHead (size, root)).2.1 : Nat)) ∧ ∃ x', w'.cell? ⟨g, o + 1, none⟩ = some x' ∧ BO w w' c x' (c.pHead (size, root)).2.2 F' g ∧ Stp w w' F F' (cellsAt g o 2) := by
 have H := hid (And.intro h (And.intro hB hL))
 have HN := hid (number_u32 c n_size [] size cb b g o F E (.slice none 0 0) w h hp0 (hL o) hsz (RuC.nil _ w F g E) (by simp only [CS.room] at *; omega))
 clear h hB hL
 go_enter Tryz.func111, Tryz.ntmps111
 go_wp2_with fail
 refine (uh HN).mono ?_
 rintro e w1 ⟨rfl, F1, hC1, hc1, hs1⟩
 have hgl := ((uh H).2.2 o).lt
 have hgF := ((uh H).2.2 o).nF
 have hB1 := (uh H).2.1.stp hs1 (fun k i _ h => h.1)
 have hp1' : w1.cell? ⟨g, o + 1, none⟩ = some x := (hs1.oth g (o + 1) hgl hgF (fun h => by omega)).trans hp1
 have HH := hid (hash_any (c.pU32 n_size [] size).1 n_root x root cb b g (o + 1) F1 E w1 hC1 hp1' hB1.bv (((uh H).2.2 (o + 1)).stp hs1) hB1.len (CS.pU32_room (by simpa using hroom) _ _ _))
 have H1 := hid (And.intro hs1 (And.intro hc1 (And.intro hC1 hB1)))
 clear hC1 hs1 hB1 hp1' hc1
 go_wp2_with fail
 refine (uh HH).mono ?_
 rintro e w2 ⟨rfl, F2, x2, hC2, hx2, ho2, hn2, hs2⟩
 have hgl1 := Nat.lt_of_lt_of_le hgl (uh H1).1.size
 have hc2 : w2.cell? ⟨g, o, none⟩ = some (.int .u32 ((c.pU32 n_size [] size).2 : Nat)) := (hs2.oth g o hgl1 ((uh H1).1.nF hgl hgF) (fun h => by omega)).trans (uh H1).2.1
 have hbo := (bo_of (uh H1).2.2.1 (uh H1).2.2.2 hgl1 hs2 ho2 hn2).mode (uh H1).1.size (c.pU32_mode n_size [] size)
 have H2 := hid (And.intro hC2 (And.intro hc2 (And.intro hx2 (And.intro hbo (((uh H1).1.mono (P' := cellsAt g o 2) (fun k j _ h => ⟨h.1, by omega, by omega⟩)).trans hs2 (fun k j _ h => ⟨h.1, by omega, by omega⟩))))))
 clear hC2 hc2 hx2 ho2 hn2 hs2 hbo
 go_wp2_with fail
 go_end0
 exact ⟨rfl, F2, (uh H2).1, (uh H2).2.1, x2, (uh H2).2.2.1, (uh H2).2.2.2.1, (uh H2).2.2.2.2⟩
def CS.pId (c : CS) (v : Nat × Nat) : CS × Nat × Nat := (((c.pU32 n_client [] v.1).1.pU32 n_number [] v.2).1, (c.pU32 n_client [] v.1).2, ((c.pU32 n_client [] v.1).1.pU32 n_number [] v.2).2)
theorem CS.pId_room {c : CS} {n : Nat} (h : c.room (n + 2)) (v : Nat × Nat) : (c.pId v).1.room n := CS.pU32_room (CS.pU32_room h _ _ _) _ _ _
theorem CS.pId_lt (c : CS) (v : Nat × Nat) (h1 : v.1 < 4294967296) (h2 : v.2 < 4294967296) : (c.pId v).2.1 < 4294967296 ∧ (c.pId v).2.2 < 4294967296 := ⟨CS.pU32_lt _ _ _ _ h1, CS.pU32_lt _ _ _ _ h2⟩
set_option maxRecDepth 100000 in
theorem id_any (c : CS) (v : Nat × Nat) (cb b g o : Nat) (F : Nat → Prop) (E : Nat → Addr) (w : World) (h : Cd w cb b F c E) (hp0 : w.cell? ⟨g, o, none⟩ = some (.int .u32 (v.1 : Nat))) (hp1 : w.cell? ⟨g, o + 1, none⟩ = some (.int .u32 (v.2 : Nat))) (hL : ∀ i, Loc w cb F g i) (h1 : v.1 < 4294967296) (h2 : v.2 < 4294967296) (hroom : c.room 2) :
  Calls Tryz.prog 129 #[.pointer (some ⟨cb, 0, none⟩), .pointer (some ⟨g, o, none⟩)] w fun e w' => e = .returned (.tuple #[]) ∧ ∃ F', Cd w' cb b F' (c.pId v).1 E ∧ w'.cell? ⟨g, o, none⟩ = some (.int .u32 ((c.pId v).2.1 : Nat)) ∧ w'.cell? ⟨g, o + 1, none⟩ = some (.int .u32 ((c.pId v).2.2 : Nat)) ∧ Stp w w' F F' (cellsAt g o 2) := by
 have HN := hid (number_u32 c n_client [] v.1 cb b g o F E (.slice none 0 0) w h hp0 (hL o) h1 (RuC.nil _ w F g E) (by simp only [CS.room] at *; omega))
 have hgl := (hL o).lt
 have hgF := (hL o).nF
 have H := hid hL
 clear h hL
 go_enter Tryz.func129, Tryz.ntmps129
 go_wp2_with fail
 refine (uh HN).mono ?_
 rintro e w1 ⟨rfl, F1, hC1, hc1, hs1⟩
 have HM := hid (number_u32 (c.pU32 n_client [] v.1).1 n_number [] v.2 cb b g (o + 1) F1 E (.slice none 0 0) w1 hC1 ((hs1.oth g (o + 1) hgl hgF (fun h => by omega)).trans hp1) (((uh H) (o + 1)).stp hs1) h2 (RuC.nil _ w1 F1 g E) (CS.pU32_room hroom _ _ _))
 have H1 := hid (And.intro hs1 hc1)
 clear hC1 hs1 hc1
 go_wp2_with fail
 refine (uh HM).mono ?_
 rintro e w2 ⟨rfl, F2, hC2, hc2, hs2⟩
 have H2 := hid (And.intro hC2 (And.intro ((hs2.oth g o (Nat.lt_of_lt_of_le hgl (uh H1).1.size) ((uh H1).1.nF hgl hgF) (fun h => by omega)).trans (uh H1).2) (And.intro hc2 (((uh H1).1.mono (P' := cellsAt g o 2) (fun k j _ h => ⟨h.1, by omega, by omega⟩)).trans hs2 (fun k j _ h => ⟨h.1, by omega, by omega⟩)))))
 clear hC2 hc2 hs2
 go_wp2_with fail
 go_end0
 exact ⟨rfl, F2, (uh H2).1, (uh H2).2.1, (uh H2).2.2.1, (uh H2).2.2.2⟩
theorem num1_u8 {c : CS} {nm : ByteArray} {r : Nat → Nat} {v cb b g o : Nat} {F : Nat → Prop} {E : Nat → Addr} {w w1 : World} {fv : Value} {K0 : Nat → Prop} (T : TypeId) (h : Cd w cb b F c E) (hp : w.cell? ⟨g, o, none⟩ = some (.int .u8 (v : Nat))) (hL : Loc w cb F g o) (hv : v < 256) (hF : FnR enU8 w1 K0 fv E r) (hf : Fr (fun _ => False) w w1) (hK : Knew w K0) (hroom : c.room 1) :
  Calls Tryz.prog 127 #[.pointer (some ⟨cb, 0, none⟩), .string nm, .pointer (some ⟨g, o, none⟩), .slice (some ⟨w1.heap.size, 0, none⟩) 1 1] (w1.alloc (.cells #[fv] T)) fun e w' => e = .returned (.tuple #[]) ∧ ∃ F', Cd w' cb b F' (c.pU8 nm [r] v).1 E ∧ w'.cell? ⟨g, o, none⟩ = some (.int .u8 ((c.pU8 nm [r] v).2 : Nat)) ∧ Stp w w' F F' (fun k j => k = g ∧ j = o) := by
 have hf2 := hf.trans (box1 w1 (.cells #[fv] T)) (fun _ _ h => h)
 refine (number_u8 c nm [r] v cb b g o F E _ _ (h.fr0 hf2) ((hf2.cell (p := ⟨g, o, none⟩) hL.lt (fun h => h)).trans hp) (hL.fr0 hf2) hv (ruc_one T h hL hF hf hK) hroom).mono ?_
 rintro e w' ⟨rfl, F', hC, hc, hs⟩
 exact ⟨rfl, F', hC, hc, (Stp.of_fr hf2 F _).trans hs (fun _ _ _ h => h)⟩
theorem num1_u32 {c : CS} {nm : ByteArray} {r : Nat → Nat} {v cb b g o : Nat} {F : Nat → Prop} {E : Nat → Addr} {w w1 : World} {fv : Value} {K0 : Nat → Prop} (T : TypeId) (h : Cd w cb b F c E) (hp : w.cell? ⟨g, o, none⟩ = some (.int .u32 (v : Nat))) (hL : Loc w cb F g o) (hv : v < 4294967296) (hF : FnR enU32 w1 K0 fv E r) (hf : Fr (fun _ => False) w w1) (hK : Knew w K0) (hroom : c.room 1) :
  Calls Tryz.prog 130 #[.pointer (some ⟨cb, 0, none⟩), .string nm, .pointer (some ⟨g, o, none⟩), .slice (some ⟨w1.heap.size, 0, none⟩) 1 1] (w1.alloc (.cells #[fv] T)) fun e w' => e = .returned (.tuple #[]) ∧ ∃ F', Cd w' cb b F' (c.pU32 nm [r] v).1 E ∧ w'.cell? ⟨g, o, none⟩ = some (.int .u32 ((c.pU32 nm [r] v).2 : Nat)) ∧ Stp w w' F F' (fun k j => k = g ∧ j = o) := by
 have hf2 := hf.trans (box1 w1 (.cells #[fv] T)) (fun _ _ h => h)
 refine (number_u32 c nm [r] v cb b g o F E _ _ (h.fr0 hf2) ((hf2.cell (p := ⟨g, o, none⟩) hL.lt (fun h => h)).trans hp) (hL.fr0 hf2) hv (ruc_one T h hL hF hf hK) hroom).mono ?_
 rintro e w' ⟨rfl, F', hC, hc, hs⟩
 exact ⟨rfl, F', hC, hc, (Stp.of_fr hf2 F _).trans hs (fun _ _ _ h => h)⟩
def CS.pCode (c : CS) (v : Nat) : CS × Nat := c.pU8 n_code [wiN 0 10 5] v
set_option maxRecDepth 100000 in
theorem code_any (c : CS) (v cb b g o : Nat) (F : Nat → Prop) (E : Nat → Addr) (w : World) (h : Cd w cb b F c E) (hp : w.cell? ⟨g, o, none⟩ = some (.int .u8 (v : Nat))) (hL : Loc w cb F g o) (hv : v < 256) (hroom : c.room 1) :
  Calls Tryz.prog 137 #[.pointer (some ⟨cb, 0, none⟩), .pointer (some ⟨g, o, none⟩)] w fun e w' => e = .returned (.tuple #[]) ∧ ∃ F', Cd w' cb b F' (c.pCode v).1 E ∧ w'.cell? ⟨g, o, none⟩ = some (.int .u8 ((c.pCode v).2 : Nat)) ∧ Stp w w' F F' (fun k j => k = g ∧ j = o) := by
 have k5 := h.g7.k5
 have hl5 := ltC k5
 have hsf := st_func
 have HW := hid (within_u8 0 10 5 E w (by decide))
 have HX := hid (And.intro h (And.intro hp hL))
 clear h hp hL
 go_enter Tryz.func137, Tryz.ntmps137
 go_wp2_with fail
 refine (uh HW).mono ?_
 rintro e w1 ⟨fv, rfl, K0, hF, hf, hK⟩
 have HN := hid (num1_u8 (nm := n_code) (241) (uh HX).1 (uh HX).2.1 (uh HX).2.2 hv hF hf hK hroom)
 obtain ⟨Fc, caps, rfl, _⟩ := hF.ex
 clear hF hf hK
 go_wp2_with fail
 refine (uh HN).mono ?_
 rintro e w' ⟨rfl, hr⟩
 have HR := hid hr
 clear hr
 go_wp2_with fail
 go_end0
 exact ⟨rfl, uh HR⟩
def lims (op : Nat) : Nat × Nat × Nat × Nat × Int × Int × Nat :=
 if op = 1 then (0, 0, 4294967295, 4294967295, 32, 0, 2) else if op = 2 then (4294967295, 4294967295, 0, 0, 32, 0, 3) else if op = 3 ∨ op = 4 then (4294967295, 4294967295, 0, 0, 0, 0, 0)
 else if op = 5 then (4294967295, 0, 0, 0, 0, 0, 0) else if op = 6 then (4294967295, 1, 0, 0, 0, 0, 0) else if op = 7 then (4294967295, 0, 0, 0, 0, 64, 0) else (0, 0, 0, 0, 0, 0, 0)
def limA (op : Nat) : Array Value := #[.int .u32 ((lims op).1 : Nat), .int .u32 ((lims op).2.1 : Nat), .int .u32 ((lims op).2.2.1 : Nat), .int .u32 ((lims op).2.2.2.1 : Nat), .int .i64 (lims op).2.2.2.2.1, .int .i64 (lims op).2.2.2.2.2.1, .int .u8 ((lims op).2.2.2.2.2.2 : Nat)]
set_option maxRecDepth 100000 in
theorem limitsOf_1 (w : World) : Calls Tryz.prog 131 #[.int .u8 1] w fun e w' => e = .returned (.agg (limA 1)) ∧ Fr (fun _ => False) w w' := by
 go_enter Tryz.func131, Tryz.ntmps131
 go_wp2_with fail
 exact bodyPost_ret (v := .agg (limA 1)) (by simp [results, Tryz.results131, go_sem, limA, lims]) rfl ⟨rfl, by first | exact box1 _ _ | exact (box1 _ _).setCell (.inr (Nat.le_refl _)) _⟩
set_option maxRecDepth 100000 in
theorem limitsOf_2 (w : World) : Calls Tryz.prog 131 #[.int .u8 2] w fun e w' => e = .returned (.agg (limA 2)) ∧ Fr (fun _ => False) w w' := by
 go_enter Tryz.func131, Tryz.ntmps131
 go_wp2_with fail
 exact bodyPost_ret (v := .agg (limA 2)) (by simp [results, Tryz.results131, go_sem, limA, lims]) rfl ⟨rfl, by first | exact box1 _ _ | exact (box1 _ _).setCell (.inr (Nat.le_refl _)) _⟩
set_option maxRecDepth 100000 in
theorem limitsOf_3 (w : World) : Calls Tryz.prog 131 #[.int .u8 3] w fun e w' => e = .returned (.agg (limA 3)) ∧ Fr (fun _ => False) w w' := by
 go_enter Tryz.func131, Tryz.ntmps131
 go_wp2_with fail
 exact bodyPost_ret (v := .agg (limA 3)) (by simp [results, Tryz.results131, go_sem, limA, lims]) rfl ⟨rfl, by first | exact box1 _ _ | exact (box1 _ _).setCell (.inr (Nat.le_refl _)) _⟩
set_option maxRecDepth 100000 in
theorem limitsOf_4 (w : World) : Calls Tryz.prog 131 #[.int .u8 4] w fun e w' => e = .returned (.agg (limA 4)) ∧ Fr (fun _ => False) w w' := by
 go_enter Tryz.func131, Tryz.ntmps131
 go_wp2_with fail
 exact bodyPost_ret (v := .agg (limA 4)) (by simp [results, Tryz.results131, go_sem, limA, lims]) rfl ⟨rfl, by first | exact box1 _ _ | exact (box1 _ _).setCell (.inr (Nat.le_refl _)) _⟩
set_option maxRecDepth 100000 in
theorem limitsOf_5 (w : World) : Calls Tryz.prog 131 #[.int .u8 5] w fun e w' => e = .returned (.agg (limA 5)) ∧ Fr (fun _ => False) w w' := by
 go_enter Tryz.func131, Tryz.ntmps131
 go_wp2_with fail
 exact bodyPost_ret (v := .agg (limA 5)) (by simp [results, Tryz.results131, go_sem, limA, lims]) rfl ⟨rfl, by first | exact box1 _ _ | exact (box1 _ _).setCell (.inr (Nat.le_refl _)) _⟩
set_option maxRecDepth 100000 in
theorem limitsOf_6 (w : World) : Calls Tryz.prog 131 #[.int .u8 6] w fun e w' => e = .returned (.agg (limA 6)) ∧ Fr (fun _ => False) w w' := by
 go_enter Tryz.func131, Tryz.ntmps131
 go_wp2_with fail
 exact bodyPost_ret (v := .agg (limA 6)) (by simp [results, Tryz.results131, go_sem, limA, lims]) rfl ⟨rfl, by first | exact box1 _ _ | exact (box1 _ _).setCell (.inr (Nat.le_refl _)) _⟩
set_option maxRecDepth 100000 in
theorem limitsOf_7 (w : World) : Calls Tryz.prog 131 #[.int .u8 7] w fun e w' => e = .returned (.agg (limA 7)) ∧ Fr (fun _ => False) w w' := by
 go_enter Tryz.func131, Tryz.ntmps131
 go_wp2_with fail
 exact bodyPost_ret (v := .agg (limA 7)) (by simp [results, Tryz.results131, go_sem, limA, lims]) rfl ⟨rfl, by first | exact box1 _ _ | exact (box1 _ _).setCell (.inr (Nat.le_refl _)) _⟩
set_option maxRecDepth 100000 in
theorem limitsOf_no (op : Nat) (w : World) (h : op = 0 ∨ 7 < op) : Calls Tryz.prog 131 #[.int .u8 (op : Nat)] w fun e w' => e = .returned (.agg (limA op)) ∧ Fr (fun _ => False) w w' := by
 have h1 : ((op : Int) == 1) = false := by simp; omega
 have k1 : ¬ op = 1 := by omega
 have h2 : ((op : Int) == 2) = false := by simp; omega
 have k2 : ¬ op = 2 := by omega
 have h3 : ((op : Int) == 3) = false := by simp; omega
 have k3 : ¬ op = 3 := by omega
 have h4 : ((op : Int) == 4) = false := by simp; omega
 have k4 : ¬ op = 4 := by omega
 have h5 : ((op : Int) == 5) = false := by simp; omega
 have k5 : ¬ op = 5 := by omega
 have h6 : ((op : Int) == 6) = false := by simp; omega
 have k6 : ¬ op = 6 := by omega
 have h7 : ((op : Int) == 7) = false := by simp; omega
 have k7 : ¬ op = 7 := by omega
 go_enter Tryz.func131, Tryz.ntmps131
 go_wp2_with fail
 exact bodyPost_ret (v := .agg (limA op)) (by simp [results, Tryz.results131, go_sem, limA, lims, k1, k2, k3, k4, k5, k6, k7]) rfl ⟨rfl, by first | exact box1 _ _ | exact (box1 _ _).setCell (.inr (Nat.le_refl _)) _⟩
theorem limitsOf_any (op : Nat) (w : World) : Calls Tryz.prog 131 #[.int .u8 (op : Nat)] w fun e w' => e = .returned (.agg (limA op)) ∧ Fr (fun _ => False) w w' := by
 by_cases h : op = 0 ∨ 7 < op
 ·exact limitsOf_no op w h
 ·rcases (by omega : op = 1 ∨ op = 2 ∨ op = 3 ∨ op = 4 ∨ op = 5 ∨ op = 6 ∨ op = 7) with rfl | rfl | rfl | rfl | rfl | rfl | rfl
  ·exact limitsOf_1 w
  ·exact limitsOf_2 w
  ·exact limitsOf_3 w
  ·exact limitsOf_4 w
  ·exact limitsOf_5 w
  ·exact limitsOf_6 w
  ·exact limitsOf_7 w
structure Fld where
 name : ByteArray
 kind : Nat
 text : ByteArray
 value : Nat
 unit : Nat
def Fld.vs (f : Fld) : List Value := [.string f.name, .int .u8 (f.kind : Nat), .string f.text, .float .f32 f.value, .int .u8 (f.unit : Nat)]
structure Fld.ok (f : Fld) : Prop where
 name : f.name.size < 9223372036854775808
 kind : f.kind < 256
 text : f.text.size < 9223372036854775808
 value : f.value < 4294967296
 unit : f.unit < 256
def Fld.beside (f : Fld) : Bool := decide ((f.kind ≠ 1 ∧ f.text.toList ≠ []) ∨ (f.kind ≠ 2 ∧ (f.value ≠ 0 ∨ f.unit ≠ 0)))
theorem f32bits (v : Nat) (w : World) : (callFunc 119 #[.float .f32 v]).run Tryz.prog w = .ok (.value (.int .u32 v)) w := by kernel_rfl
set_option maxRecDepth 100000 in
theorem fieldBeside_any (f : Fld) (w : World) (h : f.ok) : Calls Tryz.prog 174 #[.agg #[.string f.name, .int .u8 (f.kind : Nat), .string f.text, .float .f32 f.value, .int .u8 (f.unit : Nat)]] w fun e w' => e = .returned (.bool f.beside) ∧ Fr (fun _ => False) w w' := by
 obtain ⟨nm, kd, tx, vl, un⟩ := f
 obtain ⟨h1, h2, h3, h4, h5⟩ := h
 simp only at *
 have hfb := f32bits
 rcases (by omega : kd = 1 ∨ kd = 2 ∨ (kd ≠ 1 ∧ kd ≠ 2)) with rfl | rfl | ⟨n1, n2⟩
 ·go_enter Tryz.func174, Tryz.ntmps174
  go_wp2_with fail
  all_goals
   go_ret
   refine ⟨?_, ?_⟩
   ·clear hfb
    by_cases hun : un = 0
    ·subst hun
     simp_all [Fld.beside]
    ·have hun' : ((un : Int) != 0) = true := by simp; omega
     simp_all [Fld.beside]
   ·first
     | exact box1 _ _
     | exact (box1 _ _).setCell (.inr (Nat.le_refl _)) _
     | exact ((box1 _ _).setCell (.inr (Nat.le_refl _)) _).setCell (.inr (Nat.le_refl _)) _
 ·go_enter Tryz.func174, Tryz.ntmps174
  go_wp2_with fail
  all_goals
   go_ret
   refine ⟨?_, ?_⟩
   ·clear hfb
    by_cases hun : un = 0
    ·subst hun
     simp_all [Fld.beside]
    ·have hun' : ((un : Int) != 0) = true := by simp; omega
     simp_all [Fld.beside]
   ·first
     | exact box1 _ _
     | exact (box1 _ _).setCell (.inr (Nat.le_refl _)) _
     | exact ((box1 _ _).setCell (.inr (Nat.le_refl _)) _).setCell (.inr (Nat.le_refl _)) _
 ·have m1 : ((kd : Int) == 1) = false := by simp; omega
  have m2 : ((kd : Int) == 2) = false := by simp; omega
  go_enter Tryz.func174, Tryz.ntmps174
  go_wp2_with fail
  all_goals
   go_ret
   refine ⟨?_, ?_⟩
   ·clear hfb
    by_cases hun : un = 0
    ·subst hun
     simp_all [Fld.beside]
    ·have hun' : ((un : Int) != 0) = true := by simp; omega
     simp_all [Fld.beside]
   ·first
     | exact box1 _ _
     | exact (box1 _ _).setCell (.inr (Nat.le_refl _)) _
     | exact ((box1 _ _).setCell (.inr (Nat.le_refl _)) _).setCell (.inr (Nat.le_refl _)) _
theorem nrm {α : Type} : (∀ (l : List α) (i : Nat) (h : i < l.toArray.size), l.toArray[i]'h = l[i]'(by simpa using h)) ∧ (∀ (a : α) (l : List α) (h : 0 < (a :: l).length), (a :: l)[0]'h = a) ∧ (∀ (a : α) (l : List α) (i : Nat) (h : i + 1 < (a :: l).length), (a :: l)[i + 1]'h = l[i]'(by simpa using h)) ∧ (∀ (l : List α) (i : Nat) (v : α), l.toArray.setIfInBounds i v = (l.set i v).toArray) ∧ (∀ (a b : α) (l : List α), (a :: l).set 0 b = b :: l) ∧ (∀ (a b : α) (l : List α) (i : Nat), (a :: l).set (i + 1) b = a :: l.set i b) :=
 ⟨fun _ _ _ => rfl, fun _ _ _ => rfl, fun _ _ _ _ => rfl, fun _ _ _ => List.setIfInBounds_toArray .., fun _ _ _ => rfl, fun _ _ _ _ => rfl⟩
theorem wtk {P : Program} {md : Region.Mode} {ops : Array Oper} {Q : Exit → Act → World → Prop} {S : World → Prop} {i : Nat} {oi : Oper} {v : Value} {fuel : Nat} {listed : Array Bool} {a : Act} {w : World} (hi : ops[i]? = some oi) (hy : YieldsIf P ops S oi v a) (hS : S w)
  (h : wpAnyH P md ops Q S fuel (listed.setIfInBounds i true) (a.put oi.dst v) w) (hs : Region.noSelect ops = true := by kernel_rfl) (hf : Region.free md ops listed i = true := by kernel_rfl) (hr : (Region.ready md ops listed).contains i = true := by kernel_rfl) (hQ : ∀ c a w, Q (.panic c) (a.put oi.dst v) w → Q (.panic c) a w := by exact fun _ _ _ h => h) : wpAnyH P md ops Q S (fuel + 1) listed a w := wpAnyH_take hi hs hf hr hQ hy hS h
theorem wtk2 {P : Program} {md : Region.Mode} {ops : Array Oper} {Q : Exit → Act → World → Prop} {S : World → Prop} {i : Nat} {oi : Oper} {v : Value} {fuel : Nat} {listed : Array Bool} {a : Act} {w : World} (hi : ops[i]? = some oi) (hS : S w)
  (h : wpAnyH P md ops Q S fuel (listed.setIfInBounds i true) (a.put oi.dst v) w) (hy : YieldsIf P ops S oi v a := by refine Or.inl ⟨by rfl, ?_⟩; intro w hSw; (try dsimp only at hSw); go_simp; (try with_reducible rfl)) (hs : Region.noSelect ops = true := by kernel_rfl) (hf : Region.free md ops listed i = true := by kernel_rfl) (hr : (Region.ready md ops listed).contains i = true := by kernel_rfl) (hQ : ∀ c a w, Q (.panic c) (a.put oi.dst v) w → Q (.panic c) a w := by exact fun _ _ _ h => h) : wpAnyH P md ops Q S (fuel + 1) listed a w := wpAnyH_take hi hs hf hr hQ hy hS h
section
variable {P : Program} {ops : Array Oper} {Q : Exit → Act → World → Prop} {md : Region.Mode} {S : World → Prop}
theorem Oper.wp_impQ {o : Oper} {a : Act} {w : World} {K : Act → World → Prop} {Q1 Q2 : Exit → Act → World → Prop} (hp : ∀ e a w, e ≠ Exit.normal → Q1 e a w → Q2 e a w) (hh : o.wp P a w K Q1) : o.wp P a w K Q2 := by
 have hl : LetsOut Q1 → LetsOut Q2 := fun ⟨a, w, h⟩ => ⟨a, w, hp _ _ _ (by intro h; cases h) h⟩
 unfold Oper.wp at *
 generalize (execOp a.eval o).run P w = r at *
 cases r with
 | ok n w' =>
  cases n <;> simp only [Oper.upon] at hh ⊢ <;>
   first
    | exact hh
    | exact Calls.mono hh (fun e w'' he => by cases e <;> first | exact he | exact hp _ _ _ (by intro h; cases h) he | exact hl he)
 | halt x w' => cases x <;> simp only [Oper.upon] at hh ⊢ <;> first | exact hh | exact hp _ _ _ (by intro h; cases h) hh
theorem wpOp_imp {Q1 Q2 : Exit → Act → World → Prop} (hp : ∀ e a w, e ≠ Exit.normal → Q1 e a w → Q2 e a w) {i : Nat} {K : Act → World → Prop} {a : Act} {w : World} (h : wpOp P ops Q1 i K a w) : wpOp P ops Q2 i K a w := by
 have hl : LetsOut Q1 → LetsOut Q2 := fun ⟨a, w, h⟩ => ⟨a, w, hp _ _ _ (by intro h; cases h) h⟩
 unfold wpOp at *
 split
 ·simpa [*] using h
 ·rename_i o ho
  simp only [ho] at h
  split
  ·rename_i hw
   simp only [hw, if_true] at h
   exact h.imp (Oper.wp_impQ hp) (fun ⟨h1, h2⟩ => ⟨h1, hl h2⟩)
  ·rename_i hw
   simp only [hw] at h
   exact h
def lastQ (P : Program) (om : Oper) (Q : Exit → Act → World → Prop) : Exit → Act → World → Prop
 | .normal, a, w => om.wp P a w (fun a' w' => Q .normal a' w') Q
 | e, a, w => Q e a w
def reachB (md : Region.Mode) (ops : Array Oper) : Nat → Nat → Nat → Bool
 | 0, _, _ => false
 | n + 1, i, j => match ops[i]? with
  | some o => o.after.any fun e => Region.binds md e && (e.on == j || reachB md ops n e.on j)
  | none => false
def covB (md : Region.Mode) (ops : Array Oper) (m : Nat) : Bool := (List.range ops.size).all fun j => j == m || reachB md ops 9 m j
def ordB (ops : Array Oper) : Bool := (List.range ops.size).all fun j => match ops[j]? with
 | some o => o.after.all fun e => decide (e.on < j)
 | none => true
theorem lastQ_imp {om : Oper} : ∀ (e : Exit) (a : Act) (w : World), e ≠ Exit.normal → lastQ P om Q e a w → Q e a w := fun e a w hn h => by
 cases e <;> first | exact absurd rfl hn | exact h
theorem getD_both {l : Array Bool} {j : Nat} (h : l.getD j true = false) : l.getD j false = false := by
 rcases Nat.lt_or_ge j l.size with hj | hj
 ·simp [hj] at h ⊢; exact h
 ·simp [Array.getElem?_eq_none hj] at h
def Shut2 (md : Region.Mode) (ops : Array Oper) (l : Array Bool) : Prop := ∀ j oj, ops[j]? = some oj → l.getD j false = true → ∀ e ∈ oj.after, Region.binds md e = true → l.getD e.on false = true
theorem Shut2.set {l : Array Bool} (h : Shut2 md ops l) {i : Nat} (hi : i ∈ Region.ready md ops l) : Shut2 md ops (l.setIfInBounds i true) := fun j oj hj hl e he hb => by
 by_cases hji : j = i
 ·subst hji
  obtain ⟨_, o, ho, h1⟩ := mem_ready.1 hi
  rw [hj] at ho
  cases ho
  exact getD_set_true (h1 e he hb)
 ·rw [getD_set_ne false (Ne.symm hji)] at hl
  exact getD_set_true (h j oj hj hl e he hb)
theorem reach_listed {l : Array Bool} (h : Shut2 md ops l) : ∀ (n i j : Nat) (o : Oper), ops[i]? = some o → (∀ e ∈ o.after, Region.binds md e = true → l.getD e.on false = true) → reachB md ops n i j = true → l.getD j false = true
 | 0, _, _, _, _, _, hr => by cases hr
 | n + 1, i, j, o, ho, hd, hr => by
  simp only [reachB, ho] at hr
  obtain ⟨e, he, hb⟩ := Array.any_eq_true'.1 hr
  simp only [Bool.and_eq_true, Bool.or_eq_true, beq_iff_eq] at hb
  have h6 := hd e he hb.1
  rcases hb.2 with h7 | h7
  ·rw [← h7]; exact h6
  ·cases ho2 : ops[e.on]? with
   | none =>
    cases n with
    | zero => cases h7
    | succ n => simp only [reachB, ho2] at h7; cases h7
   | some o2 => exact reach_listed h n e.on j o2 ho2 (fun e2 he2 hb2 => h e.on o2 ho2 h6 e2 he2 hb2) h7
theorem any_of_last {m : Nat} {om : Oper} (hm : ops[m]? = some om) (hgd : om.guard = none) (hcov : covB md ops m = true) (hord : ordB ops = true) :
  ∀ (fuel : Nat) (listed : Array Bool) (a : Act) (w : World), listed.size = ops.size → Shut2 md ops listed → listed.getD m true = false → wpAnyH P md ops (lastQ P om Q) S fuel (listed.setIfInBounds m true) a w → wpAny P md ops Q (fuel + 1) listed a w := by
 have hne : ∀ listed : Array Bool, listed.size = ops.size → listed.getD m true = false → Region.ready md ops listed ≠ [] := fun listed hsz hun h0 => by
  have hall : ∀ j, listed.getD j true = true := fun j => by
   induction j using Nat.strongRecOn with
   | _ j ih =>
    cases hj : listed.getD j true with
    | true => rfl
    | false =>
     have hjl : j < ops.size := by
      rcases Nat.lt_or_ge j listed.size with h | h
      ·omega
      ·simp [Array.getElem?_eq_none h] at hj
     have hr : j ∈ Region.ready md ops listed := mem_ready.2 ⟨hj, ops[j], Array.getElem?_eq_getElem hjl, fun e he _ => by
      have h1 := List.all_eq_true.1 hord j (List.mem_range.2 hjl)
      rw [Array.getElem?_eq_getElem hjl] at h1
      have h2 := of_decide_eq_true (Array.all_eq_true_iff_forall_mem.1 h1 e he)
      have h3 := ih e.on h2
      have h4 : e.on < listed.size := by omega
      simp [h4] at h3 ⊢
      exact h3⟩
     rw [h0] at hr
     cases hr
  rw [hall m] at hun
  cases hun
 have hend : ∀ listed : Array Bool, Shut2 md ops listed → m ∈ Region.ready md ops listed → Region.ready md ops (listed.setIfInBounds m true) = [] := fun listed hsh hr => by
  apply List.eq_nil_iff_forall_not_mem.2
  intro k hk
  obtain ⟨h1, ok, hok, _⟩ := mem_ready.1 hk
  obtain ⟨h3, om', hom', h4⟩ := mem_ready.1 hr
  rw [hm] at hom'
  cases hom'
  have hkl : k < ops.size := (Array.getElem?_eq_some_iff.1 hok).1
  by_cases hkm : k = m
  ·subst hkm
   rcases Nat.lt_or_ge k listed.size with h | h
   ·simp [h] at h1
   ·simp [Array.getElem?_eq_none h] at h3
  ·rw [getD_set_ne true (Ne.symm hkm)] at h1
   have h5 := List.all_eq_true.1 hcov k (List.mem_range.2 hkl)
   simp only [Bool.or_eq_true, beq_iff_eq, hkm, false_or] at h5
   have h8 := reach_listed hsh 9 m k om hm (fun e he hb => h4 e he hb) h5
   rw [getD_both h1] at h8
   cases h8
 have hop : ∀ (K : Act → World → Prop) (a : Act) (w : World), om.wp P a w K Q → wpOp P ops Q m K a w := fun K a w h => by
  unfold wpOp
  have hw : Region.wanted om (yielded ops a.tmps) = true := by simp [Region.wanted, hgd]
  simp only [hm, hw, if_true]
  exact .inl h
 intro fuel
 induction fuel with
 | zero =>
  intro listed a w hsz hsh hun H
  refine ⟨fun h0 => absurd h0 (hne listed hsz hun), fun j hj => ?_⟩
  by_cases hjm : j = m
  ·subst hjm
   exact hop _ a w (Oper.wp_mono (fun a' w' h => ⟨hend listed hsh hj, h⟩) H.2)
  ·have := ready_mono hj hjm
   rw [H.1] at this
   cases this
 | succ fuel ih =>
  intro listed a w hsz hsh hun H
  refine ⟨fun h0 => absurd h0 (hne listed hsz hun), fun j hj => ?_⟩
  by_cases hjm : j = m
  ·subst hjm
   exact hop _ a w (Oper.wp_mono (fun a' w' h => ⟨fun _ => h, by rw [hend listed hsh hj]; simp⟩) (H.1 (hend listed hsh hj)))
  ·refine wpOp_mono (fun a' w' h => ih (listed.setIfInBounds j true) a' w' (by simpa using hsz) (hsh.set hj) (by rw [getD_set_ne true hjm]; exact hun) ?_) (wpOp_imp lastQ_imp (H.2 j (ready_mono hj hjm)))
   rw [Array.setIfInBounds_comm _ _ hjm]
   exact h.2
theorem wp_region_last {id n m : Nat} {om : Oper} {a : Act} {w : World} (hP : P.follows .mixedOrders = true) (hn : ops.size = n + 1) (hm : ops[m]? = some om) (hgd : om.guard = none) (hcov : covB .any ops m = true) (hord : ordB ops = true) (hS : S w.drew)
  (h : S w.drew → wpAnyH P .any ops (lastQ P om Q) S n ((Array.replicate ops.size false).setIfInBounds m true) a w.drew) : (Code.region id ops true).wp P Q a w := by
 refine wp_region_any hP ?_
 rw [hn]
 have hml : m < ops.size := (Array.getElem?_eq_some_iff.1 hm).1
 have h1 := h hS
 rw [hn] at h1
 have hml2 : m < n + 1 := by omega
 exact any_of_last hm hgd hcov hord n (Array.replicate (n + 1) false) a w.drew (by simp [hn]) (fun j oj _ hl => by
  rcases Nat.lt_or_ge j (n + 1) with h3 | h3 <;> simp [h3] at hl) (by simp [hml2]) h1
end
theorem units_any (w : World) : Calls Tryz.prog 176 #[] w fun e w' => e = .returned (.int .i64 21) ∧ Fr (fun _ => False) w w' := by
 go_enter Tryz.func176, Tryz.ntmps176
 go_wp2_with fail
 go_ret
 exact ⟨rfl, Fr.refl _ _⟩
theorem Knew.mono {w w1 : World} {K : Nat → Prop} (h : Knew w1 K) (hs : w.heap.size ≤ w1.heap.size) : Knew w K := fun k hk => (h k hk).imp (fun h => by omega) id
def RR {α : Type} (en : World → Value → α → Prop) (w w' : World) (E : Nat → Addr) (fv : Value) (r : α → Nat) : Prop := ∃ K0, FnR en w' K0 fv E r ∧ Knew w K0
theorem RR.fr {α : Type} {en : World → Value → α → Prop} {w w1 w' : World} {E : Nat → Addr} {fv : Value} {r : α → Nat} (h : RR en w w1 E fv r) (hf : Fr (fun _ => False) w1 w') : RR en w w' E fv r := by
 obtain ⟨K0, h1, h2⟩ := h
 exact ⟨K0, h1.mono (fun k hk => hf.block k (h1.lt k hk) (fun h => h)) (fun _ h => h) (fun k hk => Nat.lt_of_lt_of_le (h1.lt k hk) hf.size), h2⟩
theorem ruc_one2 {α : Type} {en : World → Value → α → Prop} {w w1 : World} {cb b g i : Nat} {F : Nat → Prop} {c : CS} {E : Nat → Addr} {r1 : α → Nat} {f1 : Value} (T : TypeId) (h : Cd w cb b F c E) (hL : Loc w cb F g i) (hf : Fr (fun _ => False) w w1) (h1 : RR en w w1 E f1 r1) :
  RuC en (w1.alloc (.cells #[f1] T)) F g (.slice (some ⟨w1.heap.size, 0, none⟩) 1 1) E [r1] := by
 obtain ⟨K1, hF1, hK1⟩ := h1
 exact ruc_one T h hL hF1 hf hK1
theorem ruc_two {α : Type} {en : World → Value → α → Prop} {w w1 : World} {cb b g i : Nat} {F : Nat → Prop} {c : CS} {E : Nat → Addr} {r1 r2 : α → Nat} {f1 f2 : Value} (T : TypeId) (h : Cd w cb b F c E) (hL : Loc w cb F g i) (hf : Fr (fun _ => False) w w1) (h1 : RR en w w1 E f1 r1) (h2 : RR en w w1 E f2 r2) :
  RuC en (w1.alloc (.cells #[f1, f2] T)) F g (.slice (some ⟨w1.heap.size, 0, none⟩) 2 2) E [r1, r2] := by
 have hb := box1 w1 (.cells #[f1, f2] T)
 obtain ⟨K1, hF1, hK1⟩ := h1
 obtain ⟨K2, hF2, hK2⟩ := h2
 have hlt : ∀ k, (K1 k ∨ K2 k ∨ k = w1.heap.size) → k < (w1.alloc (.cells #[f1, f2] T)).heap.size := fun k hk => by
  rcases hk with hk | hk | rfl
  ·exact Nat.lt_of_lt_of_le (hF1.lt k hk) hb.size
  ·exact Nat.lt_of_lt_of_le (hF2.lt k hk) hb.size
  ·simp
 refine ⟨⟨fun k => K1 k ∨ K2 k ∨ k = w1.heap.size, ⟨hlt, ⟨_, _, rfl⟩, fun _ _ _ e => .inr ⟨w1.heap.size, 0, by cases e; rfl⟩, fun xo n c' e j r' hr => ?_⟩, fun k hk => ?_⟩, by simp⟩
 ·have ex : xo = some ⟨w1.heap.size, 0, none⟩ := by cases e; rfl
  rcases j with _ | _ | j
  ·obtain rfl : r1 = r' := by simpa using hr
   exact ⟨w1.heap.size, 0, f1, ex, .inr (.inr rfl), by simp, hF1.mono (fun k hk => hb.block k (hF1.lt k hk) (fun h => h)) (fun _ h => .inl h) hlt⟩
  ·obtain rfl : r2 = r' := by simpa using hr
   exact ⟨w1.heap.size, 0, f2, ex, .inr (.inr rfl), by simp, hF2.mono (fun k hk => hb.block k (hF2.lt k hk) (fun h => h)) (fun _ h => .inr (.inl h)) hlt⟩
  ·simp at hr
 ·rcases hk with hk | hk | rfl
  ·exact knew_apart h hL hK1 k hk
  ·exact knew_apart h hL hK2 k hk
  ·have h1 := hf.size
   have h2 := hL.lt
   exact ⟨fun hx => by have := h.lt _ hx; omega, by omega⟩
theorem kpC {w V : World} (hf : Fr (fun _ => False) w V) {p : Addr} {v : Value} (h : w.cell? p = some v) : V.cell? p = some v := (hf.cell (p := p) (ltC h) (fun h => h)).trans h
def CS.pField (c : CS) (last : Nat) (f : Fld) : CS × Fld :=
 if (c.pU8 n_kind [wiN 1 last 5, unN f.beside] f.kind).2 = 1 then
  (((c.pU8 n_kind [wiN 1 last 5, unN f.beside] f.kind).1.pStr n_text 64 [fun v => szN 0 64 v.size] f.text).1, { f with kind := 1, text := ((c.pU8 n_kind [wiN 1 last 5, unN f.beside] f.kind).1.pStr n_text 64 [fun v => szN 0 64 v.size] f.text).2 })
 else if (c.pU8 n_kind [wiN 1 last 5, unN f.beside] f.kind).2 = 2 then
  ((((c.pU8 n_kind [wiN 1 last 5, unN f.beside] f.kind).1.pF32 n_value [] f.value).1.pU8 n_unit [wiN 1 21 4] f.unit).1, { f with kind := 2, value := ((c.pU8 n_kind [wiN 1 last 5, unN f.beside] f.kind).1.pF32 n_value [] f.value).2, unit := (((c.pU8 n_kind [wiN 1 last 5, unN f.beside] f.kind).1.pF32 n_value [] f.value).1.pU8 n_unit [wiN 1 21 4] f.unit).2 })
 else ((c.pU8 n_kind [wiN 1 last 5, unN f.beside] f.kind).1, { f with kind := (c.pU8 n_kind [wiN 1 last 5, unN f.beside] f.kind).2 })
structure FlC (w : World) (g : Nat) (f : Fld) : Prop where
 c0 : w.cell? ⟨g, 0, none⟩ = some (.string f.name)
 c1 : w.cell? ⟨g, 1, none⟩ = some (.int .u8 (f.kind : Nat))
 c2 : w.cell? ⟨g, 2, none⟩ = some (.string f.text)
 c3 : w.cell? ⟨g, 3, none⟩ = some (.float .f32 f.value)
 c4 : w.cell? ⟨g, 4, none⟩ = some (.int .u8 (f.unit : Nat))
set_option maxHeartbeats 2000000 in
set_option maxRecDepth 100000 in
theorem field_any (c : CS) (f : Fld) (last cb b g : Nat) (F : Nat → Prop) (E : Nat → Addr) (w : World) (h : Cd w cb b F c E) (hp : FlC w g f) (hL : ∀ i, Loc w cb F g i) (hf : f.ok) (hroom : c.room 3) :
  Calls Tryz.prog 155 #[.pointer (some ⟨cb, 0, none⟩), .pointer (some ⟨g, 0, none⟩), .int .u8 (last : Nat)] w fun e w' => e = .returned (.tuple #[]) ∧ ∃ F', Cd w' cb b F' (c.pField last f).1 E ∧ FlC w' g (c.pField last f).2 ∧ (c.pField last f).2.ok ∧ Stp w w' F F' (cellsAt g 0 5) := by
 obtain ⟨p0, p1, p2, p3, p4⟩ := hp
 have k5 := h.g7.k5
 have hsf := st_func
 have HK := hid (fun (V : World) (hv : Fr (fun _ => False) w V) => And.intro (kpC hv p0) (And.intro (kpC hv p1) (And.intro (kpC hv p2) (And.intro (kpC hv p3) (And.intro (kpC hv p4) (kpC hv k5))))))
 have H := hid (And.intro h hL)
 have HN : Hid (∀ (w3 : World) (f1 f2 : Value) (T : TypeId), Fr (fun _ => False) w w3 → RR enU8 w w3 E f1 (wiN 1 last 5) → RR enU8 w w3 E f2 (unN f.beside) → Calls Tryz.prog 127 #[.pointer (some ⟨cb, 0, none⟩), .string n_kind, .pointer (some ⟨g, 1, none⟩), .slice (some ⟨w3.heap.size, 0, none⟩) 2 2] (w3.alloc (.cells #[f1, f2] T)) fun e w' => e = .returned (.tuple #[]) ∧ ∃ F', Cd w' cb b F' (c.pU8 n_kind [wiN 1 last 5, unN f.beside] f.kind).1 E ∧ w'.cell? ⟨g, 1, none⟩ = some (.int .u8 ((c.pU8 n_kind [wiN 1 last 5, unN f.beside] f.kind).2 : Nat)) ∧ Stp w w' F F' (fun k j => k = g ∧ j = 1)) := fun w3 f1 f2 T hf3 h1 h2 => by
  have hf2 := hf3.trans (box1 w3 (.cells #[f1, f2] T)) (fun _ _ h => h)
  refine (number_u8 c n_kind [wiN 1 last 5, unN f.beside] f.kind cb b g 1 F E _ _ (h.fr0 hf2) (kpC hf2 p1) ((hL 1).fr0 hf2) hf.kind (ruc_two T h (hL 1) hf3 h1 h2) (by simp only [CS.room] at *; omega)).mono ?_
  rintro e w' ⟨rfl, F', hC, hc, hs⟩
  exact ⟨rfl, F', hC, hc, (Stp.of_fr hf2 F _).trans hs (fun _ _ _ h => h)⟩
 have HR := hid hroom
 have HF := hid hf
 have HKU := hid (CS.pU8_lt c n_kind [wiN 1 last 5, unN f.beside] f.kind hf.kind)
 have HRM := hid (CS.pU8_room (n := 2) hroom n_kind [wiN 1 last 5, unN f.beside] f.kind)
 obtain ⟨c1, hc1⟩ : ∃ c1, (c.pU8 n_kind [wiN 1 last 5, unN f.beside] f.kind).1 = c1 := ⟨_, rfl⟩
 obtain ⟨kd, hkd⟩ : ∃ kd, (c.pU8 n_kind [wiN 1 last 5, unN f.beside] f.kind).2 = kd := ⟨_, rfl⟩
 have HP : Hid (c.pField last f = if kd = 1 then ((c1.pStr n_text 64 [fun v => szN 0 64 v.size] f.text).1, { f with kind := 1, text := (c1.pStr n_text 64 [fun v => szN 0 64 v.size] f.text).2 }) else if kd = 2 then (((c1.pF32 n_value [] f.value).1.pU8 n_unit [wiN 1 21 4] f.unit).1, { f with kind := 2, value := (c1.pF32 n_value [] f.value).2, unit := ((c1.pF32 n_value [] f.value).1.pU8 n_unit [wiN 1 21 4] f.unit).2 }) else (c1, { f with kind := kd })) := by
  rw [← hc1, ← hkd]
  rfl
 rw [hc1, hkd] at HN
 rw [hkd] at HKU
 rw [hc1] at HRM
 generalize c.pField last f = r at *
 have hlg := (hL 0).lt
 have hgF := (hL 0).nF
 clear h hL hroom hc1 hkd hf k5 p0 p1 p2 p3 p4
 go_enter Tryz.func155, Tryz.ntmps155
 go_wp2_with fail
 refine wp_region_last (n := 13) (m := 13) (S := fun V => Fr (fun _ => False) w V) (by kernel_rfl) rfl rfl rfl (by kernel_rfl) (by kernel_rfl) ((Fr.refl _ _).drew) (fun hHeld => ?_)
 refine wtk (i := 0) (v := ?_) rfl (Or.inl ⟨by rfl, ?_⟩) hHeld ?_
 rotate_left
 ·intro V hSw; (try dsimp only at hSw); obtain ⟨q0, q1, q2, q3, q4, q5⟩ := (uh HK) V hSw; go_simp; (try with_reducible rfl)
 (try simp only [Act.put, nrm])
 refine wtk (i := 1) (v := ?_) rfl (Or.inl ⟨by rfl, ?_⟩) hHeld ?_
 rotate_left
 ·intro V hSw; (try dsimp only at hSw); obtain ⟨q0, q1, q2, q3, q4, q5⟩ := (uh HK) V hSw; go_simp; (try with_reducible rfl)
 (try simp only [Act.put, nrm])
 refine wtk (i := 2) (v := ?_) rfl (Or.inl ⟨by rfl, ?_⟩) hHeld ?_
 rotate_left
 ·intro V hSw; (try dsimp only at hSw); obtain ⟨q0, q1, q2, q3, q4, q5⟩ := (uh HK) V hSw; go_simp; (try with_reducible rfl)
 (try simp only [Act.put, nrm])
 refine wtk (i := 3) (v := ?_) rfl (Or.inl ⟨by rfl, ?_⟩) hHeld ?_
 rotate_left
 ·intro V hSw; (try dsimp only at hSw); obtain ⟨q0, q1, q2, q3, q4, q5⟩ := (uh HK) V hSw; go_simp; (try with_reducible rfl)
 (try simp only [Act.put, nrm])
 refine wtk (i := 4) (v := ?_) rfl (Or.inl ⟨by rfl, ?_⟩) hHeld ?_
 rotate_left
 ·intro V hSw; (try dsimp only at hSw); obtain ⟨q0, q1, q2, q3, q4, q5⟩ := (uh HK) V hSw; go_simp; (try with_reducible rfl)
 (try simp only [Act.put, nrm])
 refine wtk (i := 5) (v := ?_) rfl (Or.inl ⟨by rfl, ?_⟩) hHeld ?_
 rotate_left
 ·intro V hSw; (try dsimp only at hSw); obtain ⟨q0, q1, q2, q3, q4, q5⟩ := (uh HK) V hSw; go_simp; (try with_reducible rfl)
 (try simp only [Act.put, nrm])
 refine wtk (i := 7) (v := ?_) rfl (Or.inl ⟨by rfl, ?_⟩) hHeld ?_
 rotate_left
 ·intro V hSw; (try dsimp only at hSw); obtain ⟨q0, q1, q2, q3, q4, q5⟩ := (uh HK) V hSw; go_simp; (try with_reducible rfl)
 (try simp only [Act.put, nrm])
 refine wtk (i := 8) (v := ?_) rfl (Or.inl ⟨by rfl, ?_⟩) hHeld ?_
 rotate_left
 ·intro V hSw; (try dsimp only at hSw); obtain ⟨q0, q1, q2, q3, q4, q5⟩ := (uh HK) V hSw; go_simp; (try with_reducible rfl)
 (try simp only [Act.put, nrm])
 refine wtk (i := 9) (v := ?_) rfl (Or.inl ⟨by rfl, ?_⟩) hHeld ?_
 rotate_left
 ·intro V hSw; (try dsimp only at hSw); obtain ⟨q0, q1, q2, q3, q4, q5⟩ := (uh HK) V hSw; go_simp; (try with_reducible rfl)
 (try simp only [Act.put, nrm])
 refine wpAnyH_ready (rs := [6]) (by kernel_rfl) (by simp) (AllReadyH.cons rfl (fun K hK => ?_) AllReadyH.nil)
 go_simp
 refine (within_u8 1 last 5 E _ (by decide)).mono ?_
 rintro e w1 ⟨fv1, rfl, K1, hF1, hf1, hK1⟩
 have H1 := hid (And.intro (show RR enU8 w w1 E fv1 (wiN 1 last 5) from ⟨K1, hF1, hK1.mono (Nat.le_refl _)⟩) ((Fr.refl _ _).drew.trans hf1 (fun _ _ h => h)))
 obtain ⟨Fc1, caps1, rfl, _⟩ := hF1.ex
 clear hF1 hf1 hK1
 go_simp
 refine hK.out _ _ ((uh H1).2) (fun hHeld => ?_)
 clear hK K
 (try simp only [Act.put, nrm])
 refine wpAnyH_ready (rs := [10]) (by kernel_rfl) (by simp) (AllReadyH.cons rfl (fun K hK => ?_) AllReadyH.nil)
 go_simp
 refine (fieldBeside_any f _ (uh HF)).mono ?_
 rintro e w2 ⟨rfl, hf2⟩
 have H2 := hid (And.intro ((uh H1).1.fr hf2) ((uh H1).2.trans hf2 (fun _ _ h => h)))
 clear hf2 H1
 go_simp
 refine hK.out _ _ ((uh H2).2) (fun hHeld => ?_)
 clear hK K
 (try simp only [Act.put, nrm])
 refine wpAnyH_ready (rs := [11]) (by kernel_rfl) (by simp) (AllReadyH.cons rfl (fun K hK => ?_) AllReadyH.nil)
 go_simp
 refine (unless_any f.beside E _ ((uh H).1.g7.fr (uh H2).2 (fun _ h => h.elim))).mono ?_
 rintro e w3 ⟨fv3, rfl, K3, hF3, hf3, hK3⟩
 have H3 := hid (And.intro ((uh H2).1.fr hf3) (And.intro (show RR enU8 w w3 E fv3 (unN f.beside) from ⟨K3, hF3, hK3.mono (uh H2).2.size⟩) ((uh H2).2.trans hf3 (fun _ _ h => h))))
 obtain ⟨Fc3, caps3, rfl, _⟩ := hF3.ex
 clear hF3 hf3 hK3 H2
 go_simp
 refine hK.out _ _ ((uh H3).2.2) (fun hHeld => ?_)
 clear hK K
 (try simp only [Act.put, nrm])
 refine wpAnyH_ready (rs := [12]) (by kernel_rfl) (by simp) (AllReadyH.cons rfl (fun K hK => ?_) AllReadyH.nil)
 go_simp
 refine hK.out _ _ ((uh H3).2.2.alloc _) (fun hHeld => ?_)
 clear hK K
 (try simp only [Act.put, nrm])
 refine wpAnyH_done (by kernel_rfl) ?_ _
 simp only [lastQ]
 go_simp
 refine ((uh HN) w3 _ _ _ (uh H3).2.2 (uh H3).1 (uh H3).2.1).mono ?_
 rintro e w4 ⟨rfl, F4, hC4, hk4, hs4⟩
 obtain ⟨p0, p1, p2, p3, p4, k5⟩ := (uh HK) w (Fr.refl _ _)
 have r0 : w4.cell? ⟨g, 0, none⟩ = some (.string f.name) := (hs4.oth g 0 hlg hgF (fun h => by omega)).trans p0
 have r2 : w4.cell? ⟨g, 2, none⟩ = some (.string f.text) := (hs4.oth g 2 hlg hgF (fun h => by omega)).trans p2
 have r3 : w4.cell? ⟨g, 3, none⟩ = some (.float .f32 f.value) := (hs4.oth g 3 hlg hgF (fun h => by omega)).trans p3
 have r4 : w4.cell? ⟨g, 4, none⟩ = some (.int .u8 (f.unit : Nat)) := (hs4.oth g 4 hlg hgF (fun h => by omega)).trans p4
 have hL4 := fun i => ((uh H).2 i).stp hs4
 have hku := uh HKU
 have H4 := hid (And.intro hC4 (And.intro hk4 (And.intro hs4 (And.intro r0 (And.intro r2 (And.intro r3 (And.intro r4 hL4)))))))
 clear hC4 hs4 hL4 r0 r2 r3 r4 p0 p1 p2 p3 p4 k5 H3 HN HKU hsf
 by_cases k1 : kd = 1
 ·subst k1
  have hr := uh HP
  rw [if_pos rfl] at hr
  have HP1 := hid hr
  clear hr HP
  obtain ⟨hC4, _, hs4, r0, r2, r3, r4, hL4⟩ := uh H4
  have HT := hid (run_str c1 n_text 0 64 [] f.text cb b g 2 F4 E (.slice none 0 0) w4 hC4 r2 (hL4 2) (uh HF).text (by decide) (RuC.nil _ w4 F4 g E) (by decide) (by have := uh HRM; simp only [CS.room] at *; omega))
  clear hC4 hs4 r0 r2 r3 r4 hL4
  go_wp2_with fail
  refine (uh HT).mono ?_
  rintro e w5 ⟨rfl, F5, hC5, hc5, hs5⟩
  obtain ⟨hC4, hk4', hs4, r0, r2, r3, r4, hL4⟩ := uh H4
  have hlg4 := (hL4 0).lt
  have hgF4 := (hL4 0).nF
  have hr := uh HP1
  have HE : Hid (Cd w5 cb b F5 r.1 E ∧ FlC w5 g r.2 ∧ r.2.ok ∧ Stp w w5 F F5 (cellsAt g 0 5)) := by
   rw [hr]
   exact ⟨hC5, ⟨(hs5.oth g 0 hlg4 hgF4 (fun h => by omega)).trans r0, (hs5.oth g 1 hlg4 hgF4 (fun h => by omega)).trans hk4', hc5, (hs5.oth g 3 hlg4 hgF4 (fun h => by omega)).trans r3, (hs5.oth g 4 hlg4 hgF4 (fun h => by omega)).trans r4⟩, ⟨(uh HF).name, (by decide : (1 : Nat) < 256), CS.pStr_lt hC4 _ _ _ _ (uh HF).text, (uh HF).value, (uh HF).unit⟩, (hs4.mono (fun k j _ h => ⟨h.1, by omega, by omega⟩)).trans hs5 (fun k j _ h => ⟨h.1, by omega, by omega⟩)⟩
  clear hC4 hk4' hs4 r0 r2 r3 r4 hL4 hC5 hc5 hs5 hr H4
  go_wp2_with fail
  go_end0
  exact ⟨rfl, F5, (uh HE).1, (uh HE).2.1, (uh HE).2.2.1, (uh HE).2.2.2⟩
 ·by_cases k2 : kd = 2
  ·subst k2
   have hr := uh HP
   rw [if_neg (by decide), if_pos rfl] at hr
   have HP1 := hid hr
   clear hr HP
   obtain ⟨hC4, _, hs4, r0, r2, r3, r4, hL4⟩ := uh H4
   have HT := hid (number_f32 c1 n_value [] f.value cb b g 3 F4 E (.slice none 0 0) w4 hC4 r3 (hL4 3) (uh HF).value (RuC.nil _ w4 F4 g E) (by have := uh HRM; simp only [CS.room] at *; omega))
   clear hC4 hs4 r0 r2 r3 r4 hL4 k1
   go_wp2_with fail
   refine (uh HT).mono ?_
   rintro e w5 ⟨rfl, F5, hC5, hc5, hs5⟩
   obtain ⟨hC4, hk4', hs4, r0, r2, r3, r4, hL4⟩ := uh H4
   have hlg4 := (hL4 0).lt
   have hgF4 := (hL4 0).nF
   have hL5 := fun i => (hL4 i).stp hs5
   have t0 : w5.cell? ⟨g, 0, none⟩ = some (.string f.name) := (hs5.oth g 0 hlg4 hgF4 (fun h => by omega)).trans r0
   have t1 : w5.cell? ⟨g, 1, none⟩ = some (.int .u8 2) := (hs5.oth g 1 hlg4 hgF4 (fun h => by omega)).trans hk4'
   have t2 : w5.cell? ⟨g, 2, none⟩ = some (.string f.text) := (hs5.oth g 2 hlg4 hgF4 (fun h => by omega)).trans r2
   have t4 : w5.cell? ⟨g, 4, none⟩ = some (.int .u8 (f.unit : Nat)) := (hs5.oth g 4 hlg4 hgF4 (fun h => by omega)).trans r4
   have k4 := hC5.g7.k4
   have HK5 := hid (fun (V : World) (hv : Fr (fun _ => False) w5 V) => kpC hv k4)
   have hrm := CS.pF32_room (n := 1) (uh HRM) n_value [] f.value
   have HN5 : Hid (∀ (w7 : World) (f1 : Value) (T : TypeId), Fr (fun _ => False) w5 w7 → RR enU8 w5 w7 E f1 (wiN 1 21 4) → Calls Tryz.prog 127 #[.pointer (some ⟨cb, 0, none⟩), .string n_unit, .pointer (some ⟨g, 4, none⟩), .slice (some ⟨w7.heap.size, 0, none⟩) 1 1] (w7.alloc (.cells #[f1] T)) fun e w' => e = .returned (.tuple #[]) ∧ ∃ F', Cd w' cb b F' ((c1.pF32 n_value [] f.value).1.pU8 n_unit [wiN 1 21 4] f.unit).1 E ∧ w'.cell? ⟨g, 4, none⟩ = some (.int .u8 (((c1.pF32 n_value [] f.value).1.pU8 n_unit [wiN 1 21 4] f.unit).2 : Nat)) ∧ Stp w5 w' F5 F' (fun k j => k = g ∧ j = 4)) := fun w7 f1 T hf7 h1 => by
    have hf2 := hf7.trans (box1 w7 (.cells #[f1] T)) (fun _ _ h => h)
    refine (number_u8 _ n_unit [wiN 1 21 4] f.unit cb b g 4 F5 E _ _ (hC5.fr0 hf2) (kpC hf2 t4) ((hL5 4).fr0 hf2) (uh HF).unit (ruc_one2 T hC5 (hL5 4) hf7 h1) hrm).mono ?_
    rintro e w' ⟨rfl, F', hC, hc, hs⟩
    exact ⟨rfl, F', hC, hc, (Stp.of_fr hf2 F5 _).trans hs (fun _ _ _ h => h)⟩
   have H5 := hid (And.intro t0 (And.intro t1 (And.intro t2 (And.intro hc5 (And.intro hL5 ((hs4.mono (P' := cellsAt g 0 5) (fun k j _ h => ⟨h.1, by omega, by omega⟩)).trans hs5 (fun k j _ h => ⟨h.1, by omega, by omega⟩)))))))
   have hsf := st_func
   clear hC4 hk4' hs4 r0 r2 r3 r4 hL4 hC5 hc5 hs5 H4 t0 t1 t2 t4 k4 hL5 hlg4 hgF4 hrm hk4
   go_wp2_with fail
   refine wp_region_last (n := 9) (m := 9) (S := fun V => Fr (fun _ => False) w5 V) (by kernel_rfl) rfl rfl rfl (by kernel_rfl) (by kernel_rfl) ((Fr.refl _ _).drew) (fun hHeld => ?_)
   refine wtk (i := 0) (v := ?_) rfl (Or.inl ⟨by rfl, ?_⟩) hHeld ?_
   rotate_left
   ·intro V hSw; (try dsimp only at hSw); have q4 := (uh HK5) V hSw; go_simp; (try with_reducible rfl)
   (try simp only [Act.put, nrm])
   refine wtk (i := 1) (v := ?_) rfl (Or.inl ⟨by rfl, ?_⟩) hHeld ?_
   rotate_left
   ·intro V hSw; (try dsimp only at hSw); have q4 := (uh HK5) V hSw; go_simp; (try with_reducible rfl)
   (try simp only [Act.put, nrm])
   refine wtk (i := 2) (v := ?_) rfl (Or.inl ⟨by rfl, ?_⟩) hHeld ?_
   rotate_left
   ·intro V hSw; (try dsimp only at hSw); have q4 := (uh HK5) V hSw; go_simp; (try with_reducible rfl)
   (try simp only [Act.put, nrm])
   refine wtk (i := 3) (v := ?_) rfl (Or.inl ⟨by rfl, ?_⟩) hHeld ?_
   rotate_left
   ·intro V hSw; (try dsimp only at hSw); have q4 := (uh HK5) V hSw; go_simp; (try with_reducible rfl)
   (try simp only [Act.put, nrm])
   refine wtk (i := 6) (v := ?_) rfl (Or.inl ⟨by rfl, ?_⟩) hHeld ?_
   rotate_left
   ·intro V hSw; (try dsimp only at hSw); have q4 := (uh HK5) V hSw; go_simp; (try with_reducible rfl)
   (try simp only [Act.put, nrm])
   refine wpAnyH_ready (rs := [4]) (by kernel_rfl) (by simp) (AllReadyH.cons rfl (fun K hK => ?_) AllReadyH.nil)
   go_simp
   refine (units_any _).mono ?_
   rintro e w6 ⟨rfl, hf6⟩
   have H6 := hid ((Fr.refl _ _).drew.trans hf6 (fun _ _ h => h))
   clear hf6
   go_simp
   refine hK.out _ _ (uh H6) (fun hHeld => ?_)
   clear hK K
   (try simp only [Act.put, nrm])
   refine wtk (i := 5) (v := ?_) rfl (Or.inl ⟨by rfl, ?_⟩) hHeld ?_
   rotate_left
   ·intro V hSw; (try dsimp only at hSw); have q4 := (uh HK5) V hSw; go_simp; (try with_reducible rfl)
   (try simp only [Act.put, nrm])
   refine wpAnyH_ready (rs := [7]) (by kernel_rfl) (by simp) (AllReadyH.cons rfl (fun K hK => ?_) AllReadyH.nil)
   go_simp
   refine (within_u8 1 21 4 E _ (by decide)).mono ?_
   rintro e w7 ⟨fv7, rfl, K7, hF7, hf7, hK7⟩
   have H7 := hid (And.intro (show RR enU8 w5 w7 E fv7 (wiN 1 21 4) from ⟨K7, hF7, hK7.mono (uh H6).size⟩) ((uh H6).trans hf7 (fun _ _ h => h)))
   obtain ⟨Fc7, caps7, rfl, _⟩ := hF7.ex
   clear hF7 hf7 hK7
   go_simp
   refine hK.out _ _ ((uh H7).2) (fun hHeld => ?_)
   clear hK K
   (try simp only [Act.put, nrm])
   refine wpAnyH_ready (rs := [8]) (by kernel_rfl) (by simp) (AllReadyH.cons rfl (fun K hK => ?_) AllReadyH.nil)
   go_simp
   refine hK.out _ _ ((uh H7).2.alloc _) (fun hHeld => ?_)
   clear hK K
   (try simp only [Act.put, nrm])
   refine wpAnyH_done (by kernel_rfl) ?_ _
   simp only [lastQ]
   go_simp
   refine ((uh HN5) w7 _ _ (uh H7).2 (uh H7).1).mono ?_
   rintro e w8 ⟨rfl, F8, hC8, hc8, hs8⟩
   obtain ⟨t0, t1, t2, hc5, hL5, hs05⟩ := uh H5
   have hlg5 := (hL5 0).lt
   have hgF5 := (hL5 0).nF
   have hr := uh HP1
   have HE : Hid (Cd w8 cb b F8 r.1 E ∧ FlC w8 g r.2 ∧ r.2.ok ∧ Stp w w8 F F8 (cellsAt g 0 5)) := by
    rw [hr]
    exact ⟨hC8, ⟨(hs8.oth g 0 hlg5 hgF5 (fun h => by omega)).trans t0, (hs8.oth g 1 hlg5 hgF5 (fun h => by omega)).trans t1, (hs8.oth g 2 hlg5 hgF5 (fun h => by omega)).trans t2, (hs8.oth g 3 hlg5 hgF5 (fun h => by omega)).trans hc5, hc8⟩, ⟨(uh HF).name, (by decide : (2 : Nat) < 256), (uh HF).text, CS.pF32_lt _ _ _ _ (uh HF).value, CS.pU8_lt _ _ _ _ (uh HF).unit⟩, hs05.trans hs8 (fun k j _ h => ⟨h.1, by omega, by omega⟩)⟩
   clear t0 t1 t2 hc5 hL5 hs05 hC8 hc8 hs8 hr H5 HN5 H7
   go_wp2_with fail
   go_end0
   exact ⟨rfl, F8, (uh HE).1, (uh HE).2.1, (uh HE).2.2.1, (uh HE).2.2.2⟩
  ·have m1 : ((kd : Int) == 1) = false := by simp; omega
   have m2 : ((kd : Int) == 2) = false := by simp; omega
   obtain ⟨hC4, hk4', hs4, r0, r2, r3, r4, hL4⟩ := uh H4
   have hr := uh HP
   rw [if_neg k1, if_neg k2] at hr
   have HE : Hid (Cd w4 cb b F4 r.1 E ∧ FlC w4 g r.2 ∧ r.2.ok ∧ Stp w w4 F F4 (cellsAt g 0 5)) := by
    rw [hr]
    exact ⟨hC4, ⟨r0, hk4', r2, r3, r4⟩, ⟨(uh HF).name, hku, (uh HF).text, (uh HF).value, (uh HF).unit⟩, hs4.mono (fun k j _ h => ⟨h.1, by omega, by omega⟩)⟩
   clear hC4 hk4' hs4 r0 r2 r3 r4 hL4 hr H4 k1 k2
   go_wp2_with fail
   go_end0
   exact ⟨rfl, F4, (uh HE).1, (uh HE).2.1, (uh HE).2.2.1, (uh HE).2.2.2⟩
theorem CS.pField_name (c : CS) (last : Nat) (f : Fld) : (c.pField last f).2.name = f.name := by
 unfold CS.pField
 split
 ·rfl
 ·split <;> rfl
def CS.pNamed (c : CS) (ahead : ByteArray) (last : Nat) (f : Fld) : CS × Fld := (c.pStr n_name 64 [fun v => szN 1 64 v.size, abN ahead] f.name).1.pField last { f with name := (c.pStr n_name 64 [fun v => szN 1 64 v.size, abN ahead] f.name).2 }
theorem CS.pStr_room2 {c : CS} {n : Nat} (h : c.room (n + 1)) (nm : ByteArray) (lo : Int) (rs : List (ByteArray → Nat)) (v : ByteArray) : (c.pStr nm 64 ((fun v => szN lo 64 v.size) :: rs) v).1.room n :=
 CS.pStr_room h nm 64 _ v (fun e => by have := szN_fit rs lo 64 (fun v : ByteArray => v.size) v e; omega)
set_option maxHeartbeats 2000000 in
set_option maxRecDepth 100000 in
theorem fields1_any (c : CS) (f : Fld) (ahead : ByteArray) (last cb b g kc ka kl : Nat) (F : Nat → Prop) (E : Nat → Addr) (w : World) (h : Cd w cb b F c E) (hp : FlC w g f) (hL : ∀ i, Loc w cb F g i) (hkc : w.cell? ⟨kc, 0, none⟩ = some (.pointer (some ⟨cb, 0, none⟩))) (hka : w.cell? ⟨ka, 0, none⟩ = some (.string ahead)) (hkl : w.cell? ⟨kl, 0, none⟩ = some (.int .u8 (last : Nat))) (nc : ¬ F kc ∧ kc ≠ g ∧ kc ≠ ka) (na : Loc w cb F ka 0 ∧ ka ≠ g) (nl : ¬ F kl ∧ kl ≠ g ∧ kl ≠ ka) (hf : f.ok) (hroom : c.room 4) :
  Calls Tryz.prog 153 #[.pointer (some ⟨g, 0, none⟩), .pointer (some ⟨kc, 0, none⟩), .pointer (some ⟨ka, 0, none⟩), .pointer (some ⟨kl, 0, none⟩)] w fun e w' => e = .returned (.tuple #[]) ∧ ∃ F', Cd w' cb b F' (c.pNamed ahead last f).1 E ∧ FlC w' g (c.pNamed ahead last f).2 ∧ (c.pNamed ahead last f).2.ok ∧ w'.cell? ⟨ka, 0, none⟩ = some (.string (c.pNamed ahead last f).2.name) ∧ Stp w w' F F' (fun k j => cellsAt g 0 5 k j ∨ (k = ka ∧ j = 0)) := by
 have hsf := st_func
 have HK := hid (fun (V : World) (hv : Fr (fun _ => False) w V) => And.intro (kpC hv hkc) (kpC hv hka))
 have H := hid (And.intro h (And.intro hL (And.intro hp (And.intro hkc (And.intro hka (And.intro hkl (And.intro nc (And.intro na nl))))))))
 have HN : Hid (∀ (w3 : World) (f1 : Value) (T : TypeId), Fr (fun _ => False) w w3 → RR enStr w w3 E f1 (abN ahead) → Calls Tryz.prog 135 #[.pointer (some ⟨cb, 0, none⟩), .string n_name, .pointer (some ⟨g, 0, none⟩), .int .i64 1, .int .i64 64, .slice (some ⟨w3.heap.size, 0, none⟩) 1 1] (w3.alloc (.cells #[f1] T)) fun e w' => e = .returned (.tuple #[]) ∧ ∃ F', Cd w' cb b F' (c.pStr n_name 64 [fun v => szN 1 64 v.size, abN ahead] f.name).1 E ∧ w'.cell? ⟨g, 0, none⟩ = some (.string (c.pStr n_name 64 [fun v => szN 1 64 v.size, abN ahead] f.name).2) ∧ Stp w w' F F' (fun k j => k = g ∧ j = 0)) := fun w3 f1 T hf3 h1 => by
  have hf2 := hf3.trans (box1 w3 (.cells #[f1] T)) (fun _ _ h => h)
  refine (run_str c n_name 1 64 [abN ahead] f.name cb b g 0 F E _ _ (h.fr0 hf2) (kpC hf2 hp.c0) ((hL 0).fr0 hf2) hf.name (by decide) (ruc_one2 T h (hL 0) hf3 h1) (by simp) (by simp only [CS.room] at *; omega)).mono ?_
  rintro e w' ⟨rfl, F', hC, hc, hs⟩
  exact ⟨rfl, F', hC, hc, (Stp.of_fr hf2 F _).trans hs (fun _ _ _ h => h)⟩
 have HRM := hid (CS.pStr_room2 (n := 3) hroom n_name 1 [abN ahead] f.name)
 have HOK : Hid (({ f with name := (c.pStr n_name 64 [fun v => szN 1 64 v.size, abN ahead] f.name).2 } : Fld).ok) := ⟨CS.pStr_lt h n_name 64 _ f.name hf.name, hf.kind, hf.text, hf.value, hf.unit⟩
 have HP : Hid (c.pNamed ahead last f = (c.pStr n_name 64 [fun v => szN 1 64 v.size, abN ahead] f.name).1.pField last { f with name := (c.pStr n_name 64 [fun v => szN 1 64 v.size, abN ahead] f.name).2 }) := rfl
 generalize c.pNamed ahead last f = r at *
 generalize (c.pStr n_name 64 [fun v => szN 1 64 v.size, abN ahead] f.name).1 = c1 at *
 generalize (c.pStr n_name 64 [fun v => szN 1 64 v.size, abN ahead] f.name).2 = nmv at *
 clear h hL hp hkc hka hkl nc na nl hroom hf
 go_enter Tryz.func153, Tryz.ntmps153
 go_wp2_with fail
 refine wp_region_last (n := 7) (m := 7) (S := fun V => Fr (fun _ => False) w V) (by kernel_rfl) rfl rfl rfl (by kernel_rfl) (by kernel_rfl) ((Fr.refl _ _).drew) (fun hHeld => ?_)
 refine wtk (i := 0) (v := ?_) rfl (Or.inl ⟨by rfl, ?_⟩) hHeld ?_
 rotate_left
 ·intro V hSw; (try dsimp only at hSw); obtain ⟨q0, q1⟩ := (uh HK) V hSw; go_simp; (try with_reducible rfl)
 (try simp only [Act.put, nrm])
 refine wtk (i := 1) (v := ?_) rfl (Or.inl ⟨by rfl, ?_⟩) hHeld ?_
 rotate_left
 ·intro V hSw; (try dsimp only at hSw); obtain ⟨q0, q1⟩ := (uh HK) V hSw; go_simp; (try with_reducible rfl)
 (try simp only [Act.put, nrm])
 refine wtk (i := 2) (v := ?_) rfl (Or.inl ⟨by rfl, ?_⟩) hHeld ?_
 rotate_left
 ·intro V hSw; (try dsimp only at hSw); obtain ⟨q0, q1⟩ := (uh HK) V hSw; go_simp; (try with_reducible rfl)
 (try simp only [Act.put, nrm])
 refine wtk (i := 3) (v := ?_) rfl (Or.inl ⟨by rfl, ?_⟩) hHeld ?_
 rotate_left
 ·intro V hSw; (try dsimp only at hSw); obtain ⟨q0, q1⟩ := (uh HK) V hSw; go_simp; (try with_reducible rfl)
 (try simp only [Act.put, nrm])
 refine wtk (i := 4) (v := ?_) rfl (Or.inl ⟨by rfl, ?_⟩) hHeld ?_
 rotate_left
 ·intro V hSw; (try dsimp only at hSw); obtain ⟨q0, q1⟩ := (uh HK) V hSw; go_simp; (try with_reducible rfl)
 (try simp only [Act.put, nrm])
 refine wpAnyH_ready (rs := [5]) (by kernel_rfl) (by simp) (AllReadyH.cons rfl (fun K hK => ?_) AllReadyH.nil)
 go_simp
 refine (above_any ahead E _ ((uh H).1.g7.fr (Fr.refl (fun _ => False) _).drew (fun _ h => h.elim))).mono ?_
 rintro e w1 ⟨fv1, rfl, K1, hF1, hf1, hK1⟩
 have H1 := hid (And.intro (show RR enStr w w1 E fv1 (abN ahead) from ⟨K1, hF1, hK1.mono (Nat.le_refl _)⟩) ((Fr.refl _ _).drew.trans hf1 (fun _ _ h => h)))
 obtain ⟨Fc1, caps1, rfl, _⟩ := hF1.ex
 clear hF1 hf1 hK1
 go_simp
 refine hK.out _ _ ((uh H1).2) (fun hHeld => ?_)
 clear hK K
 (try simp only [Act.put, nrm])
 refine wpAnyH_ready (rs := [6]) (by kernel_rfl) (by simp) (AllReadyH.cons rfl (fun K hK => ?_) AllReadyH.nil)
 go_simp
 refine hK.out _ _ ((uh H1).2.alloc _) (fun hHeld => ?_)
 clear hK K
 (try simp only [Act.put, nrm])
 refine wpAnyH_done (by kernel_rfl) ?_ _
 simp only [lastQ]
 go_simp
 refine ((uh HN) w1 _ _ (uh H1).2 (uh H1).1).mono ?_
 rintro e w4 ⟨rfl, F4, hC4, hk4, hs4⟩
 obtain ⟨h, hL, hp, hkc, hka, hkl, nc, na, nl⟩ := uh H
 have hlg := (hL 0).lt
 have hgF := (hL 0).nF
 have p4 : FlC w4 g { f with name := nmv } := ⟨hk4, (hs4.oth g 1 hlg hgF (fun h => by omega)).trans hp.c1, (hs4.oth g 2 hlg hgF (fun h => by omega)).trans hp.c2, (hs4.oth g 3 hlg hgF (fun h => by omega)).trans hp.c3, (hs4.oth g 4 hlg hgF (fun h => by omega)).trans hp.c4⟩
 have hL4 := fun i => (hL i).stp hs4
 have kc4 : w4.cell? ⟨kc, 0, none⟩ = some (.pointer (some ⟨cb, 0, none⟩)) := (hs4.oth kc 0 (ltC hkc) nc.1 (fun h => nc.2.1 h.1)).trans hkc
 have ka4 : w4.cell? ⟨ka, 0, none⟩ = some (.string ahead) := (hs4.oth ka 0 (ltC hka) na.1.nF (fun h => na.2 h.1)).trans hka
 have kl4 : w4.cell? ⟨kl, 0, none⟩ = some (.int .u8 (last : Nat)) := (hs4.oth kl 0 (ltC hkl) nl.1 (fun h => nl.2.1 h.1)).trans hkl
 have HFD := hid (field_any c1 { f with name := nmv } last cb b g F4 E w4 hC4 p4 hL4 (uh HOK) (uh HRM))
 have H4 := hid (And.intro hs4 (And.intro hL4 (And.intro ka4 (na.1.stp hs4))))
 clear h hL hp hkc hka hkl nc nl hC4 hs4 p4 hL4 ka4 hk4 hlg hgF H1 HN HK hsf
 go_wp2_with fail
 refine (uh HFD).mono ?_
 rintro e w5 ⟨rfl, F5, hC5, hp5, hok5, hs5⟩
 have hr := uh HP
 have hn5 : (c1.pField last { f with name := nmv }).2.name = nmv := CS.pField_name _ _ _
 have c5 : w5.cell? ⟨g, 0, none⟩ = some (.string nmv) := by rw [hp5.c0, hn5]
 obtain ⟨hs4, hL4, ka4, hA4⟩ := uh H4
 have hka4 := ltC ka4
 have a5 : w5.cell? ⟨ka, 0, none⟩ = some (.string ahead) := (hs5.oth ka 0 hka4 hA4.nF (fun h => na.2 h.1)).trans ka4
 have hA5 := hA4.stp hs5
 have fz5 := hA5.fz
 have HE : Hid (∀ V, V = w5.setCell ⟨ka, 0, none⟩ (.string nmv) → Cd V cb b F5 r.1 E ∧ FlC V g r.2 ∧ r.2.ok ∧ V.cell? ⟨ka, 0, none⟩ = some (.string r.2.name) ∧ Stp w V F F5 (fun k j => cellsAt g 0 5 k j ∨ (k = ka ∧ j = 0))) := by
  rintro V rfl
  rw [hr]
  have hoth : ∀ i, (w5.setCell ⟨ka, 0, none⟩ (.string nmv)).cell? ⟨g, i, none⟩ = w5.cell? ⟨g, i, none⟩ := fun i => World.cell?_setCell_other _ _ _ _ (by intro e; injection e with e1 _ _; exact na.2 e1)
  refine ⟨hC5.fr ((Fr.refl (fun k => k = ka) _).setCell (.inl rfl) _) (fun k hk e => hA5.nF (e ▸ hk)) (fun e => hA5.nc e.symm) (fun k e => by rw [e]; exact hA5.lo), ⟨(hoth 0).trans hp5.c0, (hoth 1).trans hp5.c1, (hoth 2).trans hp5.c2, (hoth 3).trans hp5.c3, (hoth 4).trans hp5.c4⟩, hok5, ?_, ?_⟩
  ·rw [hn5]; exact World.cell?_setCell_same _ _ _ a5
  ·exact ((hs4.mono (fun k j _ h => .inl ⟨h.1, by omega, by omega⟩)).trans hs5 (fun k j _ h => .inl h)).trans (Stp.set ka 0 _) (fun k j _ h => .inr h)
 clear hC5 hp5 hs5 hok5 hr hn5 hs4 hL4 ka4 hA4 hA5 H4 HFD HP na
 go_wp2_with fail
 go_end0
 obtain ⟨e1, e2, e3, e4, e5⟩ := (uh HE) _ rfl
 exact ⟨rfl, F5, e1, e2, e3, e4, e5⟩
def lpW {σ α : Type} (each : σ → α → σ × α) : σ → List α → σ
  | s, [] => s
  | s, x :: xs => lpW each (each s x).1 xs
theorem lpW_snoc {σ α : Type} (each : σ → α → σ × α) (xs : List α) : ∀ (s : σ) (x : α), lpW each s (xs ++ [x]) = (each (lpW each s xs) x).1 := by
  induction xs with
  | nil => intro s x; rfl
  | cons y ys ih => intro s x; exact ih _ x
theorem lpW_succ {σ α : Type} (each : σ → α → σ × α) (s : σ) (xs : List α) (k : Nat) (x : α) (h : xs[k]? = some x) : lpW each s (xs.take (k + 1)) = (each (lpW each s (xs.take k)) x).1 := by
  rw [List.take_add_one, h, Option.toList_some, lpW_snoc]
def lpR {σ α : Type} (each : σ → α → σ × α) (z : α) : Nat → σ → σ × List α
  | 0, s => (s, [])
  | n + 1, s => ((each (lpR each z n s).1 z).1, (lpR each z n s).2 ++ [(each (lpR each z n s).1 z).2])
theorem lpR_len {σ α : Type} (each : σ → α → σ × α) (z : α) (s : σ) (n : Nat) : (lpR each z n s).2.length = n := by
  induction n with
  | zero => rfl
  | succ n ih => simp [lpR, ih]
theorem CS.room_le {c : CS} {n m : Nat} (h : c.room n) (hm : m ≤ n) : c.room m := by
  simp only [CS.room] at *
  omega
theorem CS.pField_room {c : CS} {n : Nat} (h : c.room (n + 3)) (last : Nat) (f : Fld) : (c.pField last f).1.room n := by
  have h1 := CS.pU8_room (n := n + 2) h n_kind [wiN 1 last 5, unN f.beside] f.kind
  unfold CS.pField
  split
  · exact CS.room_le (CS.pStr_room2 (n := n + 1) h1 n_text 0 [] f.text) (by omega)
  · split
    · exact CS.pU8_room (CS.pF32_room h1 _ _ _) _ _ _
    · exact CS.room_le h1 (by omega)
theorem CS.pNamed_room {c : CS} {n : Nat} (h : c.room (n + 4)) (ahead : ByteArray) (last : Nat) (f : Fld) : (c.pNamed ahead last f).1.room n := CS.pField_room (CS.pStr_room2 (n := n + 3) h _ _ _ _) _ _
theorem CS.pField_wr (s : Wq) (last : Nat) (f : Fld) : ∃ s', ((CS.wr s).pField last f).1 = .wr s' := by
  unfold CS.pField
  split
  · exact ⟨_, rfl⟩
  · split
    · exact ⟨_, rfl⟩
    · exact ⟨_, rfl⟩
theorem CS.pField_rd (q : Q) (last : Nat) (f : Fld) : ∃ q', ((CS.rd q).pField last f).1 = .rd q' := by
  unfold CS.pField
  split
  · exact ⟨_, rfl⟩
  · split
    · exact ⟨_, rfl⟩
    · exact ⟨_, rfl⟩
theorem CS.pNamed_wr (s : Wq) (ahead : ByteArray) (last : Nat) (f : Fld) : ∃ s', ((CS.wr s).pNamed ahead last f).1 = .wr s' := CS.pField_wr _ _ _
theorem CS.pNamed_rd (q : Q) (ahead : ByteArray) (last : Nat) (f : Fld) : ∃ q', ((CS.rd q).pNamed ahead last f).1 = .rd q' := CS.pField_rd _ _ _
theorem cOB {w : World} {b o t : Nat} {cs : Array Value} {v : Value} (h : w.heap[b]? = some (.cells cs t)) (hv : cs[o]? = some v) : w.cell? ⟨b, o, none⟩ = some v := by
  simp [World.cell?, h, hv]
def eachF (last : Nat) (s : CS × ByteArray) (f : Fld) : (CS × ByteArray) × Fld := (((s.1.pNamed s.2 last f).1, (s.1.pNamed s.2 last f).2.name), (s.1.pNamed s.2 last f).2)
structure FdV (w : World) (xo : Option Addr) (xc : Nat) (l : List Fld) (F : Nat → Prop) : Prop where
  cap : l.length ≤ xc
  el : ∀ (j : Nat) f, l[j]? = some f → f.ok ∧ ∃ g o, xo = some ⟨g, o, none⟩ ∧ ¬ F g ∧ w.cell? ⟨g, o + j * 5, none⟩ = some (.string f.name) ∧ w.cell? ⟨g, o + j * 5 + 1, none⟩ = some (.int .u8 (f.kind : Nat)) ∧ w.cell? ⟨g, o + j * 5 + 2, none⟩ = some (.string f.text) ∧ w.cell? ⟨g, o + j * 5 + 3, none⟩ = some (.float .f32 f.value) ∧ w.cell? ⟨g, o + j * 5 + 4, none⟩ = some (.int .u8 (f.unit : Nat))
theorem FdV.stp {w w' : World} {xo : Option Addr} {xc : Nat} {l : List Fld} {F F' : Nat → Prop} {P : Nat → Nat → Prop} (h : FdV w xo xc l F) (hs : Stp w w' F F' P) (hP : ∀ g o, xo = some ⟨g, o, none⟩ → ∀ i, g < w.heap.size → ¬ P g i) : FdV w' xo xc l F' := by
  refine ⟨h.cap, fun j f hf => ?_⟩
  obtain ⟨h0, g, o, h1, h2, h3, h4, h5, h6, h7⟩ := h.el j f hf
  have hlt : g < w.heap.size := ltC h3
  have hp := fun i => hP g o h1 i hlt
  exact ⟨h0, g, o, h1, hs.nF hlt h2, (hs.oth g _ hlt h2 (hp _)).trans h3, (hs.oth g _ hlt h2 (hp _)).trans h4, (hs.oth g _ hlt h2 (hp _)).trans h5, (hs.oth g _ hlt h2 (hp _)).trans h6, (hs.oth g _ hlt h2 (hp _)).trans h7⟩
structure Cl3 (w : World) (cb kc ka kl : Nat) (F : Nat → Prop) (ahead : ByteArray) (last : Nat) : Prop where
  c : w.cell? ⟨kc, 0, none⟩ = some (.pointer (some ⟨cb, 0, none⟩))
  a : w.cell? ⟨ka, 0, none⟩ = some (.string ahead)
  l : w.cell? ⟨kl, 0, none⟩ = some (.int .u8 (last : Nat))
  nc : ¬ F kc ∧ kc ≠ ka
  nl : ¬ F kl ∧ kl ≠ ka
  na : Loc w cb F ka 0
theorem Cl3.stp {w w' : World} {cb kc ka kl : Nat} {F F' : Nat → Prop} {ahead ahead' : ByteArray} {last : Nat} {P : Nat → Nat → Prop} (h : Cl3 w cb kc ka kl F ahead last) (hs : Stp w w' F F' P) (hP : ∀ j, ¬ P kc j ∧ ¬ P kl j) (ha : w'.cell? ⟨ka, 0, none⟩ = some (.string ahead')) : Cl3 w' cb kc ka kl F' ahead' last :=
  ⟨(hs.oth kc 0 (ltC h.c) h.nc.1 (hP 0).1).trans h.c, ha, (hs.oth kl 0 (ltC h.l) h.nl.1 (hP 0).2).trans h.l, ⟨hs.nF (ltC h.c) h.nc.1, h.nc.2⟩, ⟨hs.nF (ltC h.l) h.nl.1, h.nl.2⟩, h.na.stp hs⟩
set_option maxHeartbeats 2000000 in
set_option maxRecDepth 100000 in
theorem list_Field_w (s : Wq) (rs : List (Int → Nat)) (ro : Option Addr) (rc : Nat) (last cb b g i kc ka kl : Nat) (ahead : ByteArray) (F : Nat → Prop) (E : Nat → Addr) (xo : Option Addr) (xc : Nat) (l : List Fld) (w : World) (h : Cd w cb b F (.wr s) E) (hn : l.length < 9223372036854775808) (hp : w.cell? ⟨g, i, none⟩ = some (.slice xo l.length xc)) (hL : Loc w cb F g i) (hl : FdV w xo xc l F) (hla : ∀ g' o, xo = some ⟨g', o, none⟩ → l ≠ [] → g' ≠ ka) (hga : g ≠ ka) (hK : Cl3 w cb kc ka kl F ahead last) (hR : ∃ K, Rus enInt w K (.slice ro rs.length rc) E rs ∧ ∀ k, K k → ¬ F k) (hrs : rs.length < 1000) (hroom : (CS.wr s).room 200) :
    Calls Tryz.prog 152 #[.pointer (some ⟨cb, 0, none⟩), .string n_fields, .pointer (some ⟨g, i, none⟩), .int .i64 32, .func (.func 153) #[] #[.pointer (some ⟨kc, 0, none⟩), .pointer (some ⟨ka, 0, none⟩), .pointer (some ⟨kl, 0, none⟩)], .slice ro rs.length rc] w fun e w' => e = .returned (.tuple #[]) ∧ ∃ F', Cd w' cb b F' (lpW (eachF last) (((CS.wr s).pInt n_fields 32 (lrs 32 rs) l.length).1, ahead) (l.take (min l.length 32))).1 E ∧ Stp w w' F F' (fun k j => k = ka ∧ j = 0) := by
  have k2 := h.g7.k2
  have hl2 := ltC k2
  have hsf := st_func
  have hent : ∀ (x : Value) (W : World), (callFunc 153 (#[x] ++ #[.pointer (some ⟨kc, 0, none⟩), .pointer (some ⟨ka, 0, none⟩), .pointer (some ⟨kl, 0, none⟩)])).run Tryz.prog W = .ok (.enter 153 (#[x] ++ #[.pointer (some ⟨kc, 0, none⟩), .pointer (some ⟨ka, 0, none⟩), .pointer (some ⟨kl, 0, none⟩)])) W := fun _ W => enters Tryz.func153 rfl rfl _ W
  obtain ⟨n, hnl⟩ : ∃ n, n = l.length := ⟨_, rfl⟩
  rw [← hnl] at hn hp ⊢
  have HNL := hid hnl
  clear hnl
  have hhead := list_head (.wr s) n_fields n 32 rs cb b F E (.slice ro rs.length rc) w h (by omega) (by decide) hR hrs (by simp only [CS.room] at *; omega) 3
  obtain ⟨c1, hc1⟩ : ∃ c1, c1 = ((CS.wr s).pInt n_fields 32 (lrs 32 rs) n).1 := ⟨_, rfl⟩
  have hn1 : ((CS.wr s).pInt n_fields 32 (lrs 32 rs) n).2 = n := rfl
  have hroom1 : c1.room 199 := by rw [hc1]; exact CS.pInt_room hroom _ _ _ _
  have hw1 : ∃ s, c1 = .wr s := ⟨_, hc1⟩
  rw [← hc1, hn1] at hhead
  rw [← hc1]
  clear hc1 hn1
  have HG := hid hhead
  clear hhead
  obtain ⟨N, hN⟩ : ∃ N, N = min n 32 := ⟨_, rfl⟩
  rw [← hN]
  have hNn : N ≤ n := by omega
  have hNm : N ≤ 32 := by omega
  have HM := hid hN
  clear hN
  have HW := hid (within_int 0 32 2 E (w.alloc (.cells #[.int .i64 n] 3)) (by decide))
  have H := hid (And.intro h (And.intro hL (And.intro hl (And.intro hK (And.intro hroom1 (And.intro hw1 hla))))))
  have hlp := hL.lt
  clear h hL hl hroom hroom1 hw1 hK hR hla
  go_enter Tryz.func152, Tryz.ntmps152
  go_wp2_with fail
  refine (uh HW).mono ?_
  rintro e w1 ⟨fv, rfl, K0, hF, hf1, hK0⟩
  obtain ⟨ao, cp, w2, hr, hcall⟩ := (uh HG) w1 fv K0 hF hf1 hK0 ro rc rfl
  obtain ⟨Fc, caps, rfl, _⟩ := hF.ex
  have HR := hid hr
  have HC := hid hcall
  clear hF hf1 hK0 hr hcall
  go_wp2_with (at_builtin; refine wpList_app rfl _ _ 278 278 rfl _ _ _ rfl rfl (uh HR) ?_)
  refine (uh HC).mono ?_
  rintro e w3 ⟨rfl, F3, hC3, hn3, hlt3, hnF3, hs3⟩
  have H3 := hid (And.intro hC3 hs3)
  clear hC3 hs3 hlt3 hnF3
  by_cases hnm : n ≤ 32
  all_goals
    go_wp2_with fail
    go_loopw [32] (fun iv wr => ∃ (k : Nat) (Fk : Nat → Prop), k ≤ N ∧ iv = .int .i64 (k : Nat) ∧ Cd wr cb b Fk (lpW (eachF last) (c1, ahead) (l.take k)).1 E ∧ (∃ s', (lpW (eachF last) (c1, ahead) (l.take k)).1 = .wr s') ∧ Cl3 wr cb kc ka kl Fk (lpW (eachF last) (c1, ahead) (l.take k)).2 last ∧ (lpW (eachF last) (c1, ahead) (l.take k)).1.room (199 - 4 * k) ∧ Stp w wr F Fk (fun k j => k = ka ∧ j = 0)) (fun iv _ => N - (intOf iv).toNat)
    case atStart =>
      obtain ⟨hC3, hs3⟩ := uh H3
      have hK := (uh H).2.2.2.1
      exact ⟨0, F3, Nat.zero_le _, rfl, hC3, (uh H).2.2.2.2.2.1, hK.stp hs3 (fun _ => ⟨fun h => h, fun h => h⟩) ((hs3.oth ka 0 hK.na.lt hK.na.nF (fun h => h)).trans hK.a), (uh H).2.2.2.2.1, hs3.mono (fun _ _ _ h => h.elim)⟩
    case round =>
      obtain ⟨k, Fk, hk, rfl, hCk, ⟨sk, hsk⟩, hKk, hrk, hsk2⟩ := hrel
      by_cases hlt : k < N
      · have hlt' : (k : Int) < (n : Int) := by omega
        have hltm : (k : Int) < 32 := by have := uh HM; omega
        obtain ⟨f, hfk⟩ : ∃ f, l[k]? = some f := ⟨l[k]'(by have := uh HNL; omega), List.getElem?_eq_getElem (by have := uh HNL; omega)⟩
        have hlk := (uh H).2.2.1.stp hsk2 (fun g' o e i _ h => (uh H).2.2.2.2.2.2 g' o e (by rintro rfl; simp at hfk) h.1)
        obtain ⟨hfok, eg, eo, rfl, hegF, e0, e1, e2, e3, e4⟩ := hlk.el k f hfk
        have hpr : wr.cell? ⟨g, i, none⟩ = some (.slice (some ⟨eg, eo, none⟩) n xc) := (hsk2.oth g i hlp (uh H).2.1.nF (fun h => hga h.1)).trans hp
        obtain ⟨st, hst⟩ : ∃ st, st = lpW (eachF last) (c1, ahead) (l.take k) := ⟨_, rfl⟩
        rw [← hst] at hCk hsk hKk hrk
        rw [hsk] at hCk hrk
        have h0r : wr.cell? ⟨cb, 0, none⟩ = some (.pointer (some ⟨b, 0, none⟩)) := hCk.c0
        have h1r : wr.cell? ⟨cb, 1, none⟩ = some (.pointer none) := hCk.c1
        have hlg := ltC hpr
        have hlcr := ltC h0r
        have hler := ltC e0
        have hcapk : k ≤ xc := by have := (uh H).2.2.1.cap; have := uh HNL; omega
        have hbx := box1 wr (.cells #[.string f.name, .int .u8 (f.kind : Nat), .string f.text, .float .f32 f.value, .int .u8 (f.unit : Nat)] 59)
        have hblk := heap_alloc_new wr (.cells #[.string f.name, .int .u8 (f.kind : Nat), .string f.text, .float .f32 f.value, .int .u8 (f.unit : Nat)] 59)
        have HCL := hid (fields1_any (.wr sk) f st.2 last cb b wr.heap.size kc ka kl Fk E _ (hCk.fr0 hbx) ⟨cOB (o := 0) hblk rfl, cOB (o := 1) hblk rfl, cOB (o := 2) hblk rfl, cOB (o := 3) hblk rfl, cOB (o := 4) hblk rfl⟩ (fun i => hCk.box _ _ i) (kpC hbx hKk.c) (kpC hbx hKk.a) (kpC hbx hKk.l) ⟨hKk.nc.1, by have := ltC hKk.c; simp only at this; omega, hKk.nc.2⟩ ⟨hKk.na.fr0 hbx, by have := hKk.na.lt; omega⟩ ⟨hKk.nl.1, by have := ltC hKk.l; simp only at this; omega, hKk.nl.2⟩ hfok (CS.room_le hrk (by omega)))
        have HK := hid (And.intro hrk (And.intro hsk2 (And.intro hfk (And.intro hsk (And.intro hst (And.intro hKk hbx))))))
        clear hCk hrk hsk2 hfk hsk hst hlk hKk hfok hblk hbx hegF
        go_wp2_with fail
        refine (uh HCL).mono ?_
        rintro e w4 ⟨rfl, F4, hC4, _, _, ha4, hs4⟩
        obtain ⟨hrk, hsk2, hfk, hsk, hst, hKk, hbx⟩ := uh HK
        have hs5 : Stp wr w4 Fk F4 (fun k j => (k = wr.heap.size ∧ 0 ≤ j) ∨ (k = ka ∧ j = 0)) := (Stp.of_fr hbx Fk _).trans hs4 (fun k j _ h => h.imp (fun h => ⟨h.1, by omega⟩) id)
        have es := lpW_succ (eachF last) (c1, ahead) l k f hfk
        rw [← hst] at es
        have e1' : (lpW (eachF last) (c1, ahead) (l.take (k + 1))).1 = ((CS.wr sk).pNamed st.2 last f).1 := by rw [es]; show (st.1.pNamed st.2 last f).1 = _; rw [hsk]
        have e2' : (lpW (eachF last) (c1, ahead) (l.take (k + 1))).2 = ((CS.wr sk).pNamed st.2 last f).2.name := by rw [es]; show (st.1.pNamed st.2 last f).2.name = _; rw [hsk]
        have HFIN : Hid (Cd w4 cb b F4 (lpW (eachF last) (c1, ahead) (l.take (k + 1))).1 E ∧ (∃ s', (lpW (eachF last) (c1, ahead) (l.take (k + 1))).1 = .wr s') ∧ Cl3 w4 cb kc ka kl F4 (lpW (eachF last) (c1, ahead) (l.take (k + 1))).2 last ∧ (lpW (eachF last) (c1, ahead) (l.take (k + 1))).1.room (199 - 4 * (k + 1)) ∧ Stp w w4 F F4 (fun k j => k = ka ∧ j = 0)) := by
          rw [e1', e2']
          refine ⟨hC4, CS.pNamed_wr sk _ _ _, hKk.stp hs5 (fun j => ⟨fun h => ?_, fun h => ?_⟩) ha4, CS.pNamed_room (CS.room_le hrk (by omega)) _ _ _, hsk2.trans hs5 (fun k j hk h => h.elim (fun h => by have := hsk2.size; omega) id)⟩
          · have h9 := ltC hKk.c
            simp only at h9
            rcases h with h | h
            · omega
            · exact hKk.nc.2 h.1
          · have h9 := ltC hKk.l
            simp only at h9
            rcases h with h | h
            · omega
            · exact hKk.nl.2 h.1
        have h1w : w4.cell? ⟨cb, 1, none⟩ = some (.pointer none) := by
          obtain ⟨s4, e4'⟩ := CS.pNamed_wr sk st.2 last f
          have h9 := hC4.c1
          rw [e4'] at h9
          exact h9
        have hlc4 := ltC h1w
        clear hC4 hs4 hs5 ha4 hrk hsk2 hfk hsk hst hKk hbx es e1' e2' HK HCL e0 e1 e2 e3 e4 hpr h0r h1r
        go_wp2_with fail
        exact ⟨⟨k + 1, F4, by omega, by go_num, (uh HFIN).1, (uh HFIN).2.1, (uh HFIN).2.2.1, (uh HFIN).2.2.2.1, (uh HFIN).2.2.2.2⟩, by simp [intOf]; omega⟩
      · have hkN : k = N := by omega
        have HK := hid (And.intro hCk hsk2)
        clear hCk hsk hrk hsk2 hKk
        first
          | (have hlt' : ¬ (k : Int) < (n : Int) := by have := uh HM; omega
             go_wp2_with fail)
          | (have hlt' : ¬ (k : Int) < 32 := by have := uh HM; omega
             go_wp2_with fail)
        go_end0
        rw [hkN] at HK
        exact ⟨rfl, Fk, (uh HK).1, (uh HK).2⟩
end Go.Proofs.YtlphcgfmjhbeoaaGreatDoor
