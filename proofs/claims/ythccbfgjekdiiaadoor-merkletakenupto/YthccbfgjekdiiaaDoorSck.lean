import Derived.Test.YthccbfgjekdiiaaDoorScc
import Derived.Test.YthccbfgjekdiiaaDoorScj
namespace Go.Proofs.YthccbfgjekdiiaaDoor
open Go.RowKit

/-- A built-in append in a plain region, by its run. -/
theorem wpList_app {P : Program} {ops : Array Oper} {rest : List Oper} {op : Oper} {a : Act} {w w' : World} {Q : Exit → Act → World → Prop} (hgd : op.guard = none) (s x : Operand) (t u : TypeId) (ho : op.op = .call { callee := .builtin .append, args := #[s, x], argTypes := #[t, u] })
    (vs vx v' : Value) (hs : a.eval s = vs) (hx : a.eval x = vx) (hr : (Builtin.append_ #[t, u] op.type #[vs, vx]).run P w = .ok v' w') (h : wpList P ops Q rest (a.put op.dst v') w') : wpList P ops Q (op :: rest) a w :=
  wpList_plain hgd fun _ hK => by
    unfold Oper.wp execOp
    simp only [ho, resolve, invoke, builtin, Sem.run_bind, Sem.run_pure, Result.andThen_ok, List.map_toArray, List.map_cons, List.map_nil, hs, hx, hr]
    exact hK _ _ h
/-- A slice of slices of bytes. -/
structure Pcs (w : World) (x : Value) (vs : List Value) (ps : List (List Nat)) : Prop where
  len : vs.length = ps.length
  at_ : (x = .slice none 0 0 ∧ vs = []) ∨ (∃ a c, x = .slice (some a) 0 c ∧ vs = []) ∨ ∃ g o c, x = .slice (some ⟨g, o, none⟩) vs.length c ∧ g < w.heap.size ∧ ∀ j v, vs[j]? = some v → w.cell? ⟨g, o + j, none⟩ = some v
  src : ∀ (j : Nat) v p, vs[j]? = some v → ps[j]? = some p → Src w v p ∧ (∀ g n c, v = .slice g n c → n ≤ c) ∧ (p = [] ∨ ∀ g o n c, v = .slice (some ⟨g, o, none⟩) n c → g < w.heap.size)
  byt : ∀ p ∈ ps, ∀ u ∈ p, u < 256
theorem Pcs.form {w : World} {x : Value} {vs : List Value} {ps : List (List Nat)} (h : Pcs w x vs ps) : ∃ xo xc, x = .slice xo ps.length xc := by
  rw [← h.len]
  rcases h.at_ with ⟨rfl, rfl⟩ | ⟨a, c, rfl, rfl⟩ | ⟨g, o, c, rfl, _⟩
  · exact ⟨_, _, rfl⟩
  · exact ⟨_, _, rfl⟩
  · exact ⟨_, _, rfl⟩
/-- The piece k of a slice of slices, in a later world. -/
theorem Pcs.cell {w w' : World} {xo : Option Addr} {n xc : Nat} {vs : List Value} {ps : List (List Nat)} (h : Pcs w (.slice xo n xc) vs ps) (hf : Fr (fun _ => False) w w') (k : Nat) (hk : k < ps.length) : ∃ g o v, xo = some ⟨g, o, none⟩ ∧ w'.cell? ⟨g, o + k, none⟩ = some v ∧ Src w' v ps[k] ∧ (∀ g n c, v = .slice g n c → n ≤ c) ∧ (ps[k] = [] ∨ ∀ g o n c, v = .slice (some ⟨g, o, none⟩) n c → g < w.heap.size) ∧ g < w.heap.size := by
  have hkv : k < vs.length := by rw [h.len]; exact hk
  obtain ⟨h1, h2, h3⟩ := h.src k vs[k] ps[k] (List.getElem?_eq_getElem hkv) (List.getElem?_eq_getElem hk)
  rcases h.at_ with ⟨e, rfl⟩ | ⟨a, c, e, rfl⟩ | ⟨g, o, c, e, hg, hc⟩
  · simp at hkv
  · simp at hkv
  · simp only [Value.slice.injEq] at e
    exact ⟨g, o, vs[k], e.1, (hf.cell (p := ⟨g, o + k, none⟩) hg (fun h => h)).trans (hc k _ (List.getElem?_eq_getElem hkv)), h1.fr0 hf, h2, h3, hg⟩
/-- What the first k pieces are together. -/
def fl (ps : List (List Nat)) (k : Nat) : List Nat := (ps.take k).flatten
theorem fl_succ (ps : List (List Nat)) (k : Nat) (h : k < ps.length) : fl ps (k + 1) = fl ps k ++ ps[k] := by
  rw [fl, fl, List.take_add_one, List.getElem?_eq_getElem h, Option.toList_some, List.flatten_append]
  simp
theorem fl_lt (ps : List (List Nat)) (k : Nat) (h : ∀ p ∈ ps, ∀ u ∈ p, u < 256) : ∀ u ∈ fl ps k, u < 256 := fun u hu => by
  rw [fl, List.mem_flatten] at hu
  obtain ⟨p, hp, hu⟩ := hu
  exact h p (List.mem_of_mem_take hp) u hu
/-- What Sum tells, whatever the width. -/
def sm (i : Int) (m : List Nat) : List Nat := if 1 ≤ i ∧ i ≤ 32 then (sby (dig m)).take i.toNat else []
theorem sm_len {i : Int} {m : List Nat} (h : 1 ≤ i ∧ i ≤ 32) : (sm i m).length = i.toNat := by
  rw [sm, if_pos h, List.length_take, sby_len]; omega
theorem sm_le (i : Int) (m : List Nat) : (sm i m).length ≤ 140737488355328 := by
  by_cases h : 1 ≤ i ∧ i ≤ 32
  · rw [sm_len h]; omega
  · rw [sm, if_neg h]; exact Nat.zero_le _
theorem sum_T (i : Int) (c : List Nat) (x : Value) (w : World) (hg : GS w) (hx : Src w x c) (hc : ∀ v ∈ c, v < 256) (hs : c.length < 9223372036854775808) (hcap : ∀ g n c', x = .slice g n c' → n ≤ c') (hlt : ∀ g o' n c', x = .slice (some ⟨g, o', none⟩) n c' → g < w.heap.size) :
    Calls Tryd.prog 28 #[.int .i64 i, x] w fun e w' => ∃ yo yc, e = .returned (.slice yo (sm i c).length yc) ∧ Src w' (.slice yo (sm i c).length yc) (sm i c) ∧ (sm i c).length ≤ yc ∧ Fr (fun _ => False) w w' := by
  by_cases h : 1 ≤ i ∧ i ≤ 32
  · obtain ⟨n, rfl⟩ : ∃ n : Nat, i = (n : Int) := ⟨i.toNat, by omega⟩
    refine (sum_any n c x w hg hx hc hs hcap hlt (by omega) (by omega)).mono ?_
    rintro e w' ⟨g, rfl, hB, hF, _⟩
    have hsr := sum_src (by omega) hB
    rw [sm_len h, Int.toNat_natCast, sm, if_pos h, Int.toNat_natCast]
    exact ⟨_, _, rfl, hsr, Nat.le_refl _, hF⟩
  · refine (sum_anyout i c x w hg hx hc hs hcap hlt (by omega)).mono ?_
    rintro e w' ⟨rfl, hF⟩
    rw [sm, if_neg h]
    exact ⟨none, 0, rfl, .inl ⟨rfl, rfl⟩, Nat.le_refl _, hF⟩
theorem hsum_T (i : Int) (b o : Nat) (m : List Nat) (w : World) (hg : GS w) (hh : HM w b o m) (hm : ∀ x ∈ m, x < 256) (ht : m.length < 9223372036854775808) :
    Calls Tryd.prog 56 #[.pointer (some ⟨b, o, none⟩), .int .i64 i] w fun e w' => ∃ yo yc, e = .returned (.slice yo (sm i m).length yc) ∧ Src w' (.slice yo (sm i m).length yc) (sm i m) ∧ (sm i m).length ≤ yc ∧ Fr (fun _ => False) w w' := by
  by_cases h : 1 ≤ i ∧ i ≤ 32
  · obtain ⟨n, rfl⟩ : ∃ n : Nat, i = (n : Int) := ⟨i.toNat, by omega⟩
    refine (hmsum_any b o n m w hg hh hm ht (by omega) (by omega)).mono ?_
    rintro e w' ⟨g, rfl, hB, hF, _⟩
    have hsr := sum_src (by omega) hB
    rw [sm_len h, Int.toNat_natCast, sm, if_pos h, Int.toNat_natCast]
    exact ⟨_, _, rfl, hsr, Nat.le_refl _, hF⟩
  · refine (hsum_none b o i w (by omega)).mono ?_
    rintro e w' ⟨rfl, rfl⟩
    rw [sm, if_neg h]
    exact ⟨none, 0, rfl, .inl ⟨rfl, rfl⟩, Nat.le_refl _, Fr.refl _ _⟩
theorem sameB_refl (a : List Nat) : sameB a a = true := same_yes (k := a.length) rfl (Nat.le_refl _) rfl
end Go.Proofs.YthccbfgjekdiiaaDoor
