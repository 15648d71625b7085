import Derived.Test.YthccbfgjekdiiaaDoorMbf
namespace Go.Proofs.YthccbfgjekdiiaaDoor
open Go.RowKit

/-- Some of a row's bytes. -/
theorem Ow.part {w : World} {base g cp : Nat} {l : List Nat} (h : Ow w base (some ⟨g, 0, none⟩) cp l) (J k : Nat) (hJ : J + k ≤ l.length) (hb : ∀ v ∈ l, v < 256) : Sl w (.slice (some ⟨g, J, none⟩) k (cp - J)) ((l.drop J).take k) := by
  have hl : ((l.drop J).take k).length = k := by rw [List.length_take, List.length_drop]; omega
  refine ⟨.inr (.inl ⟨g, J, cp - J, by rw [hl], fun j v hv => ?_⟩), fun _ _ _ e => ?_, .inr (fun g' o n c e => ?_), fun v hv => hb v (List.mem_of_mem_drop (List.mem_of_mem_take hv))⟩
  · have hj : j < k := by
      have := (List.getElem?_eq_some_iff.1 hv).1
      rw [cellsOf, List.length_map, hl] at this
      exact this
    rw [World.ownsRow.cellAt h (J + j) (by omega), ← hv]
    simp only [cellsOf, List.map_take, List.map_drop]
    rw [List.getElem?_take, if_pos hj, List.getElem?_drop]
  · simp only [Value.slice.injEq] at e
    have := h.cap
    omega
  · simp only [Value.slice.injEq, Option.some.injEq, Addr.mk.injEq] at e
    rw [← e.1.1]
    exact h.lt.2
/-- The jth root of a row. -/
def rwt (wi : Nat) (row : List Nat) (j : Nat) : List Nat := (row.drop (j * wi)).take wi
/-- The rows behind a root that is kept. -/
def kpb (wi : Nat) : List (List Nat) → List Nat → List (List Nat)
  | [], r => [r]
  | row :: rest, r =>
    if (row ++ r).length / wi % 2 = 0 then (row ++ r) :: kpb wi rest (nd wi (rwt wi (row ++ r) ((row ++ r).length / wi - 2)) (rwt wi (row ++ r) ((row ++ r).length / wi - 1)))
    else (row ++ r) :: rest
/-- What Tree.keep does from the height h on. -/
def KeepSays (wi base tb n N h : Nat) : Prop := ∀ (w : World) (xo : Option Addr) (cp : Nat) (vs : List Value) (rs : List (List Nat)) (yo : Option Addr) (yc : Nat) (r : List Nat), rs.length = N → TrAt w base tb wi n xo cp vs rs → GS w →
  (∀ w', Fr (TOwn tb xo vs) w w' → Src w' (.slice yo wi yc) r) → r.length = wi → (∀ v ∈ r, v < 256) → (∀ (j : Nat) row, h ≤ j → rs[j]? = some row → (∃ q, row.length = q * wi) ∧ row.length ≤ 1000000000000) →
  Calls Tryd.prog 51 #[.pointer (some ⟨tb, 0, none⟩), .int .i64 h, .slice yo wi yc] w fun e w' => e = .returned (.tuple #[]) ∧ ∃ xo' cp' vs', TrAt w' base tb wi n xo' cp' vs' (rs.take h ++ kpb wi (rs.drop h) r) ∧ Fr (TOwn tb xo vs) w w' ∧ ∀ k, TOwn tb xo' vs' k → TOwn tb xo vs k ∨ w.heap.size ≤ k
theorem keep_end (wi : Nat) (hw1 : 1 ≤ wi) (hw32 : wi ≤ 32) (base tb n N : Nat) (hN : N < 1000) : KeepSays wi base tb n N N := by
  intro w xo cp vs rs yo yc r hl hT _ hx hr hb _
  subst hl
  have := keep_last wi hw1 hw32 base tb n w xo cp vs rs yo yc r hT hx hr hb hN
  rw [List.take_length, List.drop_length, kpb]
  exact this
/-- What is known of the tree once the root lies in its row. -/
theorem keep_put (wi : Nat) (hw1 : 1 ≤ wi) (hw32 : wi ≤ 32) (base tb n N h : Nat) (hh : h < N) (w : World) (xo : Option Addr) (cp : Nat) (vs : List Value) (rs : List (List Nat)) (yo : Option Addr) (yc : Nat) (r : List Nat) (hl : rs.length = N) (hT : TrAt w base tb wi n xo cp vs rs)
    (hx : ∀ w', Fr (TOwn tb xo vs) w w' → Src w' (.slice yo wi yc) r) (hr : r.length = wi) (hb : ∀ v ∈ r, v < 256) (hrs : ∀ (j : Nat) row, h ≤ j → rs[j]? = some row → (∃ q, row.length = q * wi) ∧ row.length ≤ 1000000000000) :
    ∃ (wb : Nat) (ao : Option Addr) (R c q : Nat) (row : List Nat) (g c' : Nat) (w4 W5 : World), xo = some ⟨wb, 0, none⟩ ∧ rs[h]? = some row ∧ row.length = R ∧ R = q * wi ∧ R ≤ 1000000000000 ∧ vs[h]? = some (.slice ao R c) ∧
      (Builtin.append_ #[25, 25] 25 #[.slice ao R c, .slice yo wi yc]).run Tryd.prog w.drew = .ok (.slice (some ⟨g, 0, none⟩) (R + wi) c') w4 ∧
      w4.setCell ⟨wb, h, none⟩ (.slice (some ⟨g, 0, none⟩) (R + wi) c') = W5 ∧ (∃ z, w4.cell? ⟨wb, h, none⟩ = some z) ∧ w4.frozen? ⟨wb, h, none⟩ = false ∧ w4.cell? ⟨tb, 2, none⟩ = some (.slice (some ⟨wb, 0, none⟩) N cp) ∧
      w.cell? ⟨tb, 2, none⟩ = some (.slice (some ⟨wb, 0, none⟩) N cp) ∧ w.cell? ⟨wb, h, none⟩ = some (.slice ao R c) ∧
      W5.cell? ⟨tb, 0, none⟩ = some (.int .i64 wi) ∧ W5.cell? ⟨tb, 2, none⟩ = some (.slice (some ⟨wb, 0, none⟩) N cp) ∧ W5.cell? ⟨wb, h, none⟩ = some (.slice (some ⟨g, 0, none⟩) (R + wi) c') ∧
      Ow W5 base (some ⟨g, 0, none⟩) c' (row ++ r) ∧ TrAt W5 base tb wi n (some ⟨wb, 0, none⟩) cp (vs.set h (.slice (some ⟨g, 0, none⟩) (R + wi) c')) (rs.set h (row ++ r)) ∧
      Fr (TOwn tb xo vs) w W5 ∧ ∀ k, TOwn tb (some ⟨wb, 0, none⟩) (vs.set h (.slice (some ⟨g, 0, none⟩) (R + wi) c')) k → TOwn tb xo vs k ∨ w.heap.size ≤ k := by
  have hvl : vs.length = N := hT.len.trans hl
  have hv : vs[h]? = some vs[h] := List.getElem?_eq_getElem (by omega)
  have hrw : rs[h]? = some rs[h] := List.getElem?_eq_getElem (by omega)
  obtain ⟨ao, c, e, hO⟩ := hT.row h _ _ hv hrw
  rw [e] at hv
  obtain ⟨⟨q, hq⟩, hR⟩ := hrs h rs[h] (Nat.le_refl _) hrw
  obtain ⟨ao', c', w4, wb, hrun4, hxo, hs4, hz4, ht4, hw4, hT5, hF5, hO5⟩ := (hT.of_blocks (w' := w.drew) (fun _ _ => rfl)).put h ao c rs[h] hv hrw (.slice yo wi yc) r (hx _ (Fr.refl _ _).drew) hb (by omega)
  subst hxo
  rw [hr] at hrun4 hT5 hF5 hO5
  have hhv : h < vs.length := by omega
  obtain ⟨ao5, c5, e5, hO5'⟩ := hT5.row h _ _ (List.getElem?_set_self hhv) (List.getElem?_set_self (by omega))
  simp only [Value.slice.injEq] at e5
  obtain ⟨rfl, _, rfl⟩ := e5
  obtain ⟨g, rfl⟩ : ∃ g, ao' = some ⟨g, 0, none⟩ := by
    rcases hO5'.2 with ⟨_, e6⟩ | ⟨g, _, _, e6, _⟩
    · rw [List.length_append] at e6; omega
    · simp only [Value.slice.injEq] at e6
      exact ⟨g, e6.1⟩
  obtain ⟨e0, e1, e2, ez, el⟩ := hT5.cells
  rw [List.length_set, hvl] at e2
  obtain ⟨d0, d1, d2, dz, dl⟩ := hT.cells
  rw [hvl] at d2
  refine ⟨wb, ao, rs[h].length, c, q, rs[h], g, c', w4, _, rfl, hrw, rfl, hq, hR, hv, hrun4, rfl, Option.isSome_iff_exists.1 hs4, hz4, (World.cell?_of_block (w := w) (a := ⟨tb, 2, none⟩) ht4).trans d2, d2, (hT.own.cellAt h (by omega)).trans hv, e0, e2, ?_, hO5', hT5, (Fr.refl _ _).drew.trans hF5 (fun _ _ h => h), hO5⟩
  exact (hT5.own.cellAt h (by rw [List.length_set]; omega)).trans (List.getElem?_set_self hhv)
end Go.Proofs.YthccbfgjekdiiaaDoor
