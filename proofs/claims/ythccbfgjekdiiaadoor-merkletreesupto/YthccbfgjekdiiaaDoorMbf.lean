import Derived.Test.YthccbfgjekdiiaaDoorMbe
namespace Go.Proofs.YthccbfgjekdiiaaDoor
open Go.RowKit

set_option maxRecDepth 100000 in
set_option maxHeartbeats 2000000 in
/-- Tree.keep where there is no such row yet. -/
theorem keep_last (wi : Nat) (hw1 : 1 ≤ wi) (hw32 : wi ≤ 32) (base tb n : Nat) (w : World) (xo : Option Addr) (cp : Nat) (vs : List Value) (rs : List (List Nat)) (yo : Option Addr) (yc : Nat) (r : List Nat)
    (hT : TrAt w base tb wi n xo cp vs rs) (hx : ∀ w', Fr (TOwn tb xo vs) w w' → Src w' (.slice yo wi yc) r) (hr : r.length = wi) (hb : ∀ v ∈ r, v < 256) (hlen : rs.length < 1000) :
    Calls Tryd.prog 51 #[.pointer (some ⟨tb, 0, none⟩), .int .i64 rs.length, .slice yo wi yc] w fun e w' => e = .returned (.tuple #[]) ∧ ∃ xo' cp' vs', TrAt w' base tb wi n xo' cp' vs' (rs ++ [r]) ∧ Fr (TOwn tb xo vs) w w' ∧ ∀ k, TOwn tb xo' vs' k → TOwn tb xo vs k ∨ w.heap.size ≤ k := by
  obtain ⟨c0, c1, c2, hfz, htb⟩ := hT.cells
  have hvl : vs.length = rs.length := hT.len
  obtain ⟨ao, cp1, w2, hrun, hs2, hz2, hT3, hF3, hO3⟩ := hT.push (by omega)
  rw [hvl] at c2 hrun hT3 hF3
  obtain ⟨N, hN⟩ : ∃ N, rs.length = N := ⟨_, rfl⟩
  rw [hN] at c2 hrun hT3 hF3 hlen ⊢
  have HG := hide (And.intro hT (And.intro hx (And.intro hr (And.intro hb (And.intro hT3 (And.intro hF3 hO3))))))
  have HR := hide hrun
  clear hT hx hr hb hT3 hF3 hO3 hrun
  go_enter Tryd.func51, Tryd.ntmps51
  obtain ⟨z2, hz2'⟩ := Option.isSome_iff_exists.1 hs2
  go_wp2_with (at_builtin; refine wpList_app rfl _ _ 22 22 rfl _ _ _ rfl rfl (unhide HR) ?_)
  clear hs2 hz2 hz2'
  generalize (w2.setCell ⟨tb, 2, none⟩ (.slice ao (N + 1) cp1)) = w3 at *
  obtain ⟨hT, hx, hr, hb, hT3, hF3, hO3⟩ := unhide HG
  have hl3 : (vs ++ [Value.slice none 0 0])[N]? = some (.slice none ([] : List Nat).length 0) := by rw [List.getElem?_append_right (by omega), hvl, hN, Nat.sub_self]; rfl
  have hr3 : (rs ++ [([] : List Nat)])[N]? = some [] := by rw [List.getElem?_append_right (by omega), hN, Nat.sub_self]; rfl
  obtain ⟨ao', c', w4, wb, hrun4, hxo, hs4, hz4, ht4, hw4, hT5, hF5, hO5⟩ := (hT3.of_blocks (w' := w3.drew) (fun _ _ => rfl)).put N none 0 [] hl3 hr3 (.slice yo wi yc) r (hx _ hF3.drew) hb (by simp; omega)
  subst hxo
  have hv3 : (vs ++ [Value.slice none 0 0]).length = N + 1 := by rw [List.length_append, hvl, hN]; rfl
  obtain ⟨d0, d1, d2, dz, dl⟩ := hT3.cells
  rw [hv3] at d2
  have dh : w3.cell? ⟨wb, N, none⟩ = some (.slice none 0 0) := (hT3.own.cellAt N (by omega)).trans hl3
  have d4 : w4.cell? ⟨tb, 2, none⟩ = some (.slice (some ⟨wb, 0, none⟩) (N + 1) cp1) := (World.cell?_of_block (w := w3) (a := ⟨tb, 2, none⟩) ht4).trans d2
  obtain ⟨z4, hz4'⟩ := Option.isSome_iff_exists.1 hs4
  simp only [List.length_nil, Nat.zero_add, hr] at hrun4 hT5 hF5 hO5
  obtain ⟨e0, e1, e2, ez, el⟩ := hT5.cells
  have hv5 : ((vs ++ [Value.slice none 0 0]).set N (.slice ao' wi c')).length = N + 1 := by rw [List.length_set]; exact hv3
  rw [hv5] at e2
  have eh := (hT5.own.cellAt N (by omega)).trans (List.getElem?_set_self (by rw [hv3]; omega))
  have hrs : (rs ++ [[]]).set N ([] ++ r) = rs ++ [r] := by rw [← hN, List.set_append_right _ _ (Nat.le_refl _), Nat.sub_self]; rfl
  rw [hrs] at hT5
  have hFF : Fr (TOwn tb xo vs) w (w4.setCell ⟨wb, N, none⟩ (.slice ao' wi c')) := hF3.drew.trans hF5 (fun k hk hO => (hO3 k hO).elim id (fun h => absurd hk (by omega)))
  have hOO : ∀ k, TOwn tb (some ⟨wb, 0, none⟩) ((vs ++ [Value.slice none 0 0]).set N (.slice ao' wi c')) k → TOwn tb xo vs k ∨ w.heap.size ≤ k := fun k hk => (hO5 k hk).elim (hO3 k) (fun h => .inr (Nat.le_trans hF3.size h))
  obtain ⟨W5, hW5⟩ : ∃ W5, w4.setCell ⟨wb, N, none⟩ (.slice ao' wi c') = W5 := ⟨_, rfl⟩
  rw [hW5] at e0 e2 eh hT5 hFF
  have HR4 := hide hrun4
  have H5 := hide (And.intro hT5 (And.intro hFF hOO))
  clear hrun4 hT5 hF5 hO5 hT hx hr hb hT3 hF3 hO3 hs4 ht4 hw4 hl3 hr3 hv3 c0 c1 c2 hfz hFF hOO hrs hv5 e1 ez el
  have hNi : (N : Int) < (N : Int) + 1 := by omega
  have hq0 : ¬ wi = 0 := by omega
  have hq1 : Int.tdiv (wi : Int) (wi : Int) = 1 := Int.tdiv_self (by omega)
  go_region_law (refine step_app rfl (.tmp 34) (.tmp 35) 25 25 rfl _ _ _ (by simp [Act.eval]) (by simp [Act.eval]) (unhide HR4) ?_)
  all_goals
    go_wp2_with fail
    go_quiet (fail)
    go_wp2_with fail
  all_goals
    go_end0
    exact ⟨rfl, _, _, _, (unhide H5).1.of_blocks (fun _ _ => rfl), (unhide H5).2.1.drewN _, (unhide H5).2.2⟩
end Go.Proofs.YthccbfgjekdiiaaDoor
