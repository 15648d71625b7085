import Derived.Test.YthccbfgjekdiiaaDoorPk2
namespace Go.Proofs.YthccbfgjekdiiaaDoor
open Go.RowKit

theorem TrAt.of_blocks {w w' : World} {base tb : Nat} {wi : Int} {n : Nat} {xo : Option Addr} {cp : Nat} {vs : List Value} {rs : List (List Nat)} (h : TrAt w base tb wi n xo cp vs rs)
    (hb : ∀ k, TOwn tb xo vs k → w'.heap[k]? = w.heap[k]?) : TrAt w' base tb wi n xo cp vs rs := by
  refine ⟨h.lo, (hb tb (.inl rfl)).trans h.obj, ownsRow_of_block h.own (fun g hg => hb g ?_), h.len, fun j v r hv hr => ?_, h.apart, h.byt⟩
  · rcases h.own.2 with ⟨e, _⟩ | ⟨g', cap, cur, e, _⟩
    · rw [e] at hg; cases hg
    · rw [e] at hg
      simp only [Value.ownBlock, Option.some.injEq] at hg
      simp only [Value.slice.injEq] at e
      exact .inr (.inl ⟨0, by rw [e.1, hg]⟩)
  · obtain ⟨ao, c, e, hO⟩ := h.row j v r hv hr
    exact ⟨ao, c, e, ownsRow_of_block hO (fun g hg => hb g (.inr (.inr ⟨v, List.mem_of_getElem? hv, by rw [e]; exact hg⟩)))⟩
theorem TrAt.fr {w w' : World} {base tb : Nat} {wi : Int} {n : Nat} {xo : Option Addr} {cp : Nat} {vs : List Value} {rs : List (List Nat)} (h : TrAt w base tb wi n xo cp vs rs) {S : Nat → Prop}
    (hf : Fr S w w') (hS : ∀ k, TOwn tb xo vs k → ¬ S k) : TrAt w' base tb wi n xo cp vs rs := by
  refine h.of_blocks fun k hk => hf.block k ?_ (hS k hk)
  rcases hk with rfl | ⟨o, rfl⟩ | ⟨v, hv, hk⟩
  · exact h.cells.2.2.2.2
  · exact (h.own.lt k rfl).2
  · obtain ⟨j, hj, rfl⟩ := List.getElem_of_mem hv
    obtain ⟨ao, c, e, hO⟩ := h.row j vs[j] (rs[j]'(by have := h.len; omega)) (List.getElem?_eq_getElem hj) (List.getElem?_eq_getElem _)
    rw [e] at hk
    exact (World.ownsRow.lt hO k hk).2
theorem TrAt.lt {w : World} {base tb : Nat} {wi : Int} {n : Nat} {xo : Option Addr} {cp : Nat} {vs : List Value} {rs : List (List Nat)} (h : TrAt w base tb wi n xo cp vs rs) (k : Nat) (hk : TOwn tb xo vs k) : base ≤ k ∧ k < w.heap.size := by
  rcases hk with rfl | ⟨o, rfl⟩ | ⟨v, hv, hk⟩
  · exact ⟨h.lo, h.cells.2.2.2.2⟩
  · exact h.own.lt k rfl
  · obtain ⟨j, hj, rfl⟩ := List.getElem_of_mem hv
    obtain ⟨ao, c, e, hO⟩ := h.row j vs[j] (rs[j]'(by have := h.len; omega)) (List.getElem?_eq_getElem hj) (List.getElem?_eq_getElem _)
    rw [e] at hk
    exact World.ownsRow.lt hO k hk
/-- A row more, with nothing in it. -/
theorem TrAt.push {w : World} {base tb : Nat} {wi : Int} {n : Nat} {xo : Option Addr} {cp : Nat} {vs : List Value} {rs : List (List Nat)} (h : TrAt w base tb wi n xo cp vs rs) (hb : vs.length < 16000000) :
    ∃ ao cp' w2, (Builtin.append_ #[22, 22] 22 #[.slice xo vs.length cp, .slice (some ⟨w.heap.size, 0, none⟩) 1 1]).run Tryd.prog (w.alloc (.cells #[.slice none 0 0] 25)) = .ok (.slice ao (vs.length + 1) cp') w2 ∧
      (w2.cell? ⟨tb, 2, none⟩).isSome = true ∧ w2.frozen? ⟨tb, 2, none⟩ = false ∧
      TrAt (w2.setCell ⟨tb, 2, none⟩ (.slice ao (vs.length + 1) cp')) base tb wi n ao cp' (vs ++ [.slice none 0 0]) (rs ++ [[]]) ∧
      Fr (TOwn tb xo vs) w (w2.setCell ⟨tb, 2, none⟩ (.slice ao (vs.length + 1) cp')) ∧ ∀ k, TOwn tb ao (vs ++ [.slice none 0 0]) k → TOwn tb xo vs k ∨ w.heap.size ≤ k := by
  obtain ⟨i0, hi, hz0, hz1, hz2⟩ := info_parts Tryd.infoSl
  have hne := h.ne
  have hlt := h.lt
  have hsz : base ≤ w.heap.size := Nat.le_trans h.lo (Nat.le_of_lt h.cells.2.2.2.2)
  have hxb : ∀ g, (Value.slice xo vs.length cp).ownBlock = some g → TOwn tb xo vs g ∧ g ≠ tb := by
    intro g hg
    rcases h.own.2 with ⟨e, _⟩ | ⟨g', cap, cur, e, _⟩
    · rw [e] at hg; cases hg
    · rw [e] at hg
      simp only [Value.ownBlock, Option.some.injEq] at hg
      simp only [Value.slice.injEq] at e
      have ex : xo = some ⟨g, 0, none⟩ := by rw [e.1, hg]
      exact ⟨.inr (.inl ⟨0, ex⟩), hne.1 g 0 ex⟩
  have h2 : (w.alloc (.cells #[.slice none 0 0] 25)).ownsRow base 25 1 (.slice xo vs.length cp) vs.length vs := h.own.alloc _
  obtain ⟨v', w', hr, h3, h4, _, h5⟩ := run_append_own_at (P := Tryd.prog) (w.alloc (.cells #[.slice none 0 0] 25)) base 22 22 25 i0 (.slice none 0 0) 1 24 Tryd.underlying22 hi hz0 hz1 hz2 rfl (by decide) (.slice xo vs.length cp) vs.length vs h2 ⟨w.heap.size, 0, none⟩ 1 1 [.slice none 0 0] rfl (fun j u hu => by
    rw [add_at, World.cell?_alloc_at _ _ _ _ rfl]; simpa using hu) (fun u hu => by simp at hu; subst hu; rfl) (by simp only [maxLen]; omega) (by omega) (by simp; omega)
  have hf : ∃ g cap, v' = .slice (some ⟨g, 0, none⟩) (vs.length + 1) cap := by
    rcases h3.2 with ⟨_, e⟩ | ⟨g, cap, cur, rfl, _⟩
    · omega
    · exact ⟨g, cap, rfl⟩
  obtain ⟨g, cap, rfl⟩ := hf
  have hgo : g ≠ tb ∧ (TOwn tb xo vs g ∨ w.heap.size ≤ g) := by
    rcases h5 with h5 | h5
    · have := hxb g h5.symm
      exact ⟨this.2, .inl this.1⟩
    · simp only [Value.ownBlock, Option.some.injEq] at h5
      have := h.cells.2.2.2.2
      simp at h5
      exact ⟨by omega, .inr (by omega)⟩
  have hgb : ∀ k, k < w.heap.size → (∀ o, xo ≠ some ⟨k, o, none⟩) → w'.heap[k]? = w.heap[k]? := fun k hk hx => by
    refine (h4.block k (by simp; omega) (fun e => ?_)).trans (Below.heap_alloc _ _ _ hk)
    rcases h.own.2 with ⟨e', _⟩ | ⟨g', cap', cur, e', _⟩
    · rw [e'] at e; cases e
    · rw [e'] at e
      simp only [Value.ownBlock, Option.some.injEq] at e
      simp only [Value.slice.injEq] at e'
      exact hx 0 (by rw [e'.1, e])
  have htb : w'.heap[tb]? = some (.cells #[.int .i64 wi, .int .i64 n, .slice xo vs.length cp] 72 (0, 0)) := (hgb tb h.cells.2.2.2.2 (fun o e => hne.1 tb o e rfl)).trans h.obj
  have hF : Fr (TOwn tb xo vs) w w' := ((Fr.refl _ _).alloc _).grown h4 (fun k hk => .inl (hxb k hk).1)
  refine ⟨some ⟨g, 0, none⟩, cap, w', hr, by simp [World.cell?, htb], by simp [World.frozen?, htb], ⟨h.lo, ?_, ?_, by simp [h.len], fun j v r hv hr => ?_, fun j j' v v' q q' hj hv hv' hq hq' => ?_, fun r hr => ?_⟩, hF.setCell (.inl (.inl rfl)) _, fun k hk => ?_⟩
  · rw [heap_setCell_same _ _ _ _ _ _ htb, List.length_append]; rfl
  · rw [List.length_append]
    refine ownsRow_of_block h3 (fun q hq => ?_)
    simp only [Value.ownBlock, Option.some.injEq] at hq
    exact heap_setCell_other _ _ _ _ (by rw [← hq]; exact hgo.1)
  · by_cases hjl : j < vs.length
    · rw [List.getElem?_append_left hjl] at hv
      rw [List.getElem?_append_left (by rw [← h.len]; exact hjl)] at hr
      obtain ⟨ao, c, e, hO⟩ := h.row j v r hv hr
      refine ⟨ao, c, e, ownsRow_of_block hO (fun q hq => ?_)⟩
      have hn := hne.2 v (List.mem_of_getElem? hv) q (by rw [e]; exact hq)
      rw [heap_setCell_other _ _ _ _ hn.1]
      exact hgb q (World.ownsRow.lt hO q hq).2 (fun o ex => hn.2 q o ex rfl)
    · have hj : j = vs.length := by
        have := (List.getElem?_eq_some_iff.1 hv).1
        simp at this; omega
      subst hj
      rw [List.getElem?_append_right (Nat.le_refl _), Nat.sub_self] at hv
      rw [List.getElem?_append_right (by rw [h.len]; exact Nat.le_refl _), h.len, Nat.sub_self] at hr
      simp at hv hr
      subst hv hr
      exact ⟨none, 0, rfl, World.ownsRow_nil _ _ _ _⟩
  · have hin : ∀ (j : Nat) v q, (vs ++ [.slice none 0 0])[j]? = some v → v.ownBlock = some q → vs[j]? = some v := fun j v q hv hq => by
      by_cases hjl : j < vs.length
      · rwa [List.getElem?_append_left hjl] at hv
      · have hj : j = vs.length := by
          have := (List.getElem?_eq_some_iff.1 hv).1
          simp at this; omega
        subst hj
        rw [List.getElem?_append_right (Nat.le_refl _), Nat.sub_self] at hv
        simp at hv
        subst hv
        cases hq
    exact h.apart j j' v v' q q' hj (hin j v q hv hq) (hin j' v' q' hv' hq') hq hq'
  · rcases List.mem_append.1 hr with hr | hr
    · exact h.byt r hr
    · simp at hr; subst hr; simp
  · rcases hk with rfl | ⟨o, e⟩ | ⟨v, hv, hk⟩
    · exact .inl (.inl rfl)
    · simp only [Option.some.injEq, Addr.mk.injEq] at e
      rw [← e.1]; exact hgo.2
    · rcases List.mem_append.1 hv with hv | hv
      · exact .inl (.inr (.inr ⟨v, hv, hk⟩))
      · simp at hv; subst hv; cases hk
/-- Bytes put behind a row's. -/
theorem TrAt.put {w : World} {base tb : Nat} {wi : Int} {n : Nat} {xo : Option Addr} {cp : Nat} {vs : List Value} {rs : List (List Nat)} (h : TrAt w base tb wi n xo cp vs rs) (j : Nat) (ao : Option Addr) (c : Nat) (r : List Nat)
    (hv : vs[j]? = some (.slice ao r.length c)) (hr : rs[j]? = some r) (x : Value) (b : List Nat) (hx : Src w x b) (hbb : ∀ v ∈ b, v < 256) (hl : r.length + b.length ≤ 140737488355328) :
    ∃ ao' c' w2 wb, (Builtin.append_ #[25, 25] 25 #[.slice ao r.length c, x]).run Tryd.prog w = .ok (.slice ao' (r.length + b.length) c') w2 ∧
      xo = some ⟨wb, 0, none⟩ ∧ (w2.cell? ⟨wb, j, none⟩).isSome = true ∧ w2.frozen? ⟨wb, j, none⟩ = false ∧ w2.heap[tb]? = w.heap[tb]? ∧ w2.heap[wb]? = w.heap[wb]? ∧
      TrAt (w2.setCell ⟨wb, j, none⟩ (.slice ao' (r.length + b.length) c')) base tb wi n xo cp (vs.set j (.slice ao' (r.length + b.length) c')) (rs.set j (r ++ b)) ∧
      Fr (TOwn tb xo vs) w (w2.setCell ⟨wb, j, none⟩ (.slice ao' (r.length + b.length) c')) ∧ ∀ k, TOwn tb xo (vs.set j (.slice ao' (r.length + b.length) c')) k → TOwn tb xo vs k ∨ w.heap.size ≤ k := by
  have hne := h.ne
  have hlt := h.lt
  have hsz : base ≤ w.heap.size := Nat.le_trans h.lo (Nat.le_of_lt h.cells.2.2.2.2)
  have hjl : j < vs.length := (List.getElem?_eq_some_iff.1 hv).1
  have hmem : Value.slice ao r.length c ∈ vs := List.mem_of_getElem? hv
  obtain ⟨ao0, c0, e0, hO⟩ := h.row j _ r hv hr
  simp only [Value.slice.injEq, true_and] at e0
  obtain ⟨rfl, rfl⟩ := e0
  obtain ⟨wb, rfl⟩ : ∃ wb, xo = some ⟨wb, 0, none⟩ := by
    rcases h.own.2 with ⟨_, e⟩ | ⟨g', cap, cur, e, _⟩
    · omega
    · simp only [Value.slice.injEq] at e
      exact ⟨g', e.1⟩
  have hwt : wb ≠ tb := hne.1 wb 0 rfl
  have hwl := h.own.lt wb rfl
  have htl := h.cells.2.2.2.2
  obtain ⟨ao', c', w2, hrun, hown, hg, hat⟩ := run_app_sl w 25 base r.length _ x _ b hO hx hl hsz
  have hgb : ∀ k, k < w.heap.size → (Value.slice ao r.length c).ownBlock ≠ some k → w2.heap[k]? = w.heap[k]? := fun k hk hx => hg.block k hk (fun e => hx e.symm)
  have hrw : ∀ k, (Value.slice ao r.length c).ownBlock = some k → k ≠ tb ∧ k ≠ wb := fun k hk => ⟨(hne.2 _ hmem k hk).1, (hne.2 _ hmem k hk).2 wb 0 rfl⟩
  have h2t : w2.heap[tb]? = w.heap[tb]? := hgb tb htl (fun e => (hrw tb e).1 rfl)
  have h2w : w2.heap[wb]? = w.heap[wb]? := hgb wb hwl.2 (fun e => (hrw wb e).2 rfl)
  have how2 : w2.ownsRow base 25 1 (.slice (some ⟨wb, 0, none⟩) vs.length cp) vs.length vs := ownsRow_of_block h.own (fun g hg => by
    simp only [Value.ownBlock, Option.some.injEq] at hg
    rw [← hg]; exact h2w)
  have hst := how2.stored j (.slice ao' (r.length + b.length) c')
  have hnew : ∀ k, (Value.slice ao' (r.length + b.length) c').ownBlock = some k → (Value.slice ao r.length c).ownBlock = some k ∨ k = w.heap.size := fun k hk => by
    rcases hat with e | e
    · left; rw [← e]; exact hk
    · right; rw [hk] at e; exact Option.some.inj e
  have hlenv : (vs.set j (.slice ao' (r.length + b.length) c')).length = vs.length := List.length_set
  refine ⟨ao', c', w2, wb, hrun, rfl, ?_, how2.frozenAt j, h2t, h2w, ⟨h.lo, ?_, ?_, by rw [List.length_set, List.length_set]; exact h.len, fun i v q hvi hri => ?_, fun i i' v v' g g' hii hvi hvi' hg hg' => ?_, fun q hq => ?_⟩, ?_, fun k hk => ?_⟩
  · rw [how2.cellAt j (by omega), hv]; rfl
  · rw [heap_setCell_other _ _ _ _ (fun e => hwt e.symm), h2t, hlenv]; exact h.obj
  · rw [hlenv]; exact hst.1
  · by_cases hij : i = j
    · subst hij
      rw [List.getElem?_set_self hjl] at hvi
      rw [List.getElem?_set_self (by rw [← h.len]; exact hjl)] at hri
      simp only [Option.some.injEq] at hvi hri
      subst hvi hri
      refine ⟨ao', c', by rw [List.length_append], ?_⟩
      unfold Ow
      rw [List.length_append, cellsOf_append]
      refine ownsRow_of_block hown (fun k hk => heap_setCell_other _ _ _ _ (fun e => ?_))
      rcases hnew k hk with h1 | h1
      · exact (hrw k h1).2 e
      · simp only at e; omega
    · rw [List.getElem?_set_ne (fun e => hij e.symm)] at hvi hri
      obtain ⟨a1, c1, e1, hO1⟩ := h.row i v q hvi hri
      refine ⟨a1, c1, e1, ownsRow_of_block hO1 (fun k hk => ?_)⟩
      have hk' : v.ownBlock = some k := by rw [e1]; exact hk
      have hn := hne.2 v (List.mem_of_getElem? hvi) k hk'
      rw [heap_setCell_other _ _ _ _ (hn.2 wb 0 rfl)]
      exact hgb k (World.ownsRow.lt hO1 k hk).2 (fun e => h.apart i j v _ k k hij hvi hv hk' e rfl)
  · by_cases hij : i = j
    · subst hij
      rw [List.getElem?_set_self hjl] at hvi
      rw [List.getElem?_set_ne hii] at hvi'
      simp only [Option.some.injEq] at hvi
      subst hvi
      rcases hnew g hg with h1 | h1
      · exact h.apart i i' _ v' g g' hii hv hvi' h1 hg'
      · have := hlt g' (.inr (.inr ⟨v', List.mem_of_getElem? hvi', hg'⟩))
        omega
    · rw [List.getElem?_set_ne (fun e => hij e.symm)] at hvi
      by_cases hij' : i' = j
      · subst hij'
        rw [List.getElem?_set_self hjl] at hvi'
        simp only [Option.some.injEq] at hvi'
        subst hvi'
        rcases hnew g' hg' with h1 | h1
        · exact h.apart i i' v _ g g' hii hvi hv hg h1
        · have := hlt g (.inr (.inr ⟨v, List.mem_of_getElem? hvi, hg⟩))
          omega
      · rw [List.getElem?_set_ne (fun e => hij' e.symm)] at hvi'
        exact h.apart i i' v v' g g' hii hvi hvi' hg hg'
  · rcases List.mem_or_eq_of_mem_set hq with hq | hq
    · exact h.byt q hq
    · subst hq
      intro v hv'
      rcases List.mem_append.1 hv' with hv' | hv'
      · exact h.byt r (List.mem_of_getElem? hr) v hv'
      · exact hbb v hv'
  · refine Fr.setCell ((Fr.refl _ _).grown hg (fun k hk => .inl (.inr (.inr ⟨_, hmem, hk⟩)))) (.inl (.inr (.inl ⟨0, rfl⟩))) _
  · rcases hk with rfl | ⟨o, e⟩ | ⟨v, hv', hk⟩
    · exact .inl (.inl rfl)
    · exact .inl (.inr (.inl ⟨o, e⟩))
    · rcases List.mem_or_eq_of_mem_set hv' with hv' | hv'
      · exact .inl (.inr (.inr ⟨v, hv', hk⟩))
      · subst hv'
        rcases hnew k hk with h1 | h1
        · exact .inl (.inr (.inr ⟨_, hmem, h1⟩))
        · exact .inr (by omega)
end Go.Proofs.YthccbfgjekdiiaaDoor

namespace Go.Proofs.YthccbfgjekdiiaaDoor
open Go.RowKit

set_option maxRecDepth 100000 in
set_option maxHeartbeats 2000000 in
/-- Tree.keep where there is no such row yet. -/
theorem keep_last (wi : Nat) (hw1 : 1 ≤ wi) (hw32 : wi ≤ 32) (base tb n : Nat) (w : World) (xo : Option Addr) (cp : Nat) (vs : List Value) (rs : List (List Nat)) (yo : Option Addr) (yc : Nat) (r : List Nat)
    (hT : TrAt w base tb wi n xo cp vs rs) (hx : ∀ w', Fr (TOwn tb xo vs) w w' → Src w' (.slice yo wi yc) r) (hr : r.length = wi) (hb : ∀ v ∈ r, v < 256) (hlen : rs.length < 1000) :
    Calls Tryd.prog 51 #[.pointer (some ⟨tb, 0, none⟩), .int .i64 rs.length, .slice yo wi yc] w fun e w' => e = .returned (.tuple #[]) ∧ ∃ xo' cp' vs', TrAt w' base tb wi n xo' cp' vs' (rs ++ [r]) ∧ Fr (TOwn tb xo vs) w w' ∧ ∀ k, TOwn tb xo' vs' k → TOwn tb xo vs k ∨ w.heap.size ≤ k := by
  obtain ⟨c0, c1, c2, hfz, htb⟩ := hT.cells
  have hvl : vs.length = rs.length := hT.len
  obtain ⟨ao, cp1, w2, hrun, hs2, hz2, hT3, hF3, hO3⟩ := hT.push (by omega)
  rw [hvl] at c2 hrun hT3 hF3
  obtain ⟨N, hN⟩ : ∃ N, rs.length = N := ⟨_, rfl⟩
  rw [hN] at c2 hrun hT3 hF3 hlen ⊢
  have HG := hide (And.intro hT (And.intro hx (And.intro hr (And.intro hb (And.intro hT3 (And.intro hF3 hO3))))))
  have HR := hide hrun
  clear hT hx hr hb hT3 hF3 hO3 hrun
  go_enter Tryd.func51, Tryd.ntmps51
  obtain ⟨z2, hz2'⟩ := Option.isSome_iff_exists.1 hs2
  go_wp2_with (at_builtin; refine wpList_app rfl _ _ 22 22 rfl _ _ _ rfl rfl (unhide HR) ?_)
  clear hs2 hz2 hz2'
  generalize (w2.setCell ⟨tb, 2, none⟩ (.slice ao (N + 1) cp1)) = w3 at *
  obtain ⟨hT, hx, hr, hb, hT3, hF3, hO3⟩ := unhide HG
  have hl3 : (vs ++ [Value.slice none 0 0])[N]? = some (.slice none ([] : List Nat).length 0) := by rw [List.getElem?_append_right (by omega), hvl, hN, Nat.sub_self]; rfl
  have hr3 : (rs ++ [([] : List Nat)])[N]? = some [] := by rw [List.getElem?_append_right (by omega), hN, Nat.sub_self]; rfl
  obtain ⟨ao', c', w4, wb, hrun4, hxo, hs4, hz4, ht4, hw4, hT5, hF5, hO5⟩ := (hT3.of_blocks (w' := w3.drew) (fun _ _ => rfl)).put N none 0 [] hl3 hr3 (.slice yo wi yc) r (hx _ hF3.drew) hb (by simp; omega)
  subst hxo
  have hv3 : (vs ++ [Value.slice none 0 0]).length = N + 1 := by rw [List.length_append, hvl, hN]; rfl
  obtain ⟨d0, d1, d2, dz, dl⟩ := hT3.cells
  rw [hv3] at d2
  have dh : w3.cell? ⟨wb, N, none⟩ = some (.slice none 0 0) := (hT3.own.cellAt N (by omega)).trans hl3
  have d4 : w4.cell? ⟨tb, 2, none⟩ = some (.slice (some ⟨wb, 0, none⟩) (N + 1) cp1) := (World.cell?_of_block (w := w3) (a := ⟨tb, 2, none⟩) ht4).trans d2
  obtain ⟨z4, hz4'⟩ := Option.isSome_iff_exists.1 hs4
  simp only [List.length_nil, Nat.zero_add, hr] at hrun4 hT5 hF5 hO5
  obtain ⟨e0, e1, e2, ez, el⟩ := hT5.cells
  have hv5 : ((vs ++ [Value.slice none 0 0]).set N (.slice ao' wi c')).length = N + 1 := by rw [List.length_set]; exact hv3
  rw [hv5] at e2
  have eh := (hT5.own.cellAt N (by omega)).trans (List.getElem?_set_self (by rw [hv3]; omega))
  have hrs : (rs ++ [[]]).set N ([] ++ r) = rs ++ [r] := by rw [← hN, List.set_append_right _ _ (Nat.le_refl _), Nat.sub_self]; rfl
  rw [hrs] at hT5
  have hFF : Fr (TOwn tb xo vs) w (w4.setCell ⟨wb, N, none⟩ (.slice ao' wi c')) := hF3.drew.trans hF5 (fun k hk hO => (hO3 k hO).elim id (fun h => absurd hk (by omega)))
  have hOO : ∀ k, TOwn tb (some ⟨wb, 0, none⟩) ((vs ++ [Value.slice none 0 0]).set N (.slice ao' wi c')) k → TOwn tb xo vs k ∨ w.heap.size ≤ k := fun k hk => (hO5 k hk).elim (hO3 k) (fun h => .inr (Nat.le_trans hF3.size h))
  obtain ⟨W5, hW5⟩ : ∃ W5, w4.setCell ⟨wb, N, none⟩ (.slice ao' wi c') = W5 := ⟨_, rfl⟩
  rw [hW5] at e0 e2 eh hT5 hFF
  have HR4 := hide hrun4
  have H5 := hide (And.intro hT5 (And.intro hFF hOO))
  clear hrun4 hT5 hF5 hO5 hT hx hr hb hT3 hF3 hO3 hs4 ht4 hw4 hl3 hr3 hv3 c0 c1 c2 hfz hFF hOO hrs hv5 e1 ez el
  have hNi : (N : Int) < (N : Int) + 1 := by omega
  have hq0 : ¬ wi = 0 := by omega
  have hq1 : Int.tdiv (wi : Int) (wi : Int) = 1 := Int.tdiv_self (by omega)
  go_region_law (refine step_app rfl (.tmp 34) (.tmp 35) 25 25 rfl _ _ _ (by simp [Act.eval]) (by simp [Act.eval]) (unhide HR4) ?_)
  all_goals
    go_wp2_with fail
    go_quiet (fail)
    go_wp2_with fail
  all_goals
    go_end0
    exact ⟨rfl, _, _, _, (unhide H5).1.of_blocks (fun _ _ => rfl), (unhide H5).2.1.drewN _, (unhide H5).2.2⟩
end Go.Proofs.YthccbfgjekdiiaaDoor

namespace Go.Proofs.YthccbfgjekdiiaaDoor
open Go.RowKit

/-- Some of a row's bytes. -/
theorem Ow.part {w : World} {base g cp : Nat} {l : List Nat} (h : Ow w base (some ⟨g, 0, none⟩) cp l) (J k : Nat) (hJ : J + k ≤ l.length) (hb : ∀ v ∈ l, v < 256) : Sl w (.slice (some ⟨g, J, none⟩) k (cp - J)) ((l.drop J).take k) := by
  have hl : ((l.drop J).take k).length = k := by rw [List.length_take, List.length_drop]; omega
  refine ⟨.inr (.inl ⟨g, J, cp - J, by rw [hl], fun j v hv => ?_⟩), fun _ _ _ e => ?_, .inr (fun g' o n c e => ?_), fun v hv => hb v (List.mem_of_mem_drop (List.mem_of_mem_take hv))⟩
  · have hj : j < k := by
      have := (List.getElem?_eq_some_iff.1 hv).1
      rw [cellsOf, List.length_map, hl] at this
      exact this
    rw [World.ownsRow.cellAt h (J + j) (by omega), ← hv]
    simp only [cellsOf, List.map_take, List.map_drop]
    rw [List.getElem?_take, if_pos hj, List.getElem?_drop]
  · simp only [Value.slice.injEq] at e
    have := h.cap
    omega
  · simp only [Value.slice.injEq, Option.some.injEq, Addr.mk.injEq] at e
    rw [← e.1.1]
    exact h.lt.2
/-- The jth root of a row. -/
def rwt (wi : Nat) (row : List Nat) (j : Nat) : List Nat := (row.drop (j * wi)).take wi
/-- The rows behind a root that is kept. -/
def kpb (wi : Nat) : List (List Nat) → List Nat → List (List Nat)
  | [], r => [r]
  | row :: rest, r =>
    if (row ++ r).length / wi % 2 = 0 then (row ++ r) :: kpb wi rest (nd wi (rwt wi (row ++ r) ((row ++ r).length / wi - 2)) (rwt wi (row ++ r) ((row ++ r).length / wi - 1)))
    else (row ++ r) :: rest
/-- What Tree.keep does from the height h on. -/
def KeepSays (wi base tb n N h : Nat) : Prop := ∀ (w : World) (xo : Option Addr) (cp : Nat) (vs : List Value) (rs : List (List Nat)) (yo : Option Addr) (yc : Nat) (r : List Nat), rs.length = N → TrAt w base tb wi n xo cp vs rs → GS w →
  (∀ w', Fr (TOwn tb xo vs) w w' → Src w' (.slice yo wi yc) r) → r.length = wi → (∀ v ∈ r, v < 256) → (∀ (j : Nat) row, h ≤ j → rs[j]? = some row → (∃ q, row.length = q * wi) ∧ row.length ≤ 1000000000000) →
  Calls Tryd.prog 51 #[.pointer (some ⟨tb, 0, none⟩), .int .i64 h, .slice yo wi yc] w fun e w' => e = .returned (.tuple #[]) ∧ ∃ xo' cp' vs', TrAt w' base tb wi n xo' cp' vs' (rs.take h ++ kpb wi (rs.drop h) r) ∧ Fr (TOwn tb xo vs) w w' ∧ ∀ k, TOwn tb xo' vs' k → TOwn tb xo vs k ∨ w.heap.size ≤ k
theorem keep_end (wi : Nat) (hw1 : 1 ≤ wi) (hw32 : wi ≤ 32) (base tb n N : Nat) (hN : N < 1000) : KeepSays wi base tb n N N := by
  intro w xo cp vs rs yo yc r hl hT _ hx hr hb _
  subst hl
  have := keep_last wi hw1 hw32 base tb n w xo cp vs rs yo yc r hT hx hr hb hN
  rw [List.take_length, List.drop_length, kpb]
  exact this
/-- What is known of the tree once the root lies in its row. -/
theorem keep_put (wi : Nat) (hw1 : 1 ≤ wi) (hw32 : wi ≤ 32) (base tb n N h : Nat) (hh : h < N) (w : World) (xo : Option Addr) (cp : Nat) (vs : List Value) (rs : List (List Nat)) (yo : Option Addr) (yc : Nat) (r : List Nat) (hl : rs.length = N) (hT : TrAt w base tb wi n xo cp vs rs)
    (hx : ∀ w', Fr (TOwn tb xo vs) w w' → Src w' (.slice yo wi yc) r) (hr : r.length = wi) (hb : ∀ v ∈ r, v < 256) (hrs : ∀ (j : Nat) row, h ≤ j → rs[j]? = some row → (∃ q, row.length = q * wi) ∧ row.length ≤ 1000000000000) :
    ∃ (wb : Nat) (ao : Option Addr) (R c q : Nat) (row : List Nat) (g c' : Nat) (w4 W5 : World), xo = some ⟨wb, 0, none⟩ ∧ rs[h]? = some row ∧ row.length = R ∧ R = q * wi ∧ R ≤ 1000000000000 ∧ vs[h]? = some (.slice ao R c) ∧
      (Builtin.append_ #[25, 25] 25 #[.slice ao R c, .slice yo wi yc]).run Tryd.prog w.drew = .ok (.slice (some ⟨g, 0, none⟩) (R + wi) c') w4 ∧
      w4.setCell ⟨wb, h, none⟩ (.slice (some ⟨g, 0, none⟩) (R + wi) c') = W5 ∧ (∃ z, w4.cell? ⟨wb, h, none⟩ = some z) ∧ w4.frozen? ⟨wb, h, none⟩ = false ∧ w4.cell? ⟨tb, 2, none⟩ = some (.slice (some ⟨wb, 0, none⟩) N cp) ∧
      w.cell? ⟨tb, 2, none⟩ = some (.slice (some ⟨wb, 0, none⟩) N cp) ∧ w.cell? ⟨wb, h, none⟩ = some (.slice ao R c) ∧
      W5.cell? ⟨tb, 0, none⟩ = some (.int .i64 wi) ∧ W5.cell? ⟨tb, 2, none⟩ = some (.slice (some ⟨wb, 0, none⟩) N cp) ∧ W5.cell? ⟨wb, h, none⟩ = some (.slice (some ⟨g, 0, none⟩) (R + wi) c') ∧
      Ow W5 base (some ⟨g, 0, none⟩) c' (row ++ r) ∧ TrAt W5 base tb wi n (some ⟨wb, 0, none⟩) cp (vs.set h (.slice (some ⟨g, 0, none⟩) (R + wi) c')) (rs.set h (row ++ r)) ∧
      Fr (TOwn tb xo vs) w W5 ∧ ∀ k, TOwn tb (some ⟨wb, 0, none⟩) (vs.set h (.slice (some ⟨g, 0, none⟩) (R + wi) c')) k → TOwn tb xo vs k ∨ w.heap.size ≤ k := by
  have hvl : vs.length = N := hT.len.trans hl
  have hv : vs[h]? = some vs[h] := List.getElem?_eq_getElem (by omega)
  have hrw : rs[h]? = some rs[h] := List.getElem?_eq_getElem (by omega)
  obtain ⟨ao, c, e, hO⟩ := hT.row h _ _ hv hrw
  rw [e] at hv
  obtain ⟨⟨q, hq⟩, hR⟩ := hrs h rs[h] (Nat.le_refl _) hrw
  obtain ⟨ao', c', w4, wb, hrun4, hxo, hs4, hz4, ht4, hw4, hT5, hF5, hO5⟩ := (hT.of_blocks (w' := w.drew) (fun _ _ => rfl)).put h ao c rs[h] hv hrw (.slice yo wi yc) r (hx _ (Fr.refl _ _).drew) hb (by omega)
  subst hxo
  rw [hr] at hrun4 hT5 hF5 hO5
  have hhv : h < vs.length := by omega
  obtain ⟨ao5, c5, e5, hO5'⟩ := hT5.row h _ _ (List.getElem?_set_self hhv) (List.getElem?_set_self (by omega))
  simp only [Value.slice.injEq] at e5
  obtain ⟨rfl, _, rfl⟩ := e5
  obtain ⟨g, rfl⟩ : ∃ g, ao' = some ⟨g, 0, none⟩ := by
    rcases hO5'.2 with ⟨_, e6⟩ | ⟨g, _, _, e6, _⟩
    · rw [List.length_append] at e6; omega
    · simp only [Value.slice.injEq] at e6
      exact ⟨g, e6.1⟩
  obtain ⟨e0, e1, e2, ez, el⟩ := hT5.cells
  rw [List.length_set, hvl] at e2
  obtain ⟨d0, d1, d2, dz, dl⟩ := hT.cells
  rw [hvl] at d2
  refine ⟨wb, ao, rs[h].length, c, q, rs[h], g, c', w4, _, rfl, hrw, rfl, hq, hR, hv, hrun4, rfl, Option.isSome_iff_exists.1 hs4, hz4, (World.cell?_of_block (w := w) (a := ⟨tb, 2, none⟩) ht4).trans d2, d2, (hT.own.cellAt h (by omega)).trans hv, e0, e2, ?_, hO5', hT5, (Fr.refl _ _).drew.trans hF5 (fun _ _ h => h), hO5⟩
  exact (hT5.own.cellAt h (by rw [List.length_set]; omega)).trans (List.getElem?_set_self hhv)
end Go.Proofs.YthccbfgjekdiiaaDoor

namespace Go.Proofs.YthccbfgjekdiiaaDoor
open Go.RowKit

/-- The calls of keep's last statement, behind the root. -/
theorem keep_rec (wi : Nat) (hw1 : 1 ≤ wi) (hw32 : wi ≤ 32) (base tb n N h : Nat) (hbase : 6 ≤ base) (hh : h < N) (IH : KeepSays wi base tb n N (h + 1)) (w : World) (wb cp : Nat) (vs : List Value) (rs : List (List Nat)) (r : List Nat) (g c' : Nat) (row : List Nat) (Q RW J1 J2 : Nat) (W5 : World)
    (hl : rs.length = N) (hg : GS w) (hr : r.length = wi) (hT5 : TrAt W5 base tb wi n (some ⟨wb, 0, none⟩) cp (vs.set h (.slice (some ⟨g, 0, none⟩) RW c')) (rs.set h (row ++ r))) (hF5 : Fr (TOwn tb (some ⟨wb, 0, none⟩) vs) w W5)
    (hOw : ∀ k, TOwn tb (some ⟨wb, 0, none⟩) (vs.set h (.slice (some ⟨g, 0, none⟩) RW c')) k → TOwn tb (some ⟨wb, 0, none⟩) vs k ∨ w.heap.size ≤ k) (hO5 : Ow W5 base (some ⟨g, 0, none⟩) c' (row ++ r))
    (hdrop : rs.drop h = row :: rs.drop (h + 1)) (hdiv : RW / wi = Q) (hRWl : (row ++ r).length = RW) (hRQ : RW = Q * wi) (hQ2 : 2 ≤ Q) (hp : Q % 2 = 0) (hJ1 : (Q - 2) * wi = J1) (hJ2 : (Q - 1) * wi = J2)
    (hT : TrAt w base tb wi n (some ⟨wb, 0, none⟩) cp vs rs) (hrs : ∀ (j : Nat) row, h ≤ j → rs[j]? = some row → (∃ q, row.length = q * wi) ∧ row.length ≤ 1000000000000)
    (e0 : W5.cell? ⟨tb, 0, none⟩ = some (.int .i64 wi)) (e2 : W5.cell? ⟨tb, 2, none⟩ = some (.slice (some ⟨wb, 0, none⟩) N cp)) (eh : W5.cell? ⟨wb, h, none⟩ = some (.slice (some ⟨g, 0, none⟩) RW c')) (hcap5 : RW ≤ c') (hcb : RW < 4611686018427387904) (hQb : Q ≤ 2000000000000) :
    (∀ w', Fr (fun _ => False) W5 w' → Calls Tryd.prog 80 #[.pointer (some ⟨tb, 0, none⟩), .int .i64 h, .int .i64 ((Q : Int) - 2)] w' fun e w'' => e = .returned (.slice (some ⟨g, J1, none⟩) wi (c' - J1)) ∧ Fr (fun _ => False) w' w'') ∧
    (∀ w', Fr (fun _ => False) W5 w' → Calls Tryd.prog 80 #[.pointer (some ⟨tb, 0, none⟩), .int .i64 h, .int .i64 ((Q : Int) - 1)] w' fun e w'' => e = .returned (.slice (some ⟨g, J2, none⟩) wi (c' - J2)) ∧ Fr (fun _ => False) w' w'') ∧
    (∀ w', Fr (fun _ => False) W5 w' → Calls Tryd.prog 62 #[.int .i64 wi, .slice (some ⟨g, J1, none⟩) wi (c' - J1), .slice (some ⟨g, J2, none⟩) wi (c' - J2)] w' fun e w'' => ∃ zo, e = .returned (.slice zo wi wi) ∧ OB w' w'' zo wi (nd wi (rwt wi (row ++ r) (Q - 2)) (rwt wi (row ++ r) (Q - 1)))) ∧
    (∀ w' wC zo, Fr (fun _ => False) W5 w' → OB w' wC zo wi (nd wi (rwt wi (row ++ r) (Q - 2)) (rwt wi (row ++ r) (Q - 1))) → Calls Tryd.prog 51 #[.pointer (some ⟨tb, 0, none⟩), .int .i64 ((h : Int) + 1), .slice zo wi wi] wC fun e w' => e = .returned (.tuple #[]) ∧ w'.cell? ⟨tb, 0, none⟩ = some (.int .i64 wi) ∧
      ∃ xo' cp' vs', TrAt w' base tb wi n xo' cp' vs' (rs.take h ++ kpb wi (rs.drop h) r) ∧ Fr (TOwn tb (some ⟨wb, 0, none⟩) vs) w w' ∧ ∀ k, TOwn tb xo' vs' k → TOwn tb (some ⟨wb, 0, none⟩) vs k ∨ w.heap.size ≤ k) := by
  have hm1 : J1 + wi = J2 := by rw [← hJ1, ← hJ2, ← Nat.succ_mul]; congr 1; omega
  have hm2 : J2 + wi = RW := by rw [hRQ, ← hJ2, ← Nat.succ_mul]; congr 1; omega
  have hi2 : (Q : Int) - 2 = ((Q - 2 : Nat) : Int) := by omega
  have hi1 : (Q : Int) - 1 = ((Q - 1 : Nat) : Int) := by omega
  have hbyt : ∀ v ∈ row ++ r, v < 256 := hT5.byt _ (List.mem_of_getElem? (List.getElem?_set_self (by omega)))
  have hnl : ∀ a b, (nd (wi : Int) a b).length = wi := fun a b => by
    have := sm_len (i := (wi : Int)) (m := 1 :: (a ++ b)) ⟨by omega, by omega⟩
    simpa [nd] using this
  have hgs : GS W5 := hg.fr hF5 (fun k hk hO => by have := (hT.lt k hO).1; omega)
  have lt0 := lt_of_cell e0
  have lt2 := lt_of_cell e2
  have lth := lt_of_cell eh
  refine ⟨fun w' hf => ?_, fun w' hf => ?_, fun w' hf => ?_, fun wA wC zo hfA oC => ?_⟩
  · rw [hi2]
    refine (kept_any tb wb cp g h (Q - 2) wi N RW c' J1 w' ((hf.cell lt0 (fun h => h)).trans e0) ((hf.cell lt2 (fun h => h)).trans e2) ((hf.cell lth (fun h => h)).trans eh) hh hJ1 (by omega) hcap5 hcb (by omega) hw1).mono ?_
    rintro e w'' ⟨rfl, q, rfl⟩
    exact ⟨rfl, (Fr.refl _ _).drewN q⟩
  · rw [hi1]
    refine (kept_any tb wb cp g h (Q - 1) wi N RW c' J2 w' ((hf.cell lt0 (fun h => h)).trans e0) ((hf.cell lt2 (fun h => h)).trans e2) ((hf.cell lth (fun h => h)).trans eh) hh hJ2 (by omega) hcap5 hcb (by omega) hw1).mono ?_
    rintro e w'' ⟨rfl, q, rfl⟩
    exact ⟨rfl, (Fr.refl _ _).drewN q⟩
  · have p1 := (hO5.part J1 wi (by omega) hbyt).fr0 hf
    have p2 := (hO5.part J2 wi (by omega) hbyt).fr0 hf
    refine (node_any (wi : Int) _ _ _ _ w' (hgs.fr0 hf) p1 p2 (by rw [List.length_take]; omega) (by rw [List.length_take]; omega)).mono ?_
    rintro e w'' ⟨zo, rfl, hO⟩
    rw [hnl] at hO
    refine ⟨zo, by rw [hnl], ?_⟩
    rw [rwt, rwt, hJ1, hJ2]
    exact hO
  · have hnlen := hnl (rwt wi (row ++ r) (Q - 2)) (rwt wi (row ++ r) (Q - 1))
    have hFC : Fr (fun _ => False) W5 wC := hfA.trans oC.fr (fun _ _ h => h)
    have hTC : TrAt wC base tb wi n (some ⟨wb, 0, none⟩) cp (vs.set h (.slice (some ⟨g, 0, none⟩) RW c')) (rs.set h (row ++ r)) := hT5.fr hFC (fun _ _ h => h)
    have := IH wC _ cp _ (rs.set h (row ++ r)) zo wi (nd wi (rwt wi (row ++ r) (Q - 2)) (rwt wi (row ++ r) (Q - 1))) (by rw [List.length_set]; exact hl) hTC (hgs.fr0 hFC) (fun w' hf => by
        have hs := oC.src
        rw [hnlen] at hs
        refine hs.fr hf (fun g' o' m' c'' e hO => ?_)
        have h1 := oC.own.lt g' (by rw [hnlen, e]; rfl)
        have h2 := (hT5.lt g' hO).2
        have h3 := hfA.size
        omega) hnlen (nd_lt _ _ _) (fun j q hj hq => by
        rw [List.getElem?_set_ne (by omega)] at hq
        exact hrs j q (by omega) hq)
    have hi : ((h + 1 : Nat) : Int) = (h : Int) + 1 := by omega
    rw [hi] at this
    refine this.mono ?_
    rintro e w' ⟨rfl, xo', cp', vs', hT', hF', hO'⟩
    refine ⟨rfl, hT'.cells.1, xo', cp', vs', ?_, ?_, fun k hk => ?_⟩
    · have hset : rs.take h ++ kpb wi (rs.drop h) r = (rs.set h (row ++ r)).take (h + 1) ++ kpb wi ((rs.set h (row ++ r)).drop (h + 1)) (nd wi (rwt wi (row ++ r) (Q - 2)) (rwt wi (row ++ r) (Q - 1))) := by
        rw [hdrop, kpb, if_pos (by rw [hRWl, hdiv]; exact hp), hRWl, hdiv, List.set_eq_take_append_cons_drop, if_pos (by omega)]
        have ht : (rs.take h).length = h := by rw [List.length_take]; omega
        rw [List.take_append, List.drop_append, ht, List.take_of_length_le (l := rs.take h) (by omega), List.drop_of_length_le (l := rs.take h) (by omega), show h + 1 - h = 1 by omega]
        simp
      rw [hset]; exact hT'
    · exact (hF5.trans hFC (fun _ _ h => h.elim)).trans hF' (fun k hk hO => (hOw k hO).elim id (fun h => absurd hk (by omega)))
    · rcases hO' k hk with h1 | h1
      · exact hOw k h1
      · exact .inr (Nat.le_trans (Nat.le_trans hF5.size hFC.size) h1)
set_option maxRecDepth 100000 in
set_option maxHeartbeats 1000000 in
/-- Tree.keep at a row that is there. -/
theorem keep_odd (wi : Nat) (hw1 : 1 ≤ wi) (hw32 : wi ≤ 32) (base tb n N h : Nat) (hh : h < N) (w : World) (xo : Option Addr) (cp : Nat) (vs : List Value) (rs : List (List Nat)) (yo : Option Addr) (yc : Nat) (r : List Nat) (hl : rs.length = N) (hT : TrAt w base tb wi n xo cp vs rs)
    (hx : ∀ w', Fr (TOwn tb xo vs) w w' → Src w' (.slice yo wi yc) r) (hr : r.length = wi) (hb : ∀ v ∈ r, v < 256) (hrs : ∀ (j : Nat) row, h ≤ j → rs[j]? = some row → (∃ q, row.length = q * wi) ∧ row.length ≤ 1000000000000) (hodd : ∀ row, rs[h]? = some row → ¬ (row.length / wi + 1) % 2 = 0) :
    Calls Tryd.prog 51 #[.pointer (some ⟨tb, 0, none⟩), .int .i64 h, .slice yo wi yc] w fun e w' => e = .returned (.tuple #[]) ∧ ∃ xo' cp' vs', TrAt w' base tb wi n xo' cp' vs' (rs.take h ++ kpb wi (rs.drop h) r) ∧ Fr (TOwn tb xo vs) w w' ∧ ∀ k, TOwn tb xo' vs' k → TOwn tb xo vs k ∨ w.heap.size ≤ k := by
  obtain ⟨wb, ao, R, c, q, row, g, c', w4, W5, rfl, hrw, hrl, hq, hR, hv, hrun4, hW5, ⟨z4, hz4'⟩, hz4, d4, d2, dh, e0, e2, eh, hO5, hT5, hF5, hOw⟩ := keep_put wi hw1 hw32 base tb n N h hh w xo cp vs rs yo yc r hl hT hx hr hb hrs
  have hoq := hodd row hrw
  rw [hrl, hq, Nat.mul_div_cancel _ hw1] at hoq
  clear hodd
  obtain ⟨RW, hRW⟩ : ∃ RW, R + wi = RW := ⟨_, rfl⟩
  rw [hRW] at hrun4 hW5 eh hT5 hOw
  have hRWl : (row ++ r).length = RW := by rw [List.length_append, hrl, hr, hRW]
  obtain ⟨Q, hQ⟩ : ∃ Q, q + 1 = Q := ⟨_, rfl⟩
  have hRQ : RW = Q * wi := by rw [← hRW, hq, ← hQ, Nat.add_mul, Nat.one_mul]
  have hdiv : RW / wi = Q := by rw [hRQ]; exact Nat.mul_div_cancel _ hw1
  have hdrop : rs.drop h = row :: rs.drop (h + 1) := by
    obtain ⟨hlt, e⟩ := List.getElem?_eq_some_iff.1 hrw
    rw [← e]; exact List.drop_eq_getElem_cons hlt
  have hcap5 : RW ≤ c' := by rw [← hRWl]; exact hO5.cap
  have hQb : Q ≤ 2000000000000 := by
    have : Q * 1 ≤ Q * wi := Nat.mul_le_mul_left _ hw1
    omega
  have hnhi : ¬ (h : Int) = (N : Int) := by omega
  have hlti : (h : Int) < (N : Int) := by omega
  have hq0 : ¬ wi = 0 := by omega
  have hq1 : Int.tdiv (RW : Int) (wi : Int) = (Q : Int) := by
    rw [Int.tdiv_eq_ediv_of_nonneg (by omega), ← hdiv]; rfl
  have hqw : IntKind.i64.wrap (Q : Int) = (Q : Int) := by rw [IntKind.wrap_i64]; omega
  have HG := hide (And.intro hT (And.intro hT5 (And.intro hF5 (And.intro hOw (And.intro hO5 (And.intro hdrop (And.intro hdiv hRWl)))))))
  have HR4 := hide hrun4
  clear hT hT5 hF5 hOw hO5 hdrop hrun4 hx hb hrs hrw hv hq hRQ hRW hRWl hdiv hrl
  have hp : ¬ Q % 2 = 0 := by rw [← hQ]; exact hoq
  clear hoq
  have hq2 : Int.tmod (Q : Int) 2 = 1 := by rw [Int.tmod_eq_emod_of_nonneg (by omega)]; omega
  go_enter Tryd.func51, Tryd.ntmps51
  go_wp2_with fail
  go_region_law (refine step_app rfl (.tmp 34) (.tmp 35) 25 25 rfl _ _ _ (by simp [Act.eval]) (by simp [Act.eval]) (unhide HR4) ?_)
  all_goals
    go_wp2_with fail
    go_quiet (fail)
    go_wp2_with fail
  all_goals
    go_end0
    obtain ⟨hT, hT5, hF5, hOw, hO5, hdrop, hdiv, hRWl⟩ := unhide HG
    have hset : rs.take h ++ kpb wi (rs.drop h) r = rs.set h (row ++ r) := by
      rw [hdrop, kpb, if_neg (by rw [hRWl, hdiv]; exact hp), List.set_eq_take_append_cons_drop, if_pos (by omega)]
    rw [hset]
    exact ⟨rfl, _, _, _, hT5.of_blocks (fun _ _ => rfl), hF5.drewN _, hOw⟩
end Go.Proofs.YthccbfgjekdiiaaDoor

namespace Go.Proofs.YthccbfgjekdiiaaDoor
open Go.RowKit

set_option maxRecDepth 100000 in
set_option maxHeartbeats 1000000 in
/-- Tree.keep at a row that is there and gets a pair whole. -/
theorem keep_even (wi : Nat) (hw1 : 1 ≤ wi) (hw32 : wi ≤ 32) (base tb n N h : Nat) (hbase : 6 ≤ base) (hN : N < 1000) (hh : h < N) (IH : KeepSays wi base tb n N (h + 1)) (w : World) (xo : Option Addr) (cp : Nat) (vs : List Value) (rs : List (List Nat)) (yo : Option Addr) (yc : Nat) (r : List Nat) (hl : rs.length = N) (hgs : GS w) (hT : TrAt w base tb wi n xo cp vs rs)
    (hx : ∀ w', Fr (TOwn tb xo vs) w w' → Src w' (.slice yo wi yc) r) (hr : r.length = wi) (hb : ∀ v ∈ r, v < 256) (hrs : ∀ (j : Nat) row, h ≤ j → rs[j]? = some row → (∃ q, row.length = q * wi) ∧ row.length ≤ 1000000000000) (heven : ∀ row, rs[h]? = some row → (row.length / wi + 1) % 2 = 0) :
    Calls Tryd.prog 51 #[.pointer (some ⟨tb, 0, none⟩), .int .i64 h, .slice yo wi yc] w fun e w' => e = .returned (.tuple #[]) ∧ ∃ xo' cp' vs', TrAt w' base tb wi n xo' cp' vs' (rs.take h ++ kpb wi (rs.drop h) r) ∧ Fr (TOwn tb xo vs) w w' ∧ ∀ k, TOwn tb xo' vs' k → TOwn tb xo vs k ∨ w.heap.size ≤ k := by
  obtain ⟨wb, ao, R, c, q, row, g, c', w4, W5, rfl, hrw, hrl, hq, hR, hv, hrun4, hW5, ⟨z4, hz4'⟩, hz4, d4, d2, dh, e0, e2, eh, hO5, hT5, hF5, hOw⟩ := keep_put wi hw1 hw32 base tb n N h hh w xo cp vs rs yo yc r hl hT hx hr hb hrs
  have hoq := heven row hrw
  rw [hrl, hq, Nat.mul_div_cancel _ hw1] at hoq
  clear heven
  obtain ⟨RW, hRW⟩ : ∃ RW, R + wi = RW := ⟨_, rfl⟩
  rw [hRW] at hrun4 hW5 eh hT5 hOw
  have hRWl : (row ++ r).length = RW := by rw [List.length_append, hrl, hr, hRW]
  obtain ⟨Q, hQ⟩ : ∃ Q, q + 1 = Q := ⟨_, rfl⟩
  have hRQ : RW = Q * wi := by rw [← hRW, hq, ← hQ, Nat.add_mul, Nat.one_mul]
  have hdiv : RW / wi = Q := by rw [hRQ]; exact Nat.mul_div_cancel _ hw1
  have hdrop : rs.drop h = row :: rs.drop (h + 1) := by
    obtain ⟨hlt, e⟩ := List.getElem?_eq_some_iff.1 hrw
    rw [← e]; exact List.drop_eq_getElem_cons hlt
  have hcap5 : RW ≤ c' := by rw [← hRWl]; exact hO5.cap
  have hQb : Q ≤ 2000000000000 := by
    have : Q * 1 ≤ Q * wi := Nat.mul_le_mul_left _ hw1
    omega
  have hnhi : ¬ (h : Int) = (N : Int) := by omega
  have hlti : (h : Int) < (N : Int) := by omega
  have hq0 : ¬ wi = 0 := by omega
  have hq1 : Int.tdiv (RW : Int) (wi : Int) = (Q : Int) := by
    rw [Int.tdiv_eq_ediv_of_nonneg (by omega), ← hdiv]; rfl
  have hqw : IntKind.i64.wrap (Q : Int) = (Q : Int) := by rw [IntKind.wrap_i64]; omega
  have hp : Q % 2 = 0 := by rw [← hQ]; exact hoq
  have hQ2 : 2 ≤ Q := by omega
  have HK := hide (keep_rec wi hw1 hw32 base tb n N h hbase hh IH w wb cp vs rs r g c' row Q RW _ _ W5 hl hgs hr hT5 hF5 hOw hO5 hdrop hdiv hRWl hRQ hQ2 hp rfl rfl hT hrs e0 e2 eh hcap5 (by omega) hQb)
  have HR4 := hide hrun4
  have hq2 : Int.tmod (Q : Int) 2 = 0 := by rw [Int.tmod_eq_emod_of_nonneg (by omega)]; omega
  have hi2 : IntKind.i64.wrap ((Q : Int) - 2) = (Q : Int) - 2 := by rw [IntKind.wrap_i64]; omega
  have hi1 : IntKind.i64.wrap ((Q : Int) - 1) = (Q : Int) - 1 := by rw [IntKind.wrap_i64]; omega
  have hih : IntKind.i64.wrap ((h : Int) + 1) = (h : Int) + 1 := by rw [IntKind.wrap_i64]; omega
  generalize (Q - 2) * wi = J1 at *
  generalize (Q - 1) * wi = J2 at *
  generalize nd wi (rwt wi (row ++ r) (Q - 2)) (rwt wi (row ++ r) (Q - 1)) = ND at *
  have lt0 := lt_of_cell e0
  clear hT hT5 hF5 hOw hO5 hdrop hrun4 hx hb hrs hrw hv hq hRQ hRW hRWl hdiv hrl hp hoq hQ2 IH hgs
  go_enter Tryd.func51, Tryd.ntmps51
  go_wp2_with fail
  go_region_law (refine step_app rfl (.tmp 34) (.tmp 35) 25 25 rfl _ _ _ (by simp [Act.eval]) (by simp [Act.eval]) (unhide HR4) ?_)
  all_goals
    go_wp2_with fail
    go_quiet (fail)
    go_wp2_with fail
  all_goals
    have T1 : True := trivial
    go_region_held3 (fun w' => w'.cell? ⟨tb, 0, none⟩ = some (.int .i64 wi)) (first | assumption | (simp only [World.cell?_drew, World.cell?_drewN]; assumption) | exact (fC.cell (p := ⟨tb, 0, none⟩) lt0 (fun h => h)).trans e0 | exact (fB.cell (p := ⟨tb, 0, none⟩) lt0 (fun h => h)).trans e0 | exact (fA.cell (p := ⟨tb, 0, none⟩) lt0 (fun h => h)).trans e0)
      (first
        | (go_at_call 80; clear T1; refine ((unhide HK).1 _ (by first | exact (Fr.refl _ _).drew | exact ((Fr.refl _ _).drewN _).drew | exact (Fr.refl _ _).drewN _ | exact ((Fr.refl _ _).drew).drewN _)).mono ?_; rintro e wA ⟨rfl, hA⟩; have fA : Fr (fun _ => False) W5 wA := ((Fr.refl _ _).drewN _).trans hA (fun _ _ h => h))
        | (go_at_call 80; refine ((unhide HK).2.1 _ fA).mono ?_; rintro e wB ⟨rfl, hB⟩; have fB : Fr (fun _ => False) W5 wB := fA.trans hB (fun _ _ h => h))
        | (go_at_call 62; refine ((unhide HK).2.2.1 _ fB).mono ?_; rintro e wC ⟨zo, rfl, oC⟩; have fC : Fr (fun _ => False) W5 wC := fB.trans oC.fr (fun _ _ h => h))
        | (go_at_call 51; refine ((unhide HK).2.2.2 _ _ _ fB oC).mono ?_; rintro e wD ⟨rfl, eD, hD⟩))
    have HD := hide hD
    clear hD
    go_wp2_with fail
    go_end0
    exact ⟨rfl, unhide HD⟩
/-- Tree.keep. -/
theorem keep_any (wi : Nat) (hw1 : 1 ≤ wi) (hw32 : wi ≤ 32) (base tb n N : Nat) (hbase : 6 ≤ base) (hN : N < 1000) (d : Nat) : ∀ h, h + d = N → KeepSays wi base tb n N h := by
  induction d with
  | zero =>
    intro h hh
    have e : h = N := by omega
    subst e
    exact keep_end wi hw1 hw32 base tb n h hN
  | succ d ih =>
    intro h hh w xo cp vs rs yo yc r hl hT hg hx hr hb hrs
    have hhN : h < N := by omega
    by_cases hp : (rs[h]'(by omega)).length / wi % 2 = 1
    · exact keep_even wi hw1 hw32 base tb n N h hbase hN hhN (ih (h + 1) (by omega)) w xo cp vs rs yo yc r hl hg hT hx hr hb hrs (fun row hrow => by
        rw [List.getElem?_eq_getElem (by omega)] at hrow
        cases hrow
        omega)
    · exact keep_odd wi hw1 hw32 base tb n N h hhN w xo cp vs rs yo yc r hl hT hx hr hb hrs (fun row hrow => by
        rw [List.getElem?_eq_getElem (by omega)] at hrow
        cases hrow
        omega)
end Go.Proofs.YthccbfgjekdiiaaDoor

