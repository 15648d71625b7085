import Derived.Test.YthccbfgjekdiiaaDoorMbd
namespace Go.Proofs.YthccbfgjekdiiaaDoor
open Go.RowKit

theorem TrAt.of_blocks {w w' : World} {base tb : Nat} {wi : Int} {n : Nat} {xo : Option Addr} {cp : Nat} {vs : List Value} {rs : List (List Nat)} (h : TrAt w base tb wi n xo cp vs rs)
    (hb : ∀ k, TOwn tb xo vs k → w'.heap[k]? = w.heap[k]?) : TrAt w' base tb wi n xo cp vs rs := by
  refine ⟨h.lo, (hb tb (.inl rfl)).trans h.obj, ownsRow_of_block h.own (fun g hg => hb g ?_), h.len, fun j v r hv hr => ?_, h.apart, h.byt⟩
  · rcases h.own.2 with ⟨e, _⟩ | ⟨g', cap, cur, e, _⟩
    · rw [e] at hg; cases hg
    · rw [e] at hg
      simp only [Value.ownBlock, Option.some.injEq] at hg
      simp only [Value.slice.injEq] at e
      exact .inr (.inl ⟨0, by rw [e.1, hg]⟩)
  · obtain ⟨ao, c, e, hO⟩ := h.row j v r hv hr
    exact ⟨ao, c, e, ownsRow_of_block hO (fun g hg => hb g (.inr (.inr ⟨v, List.mem_of_getElem? hv, by rw [e]; exact hg⟩)))⟩
theorem TrAt.fr {w w' : World} {base tb : Nat} {wi : Int} {n : Nat} {xo : Option Addr} {cp : Nat} {vs : List Value} {rs : List (List Nat)} (h : TrAt w base tb wi n xo cp vs rs) {S : Nat → Prop}
    (hf : Fr S w w') (hS : ∀ k, TOwn tb xo vs k → ¬ S k) : TrAt w' base tb wi n xo cp vs rs := by
  refine h.of_blocks fun k hk => hf.block k ?_ (hS k hk)
  rcases hk with rfl | ⟨o, rfl⟩ | ⟨v, hv, hk⟩
  · exact h.cells.2.2.2.2
  · exact (h.own.lt k rfl).2
  · obtain ⟨j, hj, rfl⟩ := List.getElem_of_mem hv
    obtain ⟨ao, c, e, hO⟩ := h.row j vs[j] (rs[j]'(by have := h.len; omega)) (List.getElem?_eq_getElem hj) (List.getElem?_eq_getElem _)
    rw [e] at hk
    exact (World.ownsRow.lt hO k hk).2
theorem TrAt.lt {w : World} {base tb : Nat} {wi : Int} {n : Nat} {xo : Option Addr} {cp : Nat} {vs : List Value} {rs : List (List Nat)} (h : TrAt w base tb wi n xo cp vs rs) (k : Nat) (hk : TOwn tb xo vs k) : base ≤ k ∧ k < w.heap.size := by
  rcases hk with rfl | ⟨o, rfl⟩ | ⟨v, hv, hk⟩
  · exact ⟨h.lo, h.cells.2.2.2.2⟩
  · exact h.own.lt k rfl
  · obtain ⟨j, hj, rfl⟩ := List.getElem_of_mem hv
    obtain ⟨ao, c, e, hO⟩ := h.row j vs[j] (rs[j]'(by have := h.len; omega)) (List.getElem?_eq_getElem hj) (List.getElem?_eq_getElem _)
    rw [e] at hk
    exact World.ownsRow.lt hO k hk
/-- A row more, with nothing in it. -/
theorem TrAt.push {w : World} {base tb : Nat} {wi : Int} {n : Nat} {xo : Option Addr} {cp : Nat} {vs : List Value} {rs : List (List Nat)} (h : TrAt w base tb wi n xo cp vs rs) (hb : vs.length < 16000000) :
    ∃ ao cp' w2, (Builtin.append_ #[22, 22] 22 #[.slice xo vs.length cp, .slice (some ⟨w.heap.size, 0, none⟩) 1 1]).run Tryd.prog (w.alloc (.cells #[.slice none 0 0] 25)) = .ok (.slice ao (vs.length + 1) cp') w2 ∧
      (w2.cell? ⟨tb, 2, none⟩).isSome = true ∧ w2.frozen? ⟨tb, 2, none⟩ = false ∧
      TrAt (w2.setCell ⟨tb, 2, none⟩ (.slice ao (vs.length + 1) cp')) base tb wi n ao cp' (vs ++ [.slice none 0 0]) (rs ++ [[]]) ∧
      Fr (TOwn tb xo vs) w (w2.setCell ⟨tb, 2, none⟩ (.slice ao (vs.length + 1) cp')) ∧ ∀ k, TOwn tb ao (vs ++ [.slice none 0 0]) k → TOwn tb xo vs k ∨ w.heap.size ≤ k := by
  obtain ⟨i0, hi, hz0, hz1, hz2⟩ := info_parts Tryd.infoSl
  have hne := h.ne
  have hlt := h.lt
  have hsz : base ≤ w.heap.size := Nat.le_trans h.lo (Nat.le_of_lt h.cells.2.2.2.2)
  have hxb : ∀ g, (Value.slice xo vs.length cp).ownBlock = some g → TOwn tb xo vs g ∧ g ≠ tb := by
    intro g hg
    rcases h.own.2 with ⟨e, _⟩ | ⟨g', cap, cur, e, _⟩
    · rw [e] at hg; cases hg
    · rw [e] at hg
      simp only [Value.ownBlock, Option.some.injEq] at hg
      simp only [Value.slice.injEq] at e
      have ex : xo = some ⟨g, 0, none⟩ := by rw [e.1, hg]
      exact ⟨.inr (.inl ⟨0, ex⟩), hne.1 g 0 ex⟩
  have h2 : (w.alloc (.cells #[.slice none 0 0] 25)).ownsRow base 25 1 (.slice xo vs.length cp) vs.length vs := h.own.alloc _
  obtain ⟨v', w', hr, h3, h4, _, h5⟩ := run_append_own_at (P := Tryd.prog) (w.alloc (.cells #[.slice none 0 0] 25)) base 22 22 25 i0 (.slice none 0 0) 1 24 Tryd.underlying22 hi hz0 hz1 hz2 rfl (by decide) (.slice xo vs.length cp) vs.length vs h2 ⟨w.heap.size, 0, none⟩ 1 1 [.slice none 0 0] rfl (fun j u hu => by
    rw [add_at, World.cell?_alloc_at _ _ _ _ rfl]; simpa using hu) (fun u hu => by simp at hu; subst hu; rfl) (by simp only [maxLen]; omega) (by omega) (by simp; omega)
  have hf : ∃ g cap, v' = .slice (some ⟨g, 0, none⟩) (vs.length + 1) cap := by
    rcases h3.2 with ⟨_, e⟩ | ⟨g, cap, cur, rfl, _⟩
    · omega
    · exact ⟨g, cap, rfl⟩
  obtain ⟨g, cap, rfl⟩ := hf
  have hgo : g ≠ tb ∧ (TOwn tb xo vs g ∨ w.heap.size ≤ g) := by
    rcases h5 with h5 | h5
    · have := hxb g h5.symm
      exact ⟨this.2, .inl this.1⟩
    · simp only [Value.ownBlock, Option.some.injEq] at h5
      have := h.cells.2.2.2.2
      simp at h5
      exact ⟨by omega, .inr (by omega)⟩
  have hgb : ∀ k, k < w.heap.size → (∀ o, xo ≠ some ⟨k, o, none⟩) → w'.heap[k]? = w.heap[k]? := fun k hk hx => by
    refine (h4.block k (by simp; omega) (fun e => ?_)).trans (Below.heap_alloc _ _ _ hk)
    rcases h.own.2 with ⟨e', _⟩ | ⟨g', cap', cur, e', _⟩
    · rw [e'] at e; cases e
    · rw [e'] at e
      simp only [Value.ownBlock, Option.some.injEq] at e
      simp only [Value.slice.injEq] at e'
      exact hx 0 (by rw [e'.1, e])
  have htb : w'.heap[tb]? = some (.cells #[.int .i64 wi, .int .i64 n, .slice xo vs.length cp] 72 (0, 0)) := (hgb tb h.cells.2.2.2.2 (fun o e => hne.1 tb o e rfl)).trans h.obj
  have hF : Fr (TOwn tb xo vs) w w' := ((Fr.refl _ _).alloc _).grown h4 (fun k hk => .inl (hxb k hk).1)
  refine ⟨some ⟨g, 0, none⟩, cap, w', hr, by simp [World.cell?, htb], by simp [World.frozen?, htb], ⟨h.lo, ?_, ?_, by simp [h.len], fun j v r hv hr => ?_, fun j j' v v' q q' hj hv hv' hq hq' => ?_, fun r hr => ?_⟩, hF.setCell (.inl (.inl rfl)) _, fun k hk => ?_⟩
  · rw [heap_setCell_same _ _ _ _ _ _ htb, List.length_append]; rfl
  · rw [List.length_append]
    refine ownsRow_of_block h3 (fun q hq => ?_)
    simp only [Value.ownBlock, Option.some.injEq] at hq
    exact heap_setCell_other _ _ _ _ (by rw [← hq]; exact hgo.1)
  · by_cases hjl : j < vs.length
    · rw [List.getElem?_append_left hjl] at hv
      rw [List.getElem?_append_left (by rw [← h.len]; exact hjl)] at hr
      obtain ⟨ao, c, e, hO⟩ := h.row j v r hv hr
      refine ⟨ao, c, e, ownsRow_of_block hO (fun q hq => ?_)⟩
      have hn := hne.2 v (List.mem_of_getElem? hv) q (by rw [e]; exact hq)
      rw [heap_setCell_other _ _ _ _ hn.1]
      exact hgb q (World.ownsRow.lt hO q hq).2 (fun o ex => hn.2 q o ex rfl)
    · have hj : j = vs.length := by
        have := (List.getElem?_eq_some_iff.1 hv).1
        simp at this; omega
      subst hj
      rw [List.getElem?_append_right (Nat.le_refl _), Nat.sub_self] at hv
      rw [List.getElem?_append_right (by rw [h.len]; exact Nat.le_refl _), h.len, Nat.sub_self] at hr
      simp at hv hr
      subst hv hr
      exact ⟨none, 0, rfl, World.ownsRow_nil _ _ _ _⟩
  · have hin : ∀ (j : Nat) v q, (vs ++ [.slice none 0 0])[j]? = some v → v.ownBlock = some q → vs[j]? = some v := fun j v q hv hq => by
      by_cases hjl : j < vs.length
      · rwa [List.getElem?_append_left hjl] at hv
      · have hj : j = vs.length := by
          have := (List.getElem?_eq_some_iff.1 hv).1
          simp at this; omega
        subst hj
        rw [List.getElem?_append_right (Nat.le_refl _), Nat.sub_self] at hv
        simp at hv
        subst hv
        cases hq
    exact h.apart j j' v v' q q' hj (hin j v q hv hq) (hin j' v' q' hv' hq') hq hq'
  · rcases List.mem_append.1 hr with hr | hr
    · exact h.byt r hr
    · simp at hr; subst hr; simp
  · rcases hk with rfl | ⟨o, e⟩ | ⟨v, hv, hk⟩
    · exact .inl (.inl rfl)
    · simp only [Option.some.injEq, Addr.mk.injEq] at e
      rw [← e.1]; exact hgo.2
    · rcases List.mem_append.1 hv with hv | hv
      · exact .inl (.inr (.inr ⟨v, hv, hk⟩))
      · simp at hv; subst hv; cases hk
/-- Bytes put behind a row's. -/
theorem TrAt.put {w : World} {base tb : Nat} {wi : Int} {n : Nat} {xo : Option Addr} {cp : Nat} {vs : List Value} {rs : List (List Nat)} (h : TrAt w base tb wi n xo cp vs rs) (j : Nat) (ao : Option Addr) (c : Nat) (r : List Nat)
    (hv : vs[j]? = some (.slice ao r.length c)) (hr : rs[j]? = some r) (x : Value) (b : List Nat) (hx : Src w x b) (hbb : ∀ v ∈ b, v < 256) (hl : r.length + b.length ≤ 140737488355328) :
    ∃ ao' c' w2 wb, (Builtin.append_ #[25, 25] 25 #[.slice ao r.length c, x]).run Tryd.prog w = .ok (.slice ao' (r.length + b.length) c') w2 ∧
      xo = some ⟨wb, 0, none⟩ ∧ (w2.cell? ⟨wb, j, none⟩).isSome = true ∧ w2.frozen? ⟨wb, j, none⟩ = false ∧ w2.heap[tb]? = w.heap[tb]? ∧ w2.heap[wb]? = w.heap[wb]? ∧
      TrAt (w2.setCell ⟨wb, j, none⟩ (.slice ao' (r.length + b.length) c')) base tb wi n xo cp (vs.set j (.slice ao' (r.length + b.length) c')) (rs.set j (r ++ b)) ∧
      Fr (TOwn tb xo vs) w (w2.setCell ⟨wb, j, none⟩ (.slice ao' (r.length + b.length) c')) ∧ ∀ k, TOwn tb xo (vs.set j (.slice ao' (r.length + b.length) c')) k → TOwn tb xo vs k ∨ w.heap.size ≤ k := by
  have hne := h.ne
  have hlt := h.lt
  have hsz : base ≤ w.heap.size := Nat.le_trans h.lo (Nat.le_of_lt h.cells.2.2.2.2)
  have hjl : j < vs.length := (List.getElem?_eq_some_iff.1 hv).1
  have hmem : Value.slice ao r.length c ∈ vs := List.mem_of_getElem? hv
  obtain ⟨ao0, c0, e0, hO⟩ := h.row j _ r hv hr
  simp only [Value.slice.injEq, true_and] at e0
  obtain ⟨rfl, rfl⟩ := e0
  obtain ⟨wb, rfl⟩ : ∃ wb, xo = some ⟨wb, 0, none⟩ := by
    rcases h.own.2 with ⟨_, e⟩ | ⟨g', cap, cur, e, _⟩
    · omega
    · simp only [Value.slice.injEq] at e
      exact ⟨g', e.1⟩
  have hwt : wb ≠ tb := hne.1 wb 0 rfl
  have hwl := h.own.lt wb rfl
  have htl := h.cells.2.2.2.2
  obtain ⟨ao', c', w2, hrun, hown, hg, hat⟩ := run_app_sl w 25 base r.length _ x _ b hO hx hl hsz
  have hgb : ∀ k, k < w.heap.size → (Value.slice ao r.length c).ownBlock ≠ some k → w2.heap[k]? = w.heap[k]? := fun k hk hx => hg.block k hk (fun e => hx e.symm)
  have hrw : ∀ k, (Value.slice ao r.length c).ownBlock = some k → k ≠ tb ∧ k ≠ wb := fun k hk => ⟨(hne.2 _ hmem k hk).1, (hne.2 _ hmem k hk).2 wb 0 rfl⟩
  have h2t : w2.heap[tb]? = w.heap[tb]? := hgb tb htl (fun e => (hrw tb e).1 rfl)
  have h2w : w2.heap[wb]? = w.heap[wb]? := hgb wb hwl.2 (fun e => (hrw wb e).2 rfl)
  have how2 : w2.ownsRow base 25 1 (.slice (some ⟨wb, 0, none⟩) vs.length cp) vs.length vs := ownsRow_of_block h.own (fun g hg => by
    simp only [Value.ownBlock, Option.some.injEq] at hg
    rw [← hg]; exact h2w)
  have hst := how2.stored j (.slice ao' (r.length + b.length) c')
  have hnew : ∀ k, (Value.slice ao' (r.length + b.length) c').ownBlock = some k → (Value.slice ao r.length c).ownBlock = some k ∨ k = w.heap.size := fun k hk => by
    rcases hat with e | e
    · left; rw [← e]; exact hk
    · right; rw [hk] at e; exact Option.some.inj e
  have hlenv : (vs.set j (.slice ao' (r.length + b.length) c')).length = vs.length := List.length_set
  refine ⟨ao', c', w2, wb, hrun, rfl, ?_, how2.frozenAt j, h2t, h2w, ⟨h.lo, ?_, ?_, by rw [List.length_set, List.length_set]; exact h.len, fun i v q hvi hri => ?_, fun i i' v v' g g' hii hvi hvi' hg hg' => ?_, fun q hq => ?_⟩, ?_, fun k hk => ?_⟩
  · rw [how2.cellAt j (by omega), hv]; rfl
  · rw [heap_setCell_other _ _ _ _ (fun e => hwt e.symm), h2t, hlenv]; exact h.obj
  · rw [hlenv]; exact hst.1
  · by_cases hij : i = j
    · subst hij
      rw [List.getElem?_set_self hjl] at hvi
      rw [List.getElem?_set_self (by rw [← h.len]; exact hjl)] at hri
      simp only [Option.some.injEq] at hvi hri
      subst hvi hri
      refine ⟨ao', c', by rw [List.length_append], ?_⟩
      unfold Ow
      rw [List.length_append, cellsOf_append]
      refine ownsRow_of_block hown (fun k hk => heap_setCell_other _ _ _ _ (fun e => ?_))
      rcases hnew k hk with h1 | h1
      · exact (hrw k h1).2 e
      · simp only at e; omega
    · rw [List.getElem?_set_ne (fun e => hij e.symm)] at hvi hri
      obtain ⟨a1, c1, e1, hO1⟩ := h.row i v q hvi hri
      refine ⟨a1, c1, e1, ownsRow_of_block hO1 (fun k hk => ?_)⟩
      have hk' : v.ownBlock = some k := by rw [e1]; exact hk
      have hn := hne.2 v (List.mem_of_getElem? hvi) k hk'
      rw [heap_setCell_other _ _ _ _ (hn.2 wb 0 rfl)]
      exact hgb k (World.ownsRow.lt hO1 k hk).2 (fun e => h.apart i j v _ k k hij hvi hv hk' e rfl)
  · by_cases hij : i = j
    · subst hij
      rw [List.getElem?_set_self hjl] at hvi
      rw [List.getElem?_set_ne hii] at hvi'
      simp only [Option.some.injEq] at hvi
      subst hvi
      rcases hnew g hg with h1 | h1
      · exact h.apart i i' _ v' g g' hii hv hvi' h1 hg'
      · have := hlt g' (.inr (.inr ⟨v', List.mem_of_getElem? hvi', hg'⟩))
        omega
    · rw [List.getElem?_set_ne (fun e => hij e.symm)] at hvi
      by_cases hij' : i' = j
      · subst hij'
        rw [List.getElem?_set_self hjl] at hvi'
        simp only [Option.some.injEq] at hvi'
        subst hvi'
        rcases hnew g' hg' with h1 | h1
        · exact h.apart i i' v _ g g' hii hvi hv hg h1
        · have := hlt g (.inr (.inr ⟨v, List.mem_of_getElem? hvi, hg⟩))
          omega
      · rw [List.getElem?_set_ne (fun e => hij' e.symm)] at hvi'
        exact h.apart i i' v v' g g' hii hvi hvi' hg hg'
  · rcases List.mem_or_eq_of_mem_set hq with hq | hq
    · exact h.byt q hq
    · subst hq
      intro v hv'
      rcases List.mem_append.1 hv' with hv' | hv'
      · exact h.byt r (List.mem_of_getElem? hr) v hv'
      · exact hbb v hv'
  · refine Fr.setCell ((Fr.refl _ _).grown hg (fun k hk => .inl (.inr (.inr ⟨_, hmem, hk⟩)))) (.inl (.inr (.inl ⟨0, rfl⟩))) _
  · rcases hk with rfl | ⟨o, e⟩ | ⟨v, hv', hk⟩
    · exact .inl (.inl rfl)
    · exact .inl (.inr (.inl ⟨o, e⟩))
    · rcases List.mem_or_eq_of_mem_set hv' with hv' | hv'
      · exact .inl (.inr (.inr ⟨v, hv', hk⟩))
      · subst hv'
        rcases hnew k hk with h1 | h1
        · exact .inl (.inr (.inr ⟨_, hmem, h1⟩))
        · exact .inr (by omega)
end Go.Proofs.YthccbfgjekdiiaaDoor
