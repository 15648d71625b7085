import Derived.Test.YtoflkfnmbighaaaDkm
namespace Go.Proofs.Ytoflkfnmbighaaa
open Go.RowKit Go.ChangeShapes Go.WideShapes Go.Maps Go.Sort

/-- The pieces, the last first, without their last g bytes. -/
def dropR : List (Nat × Nat) → Nat → List (Nat × Nat)
  | [], _ => []
  | p :: r, g => if g = 0 then p :: r else if p.2 ≤ g then dropR r (g - p.2) else (p.1, p.2 - g) :: r
def dropP (ps : List (Nat × Nat)) (g : Nat) : List (Nat × Nat) := (dropR ps.reverse g).reverse
theorem dropP_nil (g : Nat) : dropP [] g = [] := rfl
theorem dropP_zero (ps : List (Nat × Nat)) : dropP ps 0 = ps := by
  unfold dropP
  rcases h : ps.reverse with _ | ⟨p, r⟩
  · simp [dropR]; simpa using h
  · simp only [dropR, if_true]
    rw [← h, List.reverse_reverse]
theorem dropP_pop (ps : List (Nat × Nat)) (p : Nat × Nat) (g : Nat) (h : p.2 ≤ g) (hg : g ≠ 0) : dropP (ps ++ [p]) g = dropP ps (g - p.2) := by
  simp [dropP, dropR, h, hg]
theorem dropP_cut (ps : List (Nat × Nat)) (p : Nat × Nat) (g : Nat) (h : ¬ p.2 ≤ g) (hg : g ≠ 0) : dropP (ps ++ [p]) g = ps ++ [(p.1, p.2 - g)] := by
  simp [dropP, dropR, h, hg]
theorem pcells_len (ps : List (Nat × Nat)) : (pcells ps).length = ps.length * 2 := by
  induction ps with
  | nil => rfl
  | cons p r ih =>
    have e : pcells (p :: r) = [.int .i64 (p.1 : Nat), .int .i64 (p.2 : Nat)] ++ pcells r := rfl
    rw [e, List.length_append, ih, List.length_cons]
    simp
    omega
theorem own_preP {w : World} {base e g N n cap size : Nat} {ys : List Value} (h : w.ownsRow base e size (.slice (some ⟨g, 0, none⟩) N cap) N ys) (hn : n ≤ N) : w.ownsRow base e size (.slice (some ⟨g, 0, none⟩) n cap) n (ys.take (n * size)) := by
  rcases h.2 with ⟨e1, _⟩ | ⟨g', cap', cur, e1, h1, h2, h3, h4, h5, h6⟩
  · simp at e1
  · simp only [Value.slice.injEq, Option.some.injEq, Addr.mk.injEq, and_true, true_and] at e1
    obtain ⟨rfl, rfl⟩ := e1
    have hl : ys.length = N * size := h.1
    have hm : n * size ≤ N * size := Nat.mul_le_mul_right _ hn
    refine ⟨by rw [List.length_take, hl]; omega, .inr ⟨g, cap, cur, rfl, h1, h2, by omega, h4, h5, ?_⟩⟩
    rw [← h6, List.take_take]
    congr 1
    omega
/-- How many pieces there are. -/
def lenM (w : World) (fb : Nat) : Nat := match w.cell? ⟨fb, 2, none⟩ with
  | some (.slice _ n _) => n
  | _ => 0
theorem lenM_at {w : World} {fb : Nat} {f : FM} {bv pv : Value} (h : FAt w fb f bv pv) : lenM w fb = f.ps.length := by
  obtain ⟨po, pc, rfl⟩ := own_formX h.po
  simp [lenM, h.cells.2.2.1]
theorem pcells_at (qs : List (Nat × Nat)) (p : Nat × Nat) : (pcells (qs ++ [p]))[qs.length * 2 + 1]? = some (.int .i64 (p.2 : Nat)) := by
  rw [show qs ++ [p] = qs ++ [(p.1, p.2)] from rfl, pcells_app, List.getElem?_append_right (by rw [pcells_len]; omega), pcells_len]
  simp
theorem pcells_set (qs : List (Nat × Nat)) (p : Nat × Nat) (z : Nat) : (pcells (qs ++ [p])).set (qs.length * 2 + 1) (.int .i64 (z : Nat)) = pcells (qs ++ [(p.1, z)]) := by
  rw [show qs ++ [p] = qs ++ [(p.1, p.2)] from rfl, pcells_app, pcells_app, List.set_append_right _ _ (by rw [pcells_len]; omega), pcells_len]
  simp
theorem own_setP {w : World} {base e g N cap size : Nat} {ys : List Value} (h : w.ownsRow base e size (.slice (some ⟨g, 0, none⟩) N cap) N ys) (i : Nat) (v : Value) : (w.setCell ⟨g, i, none⟩ v).ownsRow base e size (.slice (some ⟨g, 0, none⟩) N cap) N (ys.set i v) := by
  rcases h.2 with ⟨e1, _⟩ | ⟨g', cap', cur, e1, h1, h2, h3, h4, h5, h6⟩
  · simp at e1
  · simp only [Value.slice.injEq, Option.some.injEq, Addr.mk.injEq, and_true, true_and] at e1
    obtain ⟨rfl, rfl⟩ := e1
    refine ⟨by rw [List.length_set]; exact h.1, .inr ⟨g, cap, cur.setIfInBounds i v, rfl, h1, blkset h2 i v, h3, h4, by simpa using h5, ?_⟩⟩
    rw [Array.toList_setIfInBounds, List.take_set, h6]
set_option maxRecDepth 100000 in
theorem drop_any (fb g : Nat) (f : FM) (bv pv : Value) (w : World) (h : FAt w fb f bv pv) (hp : f.ps.length ≤ 1000000000) (hg : g ≤ 1048576) (hsz : ∀ p ∈ f.ps, p.2 ≤ 1048576) :
    Calls Try.prog 65 #[.pointer (some ⟨fb, 0, none⟩), .int .i64 (g : Nat)] w fun e w' => e = .returned (.tuple #[]) ∧ ∃ pv', FAt w' fb { f with ps := dropP f.ps g } bv pv' ∧ Fr (fun k => k = fb ∨ pv.ownBlock = some k) w w' ∧ ∀ k, pv'.ownBlock = some k → pv.ownBlock = some k := by
  have H := hide h
  clear h
  go_enter Try.func65, Try.ntmps65
  go_wp2_with fail
  go_loopw [1, 4, 5] (fun gv _ _ wr => ∃ (g' : Nat) (ps' : List (Nat × Nat)) (pv' : Value), gv = .int .i64 (g' : Nat) ∧ g' ≤ g ∧ ps'.length ≤ f.ps.length ∧ (∀ p ∈ ps', p.2 ≤ 1048576) ∧ FAt wr fb { f with ps := ps' } bv pv' ∧ dropP ps' g' = dropP f.ps g ∧ Fr (fun k => k = fb ∨ pv.ownBlock = some k) w wr ∧ (∀ k, pv'.ownBlock = some k → pv.ownBlock = some k)) (fun gv _ _ wr => lenM wr fb + (intOf gv).toNat)
  case atStart => exact ⟨g, f.ps, pv, rfl, Nat.le_refl _, Nat.le_refl _, hsz, unhide H, rfl, Fr.refl _ _, fun _ h => h⟩
  case round =>
    obtain ⟨g', ps', pv', rfl, hg', hpl, hsz', hA, hd, hfr, hbk⟩ := hrel
    obtain ⟨c0, c1, c2, fz⟩ := hA.cells
    obtain ⟨po, pc, rfl⟩ := own_formX hA.po
    have f2 := fz 2
    clear fz
    by_cases hg0 : g' = 0
    · subst hg0
      rw [dropP_zero] at hd
      subst hd
      have HA := hide (And.intro hA (And.intro hfr hbk))
      clear hA hfr hbk
      go_wp2
      go_end0
      exact ⟨rfl, _, (unhide HA).1, (unhide HA).2.1, (unhide HA).2.2⟩
    · have hgp : 0 < g' := by omega
      rcases List.eq_nil_or_concat ps' with rfl | ⟨qs, p, rfl⟩
      · rw [dropP_nil] at hd
        rw [hd] at hA
        have HA := hide (And.intro hA (And.intro hfr hbk))
        simp only [List.length_nil] at c2
        clear hA hfr hbk hd
        go_wp2
        go_end0
        exact ⟨rfl, _, (unhide HA).1, (unhide HA).2.1, fun k hk => (unhide HA).2.2 k (by cases po with | none => cases hk | some a => exact hk)⟩
      · rw [List.concat_eq_append] at *
        have hpo := hA.po
        simp only [List.length_append, List.length_cons, List.length_nil, Nat.zero_add] at hpo c2 hpl
        obtain ⟨gb, cb, eb, _, _⟩ := hpo.form (by omega)
        simp only [Value.slice.injEq, true_and] at eb
        obtain ⟨rfl, rfl⟩ := eb
        have hl2 : qs.length * 2 + 1 < (qs.length + 1) * 2 := by omega
        have hcl : wr.cell? ⟨gb, qs.length * 2 + 1, none⟩ = some (.int .i64 (p.2 : Nat)) := (hpo.cellAt (qs.length * 2 + 1) hl2).trans (pcells_at qs p)
        have hfl : wr.frozen? ⟨gb, qs.length * 2 + 1, none⟩ = false := by
          obtain ⟨cur, hb⟩ := own_blk hpo rfl
          simp [World.frozen?, hb]
        have hpz := hsz' p (by simp)
        have HA := hide (And.intro hA (And.intro hfr (And.intro hbk (And.intro hd hsz'))))
        clear hA hfr hbk hd hsz' hpo
        have hle : qs.length + 1 ≤ 1000000000 := by omega
        have hpb := (unhide HA).1.po
        simp only [List.length_append, List.length_cons, List.length_nil, Nat.zero_add] at hpb
        have hpc : qs.length + 1 ≤ pc := by
          rcases hpb.2 with ⟨e, _⟩ | ⟨_, _, _, e, _, _, hc, _⟩
          · cases e
          · cases e; exact hc
        have hblk : ∀ nq (z : Nat), ((wr.drewN nq).setCell ⟨gb, qs.length * 2 + 1, none⟩ (.int .i64 (z : Nat))).ownsRow 0 98 2 (.slice (some ⟨gb, 0, none⟩) (qs.length + 1) pc) (qs.length + 1) (pcells (qs ++ [(p.1, z)])) := fun nq z => by
          have h1 : (wr.drewN nq).ownsRow 0 98 2 (.slice (some ⟨gb, 0, none⟩) (qs.length + 1) pc) (qs.length + 1) (pcells (qs ++ [p])) := hpb
          have := own_setP h1 (qs.length * 2 + 1) (.int .i64 (z : Nat))
          rwa [pcells_set] at this
        have hgf : gb ≠ fb := (unhide HA).1.kinds.2 gb rfl
        have hgbv : ∀ k, bv.ownBlock = some k → k ≠ gb := fun k hk e => ((unhide HA).1.kinds.1 k hk).2 (by rw [e]; rfl)
        have hpv : pv.ownBlock = some gb := (unhide HA).2.2.1 gb rfl
        have hcut : ∀ nq (z : Nat), FAt ((wr.drewN nq).setCell ⟨gb, qs.length * 2 + 1, none⟩ (.int .i64 (z : Nat))) fb { f with ps := qs ++ [(p.1, z)] } bv (.slice (some ⟨gb, 0, none⟩) (qs.length + 1) pc) := fun nq z => by
          have hb0 := (unhide HA).1.blk
          simp only [List.length_append, List.length_cons, List.length_nil, Nat.zero_add] at hb0
          refine ⟨(Below.heap_setCell _ _ _ _ (fun e => hgf e.symm)).trans hb0, ownsRow_of_block (unhide HA).1.bo (fun k hk => Below.heap_setCell _ _ _ _ (hgbv k hk)), ?_⟩
          simp only [List.length_append, List.length_cons, List.length_nil, Nat.zero_add]
          exact hblk nq z
        have hfc : ∀ nq (z : Int), Fr (fun k => k = fb ∨ pv.ownBlock = some k) w ((wr.drewN nq).setCell ⟨gb, qs.length * 2 + 1, none⟩ (.int .i64 z)) := fun nq z => ((unhide HA).2.1.drewN nq).setCell (p := ⟨gb, qs.length * 2 + 1, none⟩) (.inl (.inr hpv)) _
        have hpop : ∀ nq, FAt (((wr.drewN nq).setCell ⟨gb, qs.length * 2 + 1, none⟩ (.int .i64 0)).setCell ⟨fb, 2, none⟩ (.slice (some ⟨gb, 0, none⟩) qs.length pc)).drew fb { f with ps := qs } bv (.slice (some ⟨gb, 0, none⟩) qs.length pc) := fun nq => by
          have h1 := hcut nq 0
          have hb1 := h1.blk
          refine ⟨(blkset hb1 2 _).trans (by simp), ownsRow_of_block h1.bo (fun k hk => Below.heap_setCell _ _ _ _ (h1.kinds.1 k hk).1), ?_⟩
          have h2 := h1.po
          simp only [List.length_append, List.length_cons, List.length_nil, Nat.zero_add] at h2
          have h3 := own_preP h2 (n := qs.length) (by omega)
          rw [pcells_app, List.take_left' (by rw [pcells_len])] at h3
          exact ownsRow_of_block h3 (fun k hk => Below.heap_setCell _ _ _ _ (h1.kinds.2 k hk))
        have hfp : ∀ nq, Fr (fun k => k = fb ∨ pv.ownBlock = some k) w (((wr.drewN nq).setCell ⟨gb, qs.length * 2 + 1, none⟩ (.int .i64 0)).setCell ⟨fb, 2, none⟩ (.slice (some ⟨gb, 0, none⟩) qs.length pc)).drew := fun nq => ((hfc nq 0).setCell (p := ⟨fb, 2, none⟩) (.inl (.inl rfl)) _).drew
        have hL0 := lenM_at (unhide HA).1
        simp only [List.length_append, List.length_cons, List.length_nil, Nat.zero_add] at hL0
        have HB := hide (And.intro hcut (And.intro hfc (And.intro hpop (And.intro hfp hL0))))
        clear hblk hgbv hpb hcut hfc hpop hfp hL0
        by_cases hs : p.2 ≤ g'
        · have hmin : min (g' : Int) (p.2 : Int) = (p.2 : Int) := by omega
          go_wp2_with fail
          go_quiet (fail)
          go_wp2_with fail
          go_region
          all_goals
            go_wp2_with fail
            refine ⟨⟨g' - p.2, qs, _, by congr 1; omega, by omega, by omega, fun x hx => (unhide HA).2.2.2.2 x (by simp [hx]), (unhide HB).2.2.1 _, by rw [← (unhide HA).2.2.2.1, dropP_pop qs p g' hs hg0], (unhide HB).2.2.2.1 _, fun k hk => by rw [hpv, ← hk]; rfl⟩, ?_⟩
            rw [lenM_at ((unhide HB).2.2.1 _), (unhide HB).2.2.2.2]
            simp only [intOf]
            omega
        · have hmin : min (g' : Int) (p.2 : Int) = (g' : Int) := by omega
          have hne : ¬ ((p.2 : Int) - (g' : Int) = 0) := by omega
          go_wp2_with fail
          go_quiet (fail)
          go_wp2_with fail
          have ez : (p.2 : Int) - (g' : Int) = ((p.2 - g' : Nat) : Int) := by omega
          rw [ez]
          refine ⟨⟨0, qs ++ [(p.1, p.2 - g')], _, rfl, by omega, by simp; omega, fun x hx => ?_, (unhide HB).1 _ _, by rw [dropP_zero, ← (unhide HA).2.2.2.1, dropP_cut qs p g' hs hg0], (unhide HB).2.1 _ _, fun k hk => by rw [hpv, ← hk]; rfl⟩, ?_⟩
          · simp at hx
            rcases hx with hx | rfl
            · exact (unhide HA).2.2.2.2 x (by simp [hx])
            · show p.2 - g' ≤ 1048576
              omega
          · rw [lenM_at ((unhide HB).1 _ _), (unhide HB).2.2.2.2]
            simp [intOf]
            omega
end Go.Proofs.Ytoflkfnmbighaaa
