import Derived.Test.YtoflkfnmbighaaaDkx
namespace Go.Proofs.Ytoflkfnmbighaaa
open Go.RowKit Go.ChangeShapes Go.WideShapes Go.Maps Go.Sort

theorem DkAt.mne {w : World} {d m : Nat} {s : DM} {q : DW} {O : Nat → Prop} (h : DkAt w d m s q O) {k : Nat} {cs : Array Value} {e : TypeId} {fr : Nat × Nat} (hk : w.heap[k]? = some (.cells cs e fr)) : k ≠ m := by
  obtain ⟨es, clock, hm⟩ := ownsMap_blk h.map
  intro e
  subst e
  rw [hk] at hm
  cases hm
/-- How many bytes pieces have. -/
def sumP : List (Nat × Nat) → Nat
  | [] => 0
  | p :: r => p.2 + sumP r
def szOf (fb : Nat) : List Own3 → Nat
  | [] => 0
  | o :: r => (if o.fb = fb then o.sz else 0) + szOf fb r
theorem szOf_perm (fb : Nat) {l l' : List Own3} (h : l.Perm l') : szOf fb l = szOf fb l' := by
  induction h with
  | nil => rfl
  | cons x _ ih => simp only [szOf, ih]
  | swap x y l => simp only [szOf]; omega
  | trans _ _ h1 h2 => exact h1.trans h2
theorem szOf_app (fb : Nat) : ∀ l l' : List Own3, szOf fb (l ++ l') = szOf fb l + szOf fb l'
  | [], _ => by simp [szOf]
  | o :: r, l' => by simp only [List.cons_append, szOf, szOf_app fb r l']; omega
theorem gain_sz (fb : Nat) : ∀ (l : List Own3) (keep : Nat), gain l keep fb ≤ szOf fb l
  | [], _ => by simp [gain]
  | p :: r, keep => by
    simp only [gain, szOf]
    have := gain_sz fb r (keep - min p.sz keep)
    split <;> omega
theorem szOf_map (fb : Nat) : ∀ l : List (Nat × Nat), szOf fb (l.map fun p => ⟨p.1, p.2, fb⟩) = sumP l
  | [] => rfl
  | p :: r => by simp only [List.map_cons, szOf, sumP, if_true, szOf_map fb r]
theorem szOf_map0 (fb fb' : Nat) (hne : fb' ≠ fb) : ∀ l : List (Nat × Nat), szOf fb (l.map fun p => ⟨p.1, p.2, fb'⟩) = 0
  | [] => rfl
  | p :: r => by simp only [List.map_cons, szOf, if_neg hne, szOf_map0 fb fb' hne r]
theorem szOf_cat0 {w : World} {d m : Nat} {s : DM} {q : DW} {O : Nat → Prop} (h : DkAt w d m s q O) (x : List UInt8) (hx : Maps.has s.D (.string x) = true) : ∀ l : List (Lit × DataW Unit), (∀ p ∈ l, Maps.has s.D p.1 = true ∧ p.1 ≠ .string x) → szOf (q.fb x) (catA (s.pcs q) l) = 0
  | [], _ => rfl
  | p :: r, hl => by
    simp only [catA, szOf_app]
    rw [szOf_cat0 h x hx r (fun p' hp => hl p' (List.mem_cons_of_mem _ hp)), Nat.add_zero]
    obtain ⟨h1, h2⟩ := hl p (List.mem_cons_self ..)
    rcases p with ⟨k, dd⟩
    cases k with
    | string y => exact szOf_map0 _ _ (h.ap y x h1 hx (fun e => h2 (by rw [e]))).1 _
    | _ => rfl
theorem szOf_cat {w : World} {d m : Nat} {s : DM} {q : DW} {O : Nat → Prop} (h : DkAt w d m s q O) (x : List UInt8) (hx : Maps.has s.D (.string x) = true) : ∀ l : List (Lit × DataW Unit), l.Pairwise (fun p q => p.1 ≠ q.1) → (∀ p ∈ l, Maps.has s.D p.1 = true) → szOf (q.fb x) (catA (s.pcs q) l) ≤ sumP (s.F x).ps
  | [], _, _ => Nat.zero_le _
  | p :: r, hp, hl => by
    rw [List.pairwise_cons] at hp
    simp only [catA, szOf_app]
    by_cases e : p.1 = .string x
    · rw [szOf_cat0 h x hx r (fun p' hp' => ⟨hl p' (List.mem_cons_of_mem _ hp'), fun e2 => hp.1 p' hp' (e.trans e2.symm)⟩), Nat.add_zero, e]
      exact Nat.le_of_eq (szOf_map _ _)
    · have h0 := szOf_cat0 h x hx [p] (fun p' hp' => by
        rw [List.mem_singleton] at hp'
        subst hp'
        exact ⟨hl _ (List.mem_cons_self ..), e⟩)
      simp only [catA, List.append_nil] at h0
      rw [h0, Nat.zero_add]
      exact szOf_cat h x hx r hp.2 (fun p' hp' => hl p' (List.mem_cons_of_mem _ hp'))
/-- What is rescued of a file is no more than its pieces have. -/
theorem gain_file {w : World} {d m keep : Nat} {s : DM} {q : DW} {O : Nat → Prop} (h : DkAt w d m s q O) (x : List UInt8) (hx : Maps.has s.D (.string x) = true) (L : List Own3) (hL : L.Perm (s.allp q)) : gain L keep (q.fb x) ≤ sumP (s.F x).ps := by
  obtain ⟨es, hes, hpw, hkl⟩ := h.map.entries Try.sK
  refine Nat.le_trans (gain_sz _ _ _) ?_
  rw [szOf_perm _ hL, DM.allp, hes]
  refine szOf_cat h x hx es hpw (fun p hp => ?_)
  rw [hes]
  exact List.any_eq_true.2 ⟨p, hp, WideAt.sameKey_self (hkl p hp)⟩
set_option maxRecDepth 100000 in
theorem shorten_anyM (d m : Nat) (s : DM) (q : DW) (O : Nat → Prop) (x : List UInt8) (n : Nat) (w : World) (h : DkAt w d m s q O) (hh : Maps.has s.D (.string x) = true) (hn : n ≤ (s.F x).b.length) (hb : (s.F x).b.length ≤ 1048576) (hp : (s.F x).ps.length ≤ 1000000000) (hsz : ∀ p ∈ (s.F x).ps, p.2 ≤ 1048576) (hu : (s.F x).b.length ≤ s.used) (hu2 : s.used ≤ 1048576) :
    Calls Try.prog 49 #[.pointer (some ⟨d, 0, none⟩), .pointer (some ⟨q.fb x, 0, none⟩), .int .i64 (n : Nat)] w fun e w' => e = .returned (.tuple #[]) ∧ ∃ bv pv, DkAt w' d m (s.short x n) { q with bv := fun k => if k = x then bv else q.bv k, pv := fun k => if k = x then pv else q.pv k } O ∧ Fr (fun k => O k ∧ k ≠ m) w w' := by
  obtain ⟨c0, c1, c2, c3, c4, c5, c6, c7, fz⟩ := h.cells
  have f2 := fz 2
  clear fz c0 c1 c3 c4 c5 c6 c7
  have hA := (h.at_ x hh).2
  obtain ⟨d0, _⟩ := hA.cells
  obtain ⟨bo, bc, e⟩ := own_form hA.bo
  rw [e] at d0
  have hw1 : ∀ W, Fr (fun _ => False) (w.setCell ⟨d, 2, none⟩ (.int .i64 ((s.used : Int) - (((s.F x).b.length : Int) - (n : Int))))) W → Calls Try.prog 58 #[.pointer (some ⟨q.fb x, 0, none⟩), .int .i64 (n : Nat)] W fun e w' => e = .returned (.tuple #[]) ∧ ∃ bv pv, DkAt w' d m (s.short x n) { q with bv := fun k => if k = x then bv else q.bv k, pv := fun k => if k = x then pv else q.pv k } O ∧ Fr (fun k => O k ∧ k ≠ m) w w' := fun W hW => by
    have hud : ((s.used - ((s.F x).b.length - n) : Nat) : Int) = (s.used : Int) - (((s.F x).b.length : Int) - (n : Int)) := by omega
    have h1 : DkAt W d m { s with used := s.used - ((s.F x).b.length - n) } q O := by
      refine DkAt.fr (h.upd { s with used := s.used - ((s.F x).b.length - n) } rfl rfl ?_ ((Fr.refl _ _).at1 _ _)) hW (fun _ _ h => h)
      rw [blkset h.blk]
      simp [DM.cells, hud]
    have hfW : Fr (fun k => O k ∧ k ≠ m) w W := ((Fr.refl (fun k => O k ∧ k ≠ m) w).setCell (p := ⟨d, 2, none⟩) (.inl ⟨h.od, h.mne h.blk⟩) _).trans hW (fun _ _ h => h.elim)
    refine (cut_any (q.fb x) n (s.F x) _ _ W (h1.at_ x hh).2 hn hb hp hsz).mono ?_
    rintro e w' ⟨rfl, bv', pv', hA', hf', hb', hp'⟩
    have ho := h1.own x hh
    have hfO : Fr (fun k => O k ∧ k ≠ m) w w' := hfW.trans hf' (fun k _ hk => by
      rcases hk with rfl | hk | hk
      · exact ⟨ho.1, h1.mne (h1.at_ x hh).2.blk⟩
      · obtain ⟨cur, hc⟩ := own_blk (h1.at_ x hh).2.bo hk
        exact ⟨ho.2.1 k hk, h1.mne hc⟩
      · obtain ⟨cur, hc⟩ := own_blk (h1.at_ x hh).2.po hk
        exact ⟨ho.2.2 k hk, h1.mne hc⟩)
    refine ⟨rfl, bv', pv', (h1.file x hh _ bv' pv' hf' hA' (fun g hg => .inl (hb' g hg)) (fun g hg => .inl (hp' g hg))).reO (fun k hk => ?_) (fun k hk => Nat.lt_of_lt_of_le (h.lt k hk) hfO.size), hfO⟩
    rcases hk with hk | hk | hk
    · exact hk
    · exact ho.2.1 k (hb' k hk)
    · exact ho.2.2 k (hp' k hk)
  have H := hide hw1
  clear hw1 h hh hA e hp hsz
  generalize (s.F x).b.length = BL at *
  go_enter Try.func49, Try.ntmps49
  go_wp2_with fail
  go_region
  all_goals
    go_wp2_with fail
    refine ((unhide H) _ (by first | exact Fr.refl _ _ | exact (Fr.refl _ _).drew)).mono ?_
    rintro e w2 ⟨rfl, bv', pv', hD, hf⟩
    have HF := hide (And.intro hD hf)
    clear hD hf
    go_wp2_with fail
    go_end0
    exact ⟨rfl, bv', pv', (unhide HF).1, (unhide HF).2⟩
end Go.Proofs.Ytoflkfnmbighaaa
