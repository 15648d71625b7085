import Derived.Test.YtoflkfnmbighaaaDko
namespace Go.Proofs.Ytoflkfnmbighaaa
open Go.RowKit Go.ChangeShapes Go.WideShapes Go.Maps Go.Sort

/-- A disk one of whose files is cut. -/
def DM.short (s : DM) (x : List UInt8) (n : Nat) : DM := { s with used := s.used - ((s.F x).b.length - n), F := fun k => if k = x then (s.F x).cut n else s.F k }
theorem DkAt.reO {w : World} {d m : Nat} {s : DM} {q : DW} {O O' : Nat → Prop} (h : DkAt w d m s q O') (h1 : ∀ k, O' k → O k) (h2 : ∀ k, O k → k < w.heap.size) : DkAt w d m s q O :=
  ⟨h.blk, h.map, h.at_, fun k hk => ⟨h1 _ (h.own k hk).1, fun g hg => h1 _ ((h.own k hk).2.1 g hg), fun g hg => h1 _ ((h.own k hk).2.2 g hg)⟩, h.ap, h1 _ h.od, h1 _ h.om, h2⟩
set_option maxRecDepth 100000 in
theorem shorten_any (d m : Nat) (s : DM) (q : DW) (O : Nat → Prop) (x : List UInt8) (n : Nat) (w : World) (h : DkAt w d m s q O) (hh : Maps.has s.D (.string x) = true) (hn : n ≤ (s.F x).b.length) (hb : (s.F x).b.length ≤ 1048576) (hp : (s.F x).ps.length ≤ 1000000000) (hsz : ∀ p ∈ (s.F x).ps, p.2 ≤ 1048576) (hu : (s.F x).b.length ≤ s.used) (hu2 : s.used ≤ 1048576) :
    Calls Try.prog 49 #[.pointer (some ⟨d, 0, none⟩), .pointer (some ⟨q.fb x, 0, none⟩), .int .i64 (n : Nat)] w fun e w' => e = .returned (.tuple #[]) ∧ ∃ bv pv, DkAt w' d m (s.short x n) { q with bv := fun k => if k = x then bv else q.bv k, pv := fun k => if k = x then pv else q.pv k } O ∧ Fr O w w' := by
  obtain ⟨c0, c1, c2, c3, c4, c5, c6, c7, fz⟩ := h.cells
  have f2 := fz 2
  clear fz c0 c1 c3 c4 c5 c6 c7
  have hA := (h.at_ x hh).2
  obtain ⟨d0, _⟩ := hA.cells
  obtain ⟨bo, bc, e⟩ := own_form hA.bo
  rw [e] at d0
  have hw1 : ∀ W, Fr (fun _ => False) (w.setCell ⟨d, 2, none⟩ (.int .i64 ((s.used : Int) - (((s.F x).b.length : Int) - (n : Int))))) W → Calls Try.prog 58 #[.pointer (some ⟨q.fb x, 0, none⟩), .int .i64 (n : Nat)] W fun e w' => e = .returned (.tuple #[]) ∧ ∃ bv pv, DkAt w' d m (s.short x n) { q with bv := fun k => if k = x then bv else q.bv k, pv := fun k => if k = x then pv else q.pv k } O ∧ Fr O w w' := fun W hW => by
    have hud : ((s.used - ((s.F x).b.length - n) : Nat) : Int) = (s.used : Int) - (((s.F x).b.length : Int) - (n : Int)) := by omega
    have h1 : DkAt W d m { s with used := s.used - ((s.F x).b.length - n) } q O := by
      refine DkAt.fr (h.upd { s with used := s.used - ((s.F x).b.length - n) } rfl rfl ?_ ((Fr.refl _ _).at1 _ _)) hW (fun _ _ h => h)
      rw [blkset h.blk]
      simp [DM.cells, hud]
    have hfW : Fr O w W := ((Fr.refl O w).setCell (p := ⟨d, 2, none⟩) (.inl h.od) _).trans hW (fun _ _ h => h.elim)
    refine (cut_any (q.fb x) n (s.F x) _ _ W (h1.at_ x hh).2 hn hb hp hsz).mono ?_
    rintro e w' ⟨rfl, bv', pv', hA', hf', hb', hp'⟩
    have ho := h1.own x hh
    have hfO : Fr O w w' := hfW.trans hf' (fun k _ hk => by
      rcases hk with rfl | hk | hk
      · exact ho.1
      · exact ho.2.1 k hk
      · exact ho.2.2 k hk)
    refine ⟨rfl, bv', pv', (h1.file x hh _ bv' pv' hf' hA' (fun g hg => .inl (hb' g hg)) (fun g hg => .inl (hp' g hg))).reO (fun k hk => ?_) (fun k hk => Nat.lt_of_lt_of_le (h.lt k hk) hfO.size), hfO⟩
    rcases hk with hk | hk | hk
    · exact hk
    · exact ho.2.1 k (hb' k hk)
    · exact ho.2.2 k (hp' k hk)
  have H := hide hw1
  clear hw1 h hh hA e hp hsz
  generalize (s.F x).b.length = BL at *
  go_enter Try.func49, Try.ntmps49
  go_wp2_with fail
  go_region
  all_goals
    go_wp2_with fail
    refine ((unhide H) _ (by first | exact Fr.refl _ _ | exact (Fr.refl _ _).drew)).mono ?_
    rintro e w2 ⟨rfl, bv', pv', hD, hf⟩
    have HF := hide (And.intro hD hf)
    clear hD hf
    go_wp2_with fail
    go_end0
    exact ⟨rfl, bv', pv', (unhide HF).1, (unhide HF).2⟩
end Go.Proofs.Ytoflkfnmbighaaa
