import Derived.Test.YtoflkfnmbighaaaDkp
namespace Go.Proofs.Ytoflkfnmbighaaa
open Go.RowKit Go.ChangeShapes Go.WideShapes Go.Maps Go.Sort

set_option maxRecDepth 100000 in
/-- Cut of a file that is there, at a place that it has. -/
theorem cutn_at (d m : Nat) (s : DM) (q : DW) (O : Nat → Prop) (name : ByteArray) (n : Nat) (w : World) (h : DkAt w d m s q O) (ho : s.off = false) (hnm : name.size ≤ maxLen) (hh : Maps.has s.D (.string (nm name)) = true) (hn : n ≤ (s.F (nm name)).b.length) (hb : (s.F (nm name)).b.length ≤ 1048576) (hp : (s.F (nm name)).ps.length ≤ 1000000000) (hsz : ∀ p ∈ (s.F (nm name)).ps, p.2 ≤ 1048576) (hu : (s.F (nm name)).b.length ≤ s.used) (hu2 : s.used ≤ 1048576) :
    Calls Try.prog 40 #[.pointer (some ⟨d, 0, none⟩), .string name, .int .i64 (n : Nat)] w fun e w' => e = .returned (.int .i64 0) ∧ ∃ q', DkAt w' d m (s.short (nm name) n) q' O ∧ Fr O w w' := by
  have HF := hide (find_at d m s q O name w h ho hnm hh)
  have HS : Hid (∀ k, Calls Try.prog 49 #[.pointer (some ⟨d, 0, none⟩), .pointer (some ⟨q.fb (nm name), 0, none⟩), .int .i64 (n : Nat)] (w.drewN k) fun e w' => e = .returned (.tuple #[]) ∧ ∃ q', DkAt w' d m (s.short (nm name) n) q' O ∧ Fr O w w') := fun k =>
    (shorten_any d m s q O (nm name) n (w.drewN k) (h.fr ((Fr.refl (fun _ => False) _).drewN k) (fun _ _ h => h)) hh hn hb hp hsz hu hu2).mono (fun e w' ⟨h1, bv, pv, h2, h3⟩ => ⟨h1, _, h2, ((Fr.refl O w).drewN k).trans h3 (fun _ _ h => h)⟩)
  obtain ⟨c0, _⟩ := (h.at_ _ hh).2.cells
  obtain ⟨bo, bc, e⟩ := own_form (h.at_ _ hh).2.bo
  rw [e] at c0
  clear h ho hnm hh e hp hsz hu
  generalize (s.F (nm name)).b.length = BL at *
  have hn1 : ¬ ((n : Int) < 0) := by omega
  have hn2 : ¬ ((BL : Int) < (n : Int)) := by omega
  go_enter Try.func40, Try.ntmps40
  go_wp2_with (first
    | (go_at_call 33; refine (unhide HF).mono ?_; rintro e w' ⟨rfl, rfl⟩; clear HF)
    | (go_at_call 49; refine ((unhide HS) 0).mono ?_; rintro e w2 ⟨rfl, q2, hD2, hf2⟩))
  have HD := hide (And.intro hD2 hf2)
  clear hD2 hf2
  go_wp2_with fail
  go_ret
  exact ⟨rfl, q2, (unhide HD).1, (unhide HD).2⟩
theorem ownsMap_tight {w : World} {P : Program} {k : TypeId} {R : Value → Option (DataW Unit × List MemPlace)} {b n : Nat} {D : DataW Unit} (h : w.ownsMap P k R b n D) : w.ownsMap P k R b (Maps.size D) D := by
  obtain ⟨es, clock, hb, F, hs, rfl⟩ := h
  exact ⟨es, clock, hb, F, by simp [Maps.size, length_sorted], rfl⟩
/-- A file taken out of the map. -/
theorem DkAt.gone {w w' : World} {d m n : Nat} {s : DM} {q : DW} {O : Nat → Prop} (h : DkAt w d m s q O) (k : Lit) (hown : w'.ownsMap Try.prog 9 Rp m n (s.D.del k)) (hf : Fr (fun g => g = m) w w') : DkAt w' d m { s with D := s.D.del k } q O := by
  obtain ⟨mes, mcl, hmb⟩ := ownsMap_blk h.map
  have kp : ∀ g, g ≠ m → g < w.heap.size → w'.heap[g]? = w.heap[g]? := fun g hg hl => hf.block g hl hg
  have hhas : ∀ x : List UInt8, Maps.has (s.D.del k) (.string x) = true → Lit.string x ≠ k ∧ Maps.has s.D (.string x) = true := fun x hx => by
    by_cases e : Lit.string x = k
    · rw [e, Maps.has_del_same] at hx; cases hx
    · exact ⟨e, by rw [← Maps.has_del_other e]; exact hx⟩
  refine ⟨(kp d (fun e => by have := h.blk; rw [e, hmb] at this; cases this) (h.lt d h.od)).trans h.blk, ownsMap_tight hown, fun x hx => ?_, fun x hx => h.own x (hhas x hx).2, fun x y hx hy hne => h.ap x y (hhas x hx).2 (hhas y hy).2 hne, h.od, h.om, fun g hg => Nat.lt_of_lt_of_le (h.lt g hg) hf.size⟩
  obtain ⟨h1, h2⟩ := h.at_ x (hhas x hx).2
  refine ⟨(Maps.atKey_del_other (hhas x hx).1 _).trans h1, h2.keep (kp _ (fun e => ?_) h2.lt.1) (fun g hg => kp g (fun e => ?_) (h2.lt.2.1 g hg)) (fun g hg => kp g (fun e => ?_) (h2.lt.2.2 g hg))⟩
  · have := h2.blk; rw [e, hmb] at this; cases this
  · obtain ⟨cur, hc⟩ := own_blk h2.bo hg; rw [e, hmb] at hc; cases hc
  · obtain ⟨cur, hc⟩ := own_blk h2.po hg; rw [e, hmb] at hc; cases hc
set_option maxRecDepth 100000 in
/-- Remove of a file that is there. -/
theorem remove_at (d m : Nat) (s : DM) (q : DW) (O : Nat → Prop) (name : ByteArray) (w : World) (h : DkAt w d m s q O) (ho : s.off = false) (hnm : name.size ≤ maxLen) (hh : Maps.has s.D (.string (nm name)) = true) (hb : (s.F (nm name)).b.length ≤ 1048576) (hp : (s.F (nm name)).ps.length ≤ 1000000000) (hsz : ∀ p ∈ (s.F (nm name)).ps, p.2 ≤ 1048576) (hu : (s.F (nm name)).b.length ≤ s.used) (hu2 : s.used ≤ 1048576) :
    Calls Try.prog 42 #[.pointer (some ⟨d, 0, none⟩), .string name] w fun e w' => e = .returned (.int .i64 0) ∧ ∃ q', DkAt w' d m { s.short (nm name) 0 with D := s.D.del (.string (nm name)) } q' O ∧ Fr O w w' := by
  have HF := hide (find_at d m s q O name w h ho hnm hh)
  have HS := hide (shorten_any d m s q O (nm name) 0 w h hh (Nat.zero_le _) hb hp hsz hu hu2)
  have hom := h.om
  clear h ho hh hp hsz hu hb
  go_enter Try.func42, Try.ntmps42
  go_wp2_with (go_at_call 33; refine (unhide HF).mono ?_; rintro e w' ⟨rfl, rfl⟩; clear HF)
  refine (unhide HS).mono ?_
  rintro e w2 ⟨rfl, bv, pv, hD2, hf2⟩
  obtain ⟨c0, c1, c2, c3, c4, c5, c6, c7, fz⟩ := hD2.cells
  clear c0 c2 c3 c4 c5 c6 c7 fz
  obtain ⟨w3, hr3, hown3, ht3⟩ := hD2.map.drop Try.sK (t := 46) Try.underlying46 (key_nm name hnm) 0
  have hg3 : Fr (fun g => g = m) w2 w3 := (Fr.refl _ _).grown ht3.grown (fun k hk => by cases hk; exact .inl rfl)
  have hD3 := hD2.gone _ hown3 hg3
  have HD := hide (And.intro hD3 (hf2.trans hg3 (fun k _ hk => by rw [hk]; exact hom)))
  clear hD2 hf2 hown3 ht3 hg3 hD3
  go_wp2_with fail
  go_ret
  exact ⟨rfl, _, (unhide HD).1, (unhide HD).2⟩
end Go.Proofs.Ytoflkfnmbighaaa
