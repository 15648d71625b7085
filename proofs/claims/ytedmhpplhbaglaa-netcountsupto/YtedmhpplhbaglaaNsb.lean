import Derived.Test.YtedmhpplhbaglaaNtj
namespace Go.Proofs.Ytedmhpplhbaglaa
open Go.RowKit Go.ChangeShapes Go.WideShapes Go.Maps

set_option maxRecDepth 100000 in
/-- Send from a place to a place. -/
theorem send_okS (d m : Nat) (pl f t : Int) (ps : List PK) (sv : Nat → Option Addr × Nat) (T : Nat → Prop) (x : Value) (l : List Nat) (w : World) (h : NtAt w d m pl ps sv T) (hf : isP pl f = true) (ht : isP pl t = true) (hx : ∀ W, Fr (fun k => k = d) w W → Src W x l) (hl : l.length ≤ 1048576) (hn : ps.length ≤ 1048576) :
    Calls Try.prog 9 #[.pointer (some ⟨d, 0, none⟩), .int .i64 f, .int .i64 t, x] w fun e w' => e = .returned (.tuple #[.int .i64 ((ps.length : Int) + 1), .int .i64 0]) ∧ ∃ sv' T', NtAt w' d m pl (ps ++ [⟨f, t, l, 0, false⟩]) sv' T' ∧ Fr (fun k => k = d ∨ k = m) w w' ∧ ∀ g, T' g → T g ∨ w.heap.size ≤ g := by
  obtain ⟨c0, c1, c2, c3, c4, c5, fz⟩ := h.cells
  have f2 := fz 2
  have hsum := cSC ps
  have hdm := h.dm
  have HQ := hide (fun z => place_any d pl z w c0)
  have hC : Hid (∀ W, Fr (fun k => k = d) w W → Calls Try.prog 21 #[x] W fun e w' => ∃ ao c, e = .returned (.slice ao l.length c) ∧ w'.ownsRow w.heap.size 5 1 (.slice ao l.length c) l.length (cellsOf l) ∧ Fr (fun _ => False) W w') := fun W hW => by
    refine (clone_any x l W (hx W hW) (by omega)).mono ?_
    rintro e w' ⟨v, rfl, hv, hf⟩
    obtain ⟨ao, c, rfl⟩ := own_form hv
    exact ⟨ao, c, rfl, own_mono hv hW.size, hf⟩
  have HP : Hid (∀ W ao c, Fr (fun _ => False) (w.setCell ⟨d, 2, none⟩ (.int .i64 ((cS ps : Int) + 1))) W → W.ownsRow w.heap.size 5 1 (.slice ao l.length c) l.length (cellsOf l) → Calls Try.prog 20 #[.pointer (some ⟨d, 0, none⟩), .agg #[.int .i64 0, .int .i64 f, .int .i64 t, .slice ao l.length c]] W fun e w' => e = .returned (.int .i64 ((ps.length : Int) + 1)) ∧ ∃ sv' T', NtAt w' d m pl (ps ++ [⟨f, t, l, 0, false⟩]) sv' T' ∧ Fr (fun k => k = d ∨ k = m) w w' ∧ ∀ g, T' g → T g ∨ w.heap.size ≤ g) := fun W ao c hW hv => by
    obtain ⟨D, hown, hD⟩ := h.map
    have hfw : Fr (fun k => k = d) w W := ((Fr.refl (fun k => k = d) w).setCell (p := ⟨d, 2, none⟩) (.inl rfl) _).trans hW (fun _ _ h => h.elim)
    have hblk : W.heap[d]? = some (.cells (NC pl m (ps ++ [⟨f, t, l, 0, false⟩])) 58) := by
      rw [hW.block d (by simpa using h.lt.1) (fun h => h), blkset h.blk, NC_send]
    have hownW := ownsMap_keep hown (hfw.block m h.lt.2 (fun e => hdm e.symm))
    refine (nput_any d m ps.length (cS ps + 1) (cC ps) ⟨0, f, t, ao, l.length, c⟩ D W (cell_of_blk hblk (by rw [NC_send]; simp [NC])) (cell_of_blk hblk (by rw [NC_send]; simp [NC])) (cell_of_blk hblk (by rw [NC_send]; simp [NC])) hownW hn (by omega) (by omega)).mono ?_
    rintro e w' ⟨rfl, ho, hf'⟩
    have en : (((cS ps + 1 : Nat) : Int) + (cC ps : Nat)) = (ps.length : Int) + 1 := by omega
    rw [en] at ho ⊢
    have hfr : Fr (fun k => k = d ∨ k = m) w w' := (hfw.mono (fun _ _ h => .inl h)).trans hf' (fun _ _ h => .inr h)
    have hv' : w'.ownsRow w.heap.size 5 1 (.slice ao l.length c) l.length (cellsOf l) := ownsRow_of_block hv (fun g hg => hf'.block g (hv.lt g hg).2 (fun e => by have := (hv.lt g hg).1; have := h.lt.2; omega))
    refine ⟨rfl, _, fun g => T g ∨ ao.map (·.block) = some g, h.put ⟨f, t, l, 0, false⟩ rfl hl (ao, c) hD ((hf'.block d (lt_of_block hblk) hdm).trans hblk) ho hown (own_src hv') (fun g o e => .inr (by have e' : ao = _ := e; rw [e']; rfl)) (fun g hg => .inl hg) (fun g hg => ?_) hfr, hfr, fun g hg => ?_⟩
    · rcases hg with hg | hg
      · exact ⟨(h.ns g hg).1, (h.ns g hg).2.1, Nat.lt_of_lt_of_le (h.ns g hg).2.2 hfr.size⟩
      · have := own_block hv' g hg
        have := h.lt
        omega
    · rcases hg with hg | hg
      · exact .inl hg
      · exact .inr (own_block hv' g hg).1
  have hcs : cS ps ≤ 1048576 := by omega
  clear h c1 c3 c4 c5 fz hx hsum hdm
  go_enter Try.func9, Try.ntmps9
  go_wp2_with fail
  refine ((unhide HQ) f).mono ?_
  rintro e w1 ⟨rfl, hw⟩
  obtain rfl := hw.symm
  rw [hf]
  go_wp2_with fail
  refine ((unhide HQ) t).mono ?_
  rintro e w1 ⟨rfl, hw⟩
  obtain rfl := hw.symm
  rw [ht]
  clear hf ht HQ
  go_wp2_with fail
  refine ((unhide hC) _ ((Fr.refl (fun k => k = d) w).setCell (p := ⟨d, 2, none⟩) (.inl rfl) _)).mono ?_
  rintro e w2 ⟨ao, c, rfl, hv, hf2⟩
  have H2 := hide (And.intro hv hf2)
  clear hv hf2
  go_wp2_with fail
  refine ((unhide HP) w2 ao c (unhide H2).2 (unhide H2).1).mono ?_
  rintro e w3 ⟨rfl, hfin⟩
  have H3 := hide hfin
  clear hfin
  go_wp2_with fail
  go_ret2
  exact ⟨rfl, unhide H3⟩
theorem ns_sendS (d m : Nat) (pl f t : Int) (ps : List PK) (x : Value) (l : List Nat) (w W : World) (h : NS w W d m pl ps) (hf : isP pl f = true) (ht : isP pl t = true) (hx : ∀ W', Fr (fun k => k = d) W W' → Src W' x l) (hl : l.length ≤ 1048576) (hn : ps.length ≤ 1048576) (z : Int) (hz : z = (ps.length : Int) + 1) :
    Calls Try.prog 9 #[.pointer (some ⟨d, 0, none⟩), .int .i64 f, .int .i64 t, x] W fun e w' => e = .returned (.tuple #[.int .i64 z, .int .i64 0]) ∧ NS w w' d m pl (ps ++ [⟨f, t, l, 0, false⟩]) ∧ Fr (fun k => k = d ∨ k = m) W w' := by
  obtain ⟨sv, T, h1, h2⟩ := h.at_
  subst hz
  refine (send_okS d m pl f t ps sv T x l W h1 hf ht hx hl hn).mono ?_
  rintro e w' ⟨rfl, sv', T', hN, hf', hT⟩
  exact ⟨rfl, ⟨⟨sv', T', hN, fun g hg => (hT g hg).elim (h2 g) (Nat.le_trans h.fr.size)⟩, h.ab hf', h.d, h.m⟩, hf'⟩
theorem Src.none {w w' : World} {x : Value} (h : Src w x []) : Src w' x [] := by
  rcases h with h | ⟨g, o, c, hx, _⟩ | h
  · exact .inl h
  · exact .inr (.inl ⟨g, o, c, hx, fun j v hv => by simp [cellsOf] at hv⟩)
  · exact .inr (.inr h)
end Go.Proofs.Ytedmhpplhbaglaa
