import Derived.Test.YtoflkfnmbighaaaDkc
namespace Go.Proofs.Ytoflkfnmbighaaa
open Go.RowKit Go.ChangeShapes Go.WideShapes

theorem own_formX {w : World} {base e size n : Nat} {v : Value} {xs : List Value} (h : w.ownsRow base e size v n xs) : ∃ ao cap, v = .slice ao n cap := by
  rcases h.2 with ⟨rfl, rfl⟩ | ⟨g, cap, cur, rfl, _⟩
  · exact ⟨none, 0, rfl⟩
  · exact ⟨some ⟨g, 0, none⟩, cap, rfl⟩
theorem FAt.cells {w : World} {fb : Nat} {f : FM} {bv pv : Value} (h : FAt w fb f bv pv) : w.cell? ⟨fb, 0, none⟩ = some bv ∧ w.cell? ⟨fb, 1, none⟩ = some (.int .i64 (f.safe : Nat)) ∧ w.cell? ⟨fb, 2, none⟩ = some pv ∧ ∀ i, w.frozen? ⟨fb, i, none⟩ = false := by
  refine ⟨?_, ?_, ?_, fun i => ?_⟩ <;> simp [World.cell?, World.frozen?, h.blk]
theorem DkAt.cells {w : World} {d m : Nat} {s : DM} {q : DW} {O : Nat → Prop} (h : DkAt w d m s q O) : w.cell? ⟨d, 0, none⟩ = some (.int .i64 (s.limit : Nat)) ∧ w.cell? ⟨d, 1, none⟩ = some (.map (some m)) ∧ w.cell? ⟨d, 2, none⟩ = some (.int .i64 (s.used : Nat)) ∧ w.cell? ⟨d, 3, none⟩ = some (.int .i64 (s.writes : Nat)) ∧ w.cell? ⟨d, 4, none⟩ = some (.bool s.off) ∧ w.cell? ⟨d, 5, none⟩ = some (.bool s.full) ∧ w.cell? ⟨d, 6, none⟩ = some (.int .i64 s.left) ∧ w.cell? ⟨d, 7, none⟩ = some (.int .i64 s.tear) ∧ ∀ i, w.frozen? ⟨d, i, none⟩ = false := by
  refine ⟨?_, ?_, ?_, ?_, ?_, ?_, ?_, ?_, fun i => ?_⟩ <;> simp [World.cell?, World.frozen?, h.blk, DM.cells]
set_option maxRecDepth 100000 in
theorem size_at (d m : Nat) (s : DM) (q : DW) (O : Nat → Prop) (name : ByteArray) (w : World) (h : DkAt w d m s q O) (ho : s.off = false) (hn : name.size ≤ maxLen) (hh : Maps.has s.D (.string (nm name)) = true) :
    Calls Try.prog 12 #[.pointer (some ⟨d, 0, none⟩), .string name] w fun e w' => e = .returned (.tuple #[.int .i64 ((s.F (nm name)).b.length : Nat), .int .i64 0]) ∧ w' = w := by
  have HF := hide (find_at d m s q O name w h ho hn hh)
  obtain ⟨c0, _⟩ := (h.at_ _ hh).2.cells
  obtain ⟨bo, bc, e⟩ := own_form (h.at_ _ hh).2.bo
  rw [e] at c0
  clear h ho hn hh e
  go_enter Try.func12, Try.ntmps12
  go_wp2_with (go_at_call 33; refine (unhide HF).mono ?_; rintro e w' ⟨rfl, rfl⟩)
  go_ret2
  exact ⟨rfl, rfl⟩
set_option maxRecDepth 100000 in
theorem writes_any (d m : Nat) (s : DM) (q : DW) (O : Nat → Prop) (w : World) (h : DkAt w d m s q O) :
    Calls Try.prog 13 #[.pointer (some ⟨d, 0, none⟩)] w fun e w' => e = .returned (.int .i64 (s.writes : Nat)) ∧ w' = w := by
  obtain ⟨c0, c1, c2, c3, c4, c5, c6, c7, fz⟩ := h.cells
  go_enter Try.func13, Try.ntmps13
  go_wp2
  go_ret
  exact ⟨rfl, rfl⟩
set_option maxRecDepth 100000 in
theorem off_any (d m : Nat) (s : DM) (q : DW) (O : Nat → Prop) (w : World) (h : DkAt w d m s q O) :
    Calls Try.prog 14 #[.pointer (some ⟨d, 0, none⟩)] w fun e w' => e = .returned (.bool s.off) ∧ w' = w := by
  obtain ⟨c0, c1, c2, c3, c4, c5, c6, c7, fz⟩ := h.cells
  go_enter Try.func14, Try.ntmps14
  go_wp2
  go_ret
  exact ⟨rfl, rfl⟩
/-- What a write is counted as: the disk behind it, and how many bytes come through. -/
def DM.count (s : DM) (n : Nat) : DM × Nat :=
  if s.left = 0 then ({ s with writes := s.writes + 1 }, n)
  else if 1 < s.left then ({ s with writes := s.writes + 1, left := s.left - 1 }, n)
  else ({ s with writes := s.writes + 1, left := s.left - 1, off := true }, (min (n : Int) s.tear).toNat)
theorem Fr.at1 {d : Nat} {a w : World} (h : Fr (fun k => k = d) a w) (i : Nat) (v : Value) : Fr (fun k => k = d) a (w.setCell ⟨d, i, none⟩ v) := h.setCell (.inl rfl) _
set_option maxRecDepth 100000 in
theorem count_any (d m : Nat) (s : DM) (q : DW) (O : Nat → Prop) (n : Nat) (w : World) (h : DkAt w d m s q O) (hw : s.writes < 4611686018427387904) (hn : n < 9223372036854775808) (hl0 : 0 ≤ s.left) (hl : s.left < 9223372036854775808) (ht0 : 0 ≤ s.tear) (ht : s.tear < 9223372036854775808) :
    Calls Try.prog 34 #[.pointer (some ⟨d, 0, none⟩), .int .i64 (n : Nat)] w fun e w' => e = .returned (.int .i64 ((s.count n).2 : Nat)) ∧ DkAt w' d m (s.count n).1 q O ∧ Fr (fun k => k = d) w w' := by
  obtain ⟨c0, c1, c2, c3, c4, c5, c6, c7, fz⟩ := h.cells
  have f3 := fz 3
  have f4 := fz 4
  have f6 := fz 6
  clear fz
  have HB := hide h
  by_cases l0 : s.left = 0
  · rw [l0] at c6
    have e : s.count n = ({ s with writes := s.writes + 1 }, n) := by simp [DM.count, l0]
    rw [e]
    clear h e hl0 hl
    have L0 := hide l0
    clear l0
    go_enter Try.func34, Try.ntmps34
    go_wp2
    go_ret
    refine ⟨rfl, (unhide HB).upd _ rfl rfl ?_ ((Fr.refl _ _).at1 _ _), (Fr.refl _ _).at1 _ _⟩
    rw [blkset (unhide HB).blk]
    simp [DM.cells]
  · by_cases l1 : 1 < s.left
    · have e : s.count n = ({ s with writes := s.writes + 1, left := s.left - 1 }, n) := by simp [DM.count, l0, l1]
      rw [e]
      clear h e
      generalize hL : s.left = L at *
      have g0 : (decide (L = 0)) = false := by simp [l0]
      have g1 : 0 < L - 1 := by omega
      have HL := hide hL
      clear hL
      go_enter Try.func34, Try.ntmps34
      go_wp2
      go_ret
      refine ⟨rfl, (unhide HB).upd _ rfl rfl ?_ (((Fr.refl _ _).at1 _ _).at1 _ _), ((Fr.refl _ _).at1 _ _).at1 _ _⟩
      rw [blkset (blkset (unhide HB).blk 3 _) 6 _]
      simp [DM.cells, unhide HL]
    · have e : s.count n = ({ s with writes := s.writes + 1, left := s.left - 1, off := true }, (min (n : Int) s.tear).toNat) := by simp [DM.count, l0, l1]
      rw [e]
      clear h e
      have l2 : s.left = 1 := by omega
      rw [l2] at c6
      generalize hT : s.tear = T at *
      have hmin : ((min (n : Int) T).toNat : Int) = min (n : Int) T := by omega
      rw [hmin]
      have HL := hide (And.intro l2 hT)
      clear l2 hT hmin l0 l1 hl0 hl
      go_enter Try.func34, Try.ntmps34
      go_wp2
      all_goals
        go_ret
        refine ⟨?_, (unhide HB).upd _ rfl rfl ?_ ((((Fr.refl _ _).at1 _ _).at1 _ _).at1 _ _), (((Fr.refl _ _).at1 _ _).at1 _ _).at1 _ _⟩
        · first
            | (rw [Int.min_eq_right (by omega)]; rfl)
            | (rw [Int.min_eq_left (by omega)]; rfl)
        · rw [blkset (blkset (blkset (unhide HB).blk 3 _) 6 _) 4 _]
          simp [DM.cells, (unhide HL).1, (unhide HL).2]
theorem Try.infoPc : (Try.prog.info? 98).map (fun i => (i.zero, i.size, i.bytes)) = some (some (.agg #[.int .i64 0, .int .i64 0]), 2, 16) := by kernel_rfl
theorem pcells_app (a : List (Nat × Nat)) (n k : Nat) : pcells (a ++ [(n, k)]) = pcells a ++ [.int .i64 (n : Nat), .int .i64 (k : Nat)] := by simp [pcells]
/-- append(pieces, piece{n, k}). -/
theorem app_piece (w : World) (v : Value) (ps : List (Nat × Nat)) (n k : Nat) (h : w.ownsRow 0 98 2 v ps.length (pcells ps)) (hl : ps.length ≤ 1000000000) :
    ∃ ao cap w', (Builtin.append_ #[70, 70] 70 #[v, .slice (some ⟨w.heap.size, 0, none⟩) 1 1]).run Try.prog (w.alloc (.cells #[.int .i64 (n : Nat), .int .i64 (k : Nat)] 98)) = .ok (.slice ao (ps.length + 1) cap) w' ∧ w'.ownsRow 0 98 2 (.slice ao (ps.length + 1) cap) (ps.length + 1) (pcells (ps ++ [(n, k)])) ∧ Fr (fun g => v.ownBlock = some g) w w' ∧
      ∀ g, (Value.slice ao (ps.length + 1) cap).ownBlock = some g → v.ownBlock = some g ∨ w.heap.size ≤ g := by
  obtain ⟨i0, hi, hz0, hz1, hz2⟩ := info_parts Try.infoPc
  have hb := ownsRow_of_block (w' := w.alloc (.cells #[.int .i64 (n : Nat), .int .i64 (k : Nat)] 98)) h (fun g hg => Below.heap_alloc _ _ _ (h.lt g hg).2)
  obtain ⟨v', w', hr, h2, h3, _, h5⟩ := run_append_own_at (P := Try.prog) (w := w.alloc (.cells #[.int .i64 (n : Nat), .int .i64 (k : Nat)] 98)) 0 70 70 98 i0 (.agg #[.int .i64 0, .int .i64 0]) 2 16 Try.underlying70 hi hz0 hz1 hz2 rfl (by decide) v ps.length (pcells ps) hb ⟨w.heap.size, 0, none⟩ 1 1 [.int .i64 (n : Nat), .int .i64 (k : Nat)] rfl (fun j u hu => by
    rw [addr_add, World.cell?_alloc_at _ _ _ _ rfl]; simpa using hu) (fun u hu => by simp at hu; rcases hu with rfl | rfl <;> rfl) (by simp only [maxLen]; omega) (by omega) (Nat.zero_le _)
  obtain ⟨ao, cap, rfl⟩ := own_formX h2
  refine ⟨ao, cap, w', hr, by rw [pcells_app]; exact h2, ((box1 w _).mono (fun _ _ h => h.elim)).grown h3 (fun g hg => .inl hg), fun g hg => ?_⟩
  rcases h5 with e | e
  · rw [e] at hg; exact .inl hg
  · rw [e] at hg; cases hg; exact .inr (by simp)
end Go.Proofs.Ytoflkfnmbighaaa
