import Derived.Test.YtoflkfnmbighaaaDkh
namespace Go.Proofs.Ytoflkfnmbighaaa
open Go.RowKit Go.ChangeShapes Go.WideShapes Go.Maps Go.Sort

/-- A file all of whose bytes are safe. -/
def FM.synced (f : FM) : FM := ⟨f.b, f.b.length, []⟩
set_option maxRecDepth 100000 in
theorem fsync_any (fb : Nat) (f : FM) (bv pv : Value) (w : World) (h : FAt w fb f bv pv) :
    Calls Try.prog 50 #[.pointer (some ⟨fb, 0, none⟩)] w fun e w' => e = .returned (.tuple #[]) ∧ FAt w' fb f.synced bv (.slice none 0 0) ∧ Fr (fun g => g = fb) w w' := by
  obtain ⟨c0, c1, c2, fz⟩ := h.cells
  have f1 := fz 1
  have f2 := fz 2
  clear fz
  obtain ⟨bo, bc, rfl⟩ := own_form h.bo
  have H := hide h
  clear h
  go_enter Try.func50, Try.ntmps50
  go_wp2
  go_end0
  refine ⟨rfl, ⟨?_, ?_, World.ownsRow_nil _ _ _ _⟩, ((Fr.refl _ _).at1 _ _).at1 _ _⟩
  · rw [blkset (blkset (unhide H).blk 1 _) 2 _]
    simp [FM.synced]
  · exact ownsRow_of_block (unhide H).bo (fun g hg => by
      have hne := ((unhide H).kinds.1 g hg).1
      rw [Below.heap_setCell _ _ _ _ hne, Below.heap_setCell _ _ _ _ hne])
set_option maxRecDepth 100000 in
/-- Sync of a file that is there. -/
theorem sync_at (d m : Nat) (s : DM) (q : DW) (O : Nat → Prop) (name : ByteArray) (w : World) (h : DkAt w d m s q O) (ho : s.off = false) (hn : name.size ≤ maxLen) (hh : Maps.has s.D (.string (nm name)) = true) :
    Calls Try.prog 38 #[.pointer (some ⟨d, 0, none⟩), .string name] w fun e w' => e = .returned (.int .i64 0) ∧ ∃ q' O', DkAt w' d m { s with F := fun k => if k = nm name then (s.F (nm name)).synced else s.F k } q' O' ∧ Fr O w w' ∧ ∀ k, O' k → O k ∨ w.heap.size ≤ k := by
  have HF := hide (find_at d m s q O name w h ho hn hh)
  have hA := (h.at_ _ hh).2
  have HS := hide (fsync_any _ _ _ _ w hA)
  have H := hide (And.intro h hh)
  clear h ho hn hh hA
  go_enter Try.func38, Try.ntmps38
  go_wp2_with (first
    | (go_at_call 33; refine (unhide HF).mono ?_; rintro e w' ⟨rfl, rfl⟩; clear HF)
    | (go_at_call 50; refine (unhide HS).mono ?_; rintro e w2 ⟨rfl, hA2, hf2⟩))
  have hD := (unhide H).1.file (nm name) (unhide H).2 _ _ _ (hf2.mono (fun g _ e => Or.inl e)) hA2 (fun g hg => .inl hg) (fun g hg => by cases hg)
  have hO := (unhide H).1.own _ (unhide H).2
  have hfO : Fr O _ w2 := hf2.mono (fun g _ (e : g = q.fb (nm name)) => e ▸ hO.1)
  have HD := hide (And.intro hD (And.intro hfO hO))
  clear hD hO hA2 hf2 hfO
  go_wp2_with fail
  go_ret
  exact ⟨rfl, _, _, (unhide HD).1, (unhide HD).2.1, fun k hk => hk.elim .inl (fun hk => hk.elim (fun h1 => .inl ((unhide HD).2.2.2.1 k h1)) (fun h1 => by cases h1))⟩
set_option maxRecDepth 100000 in
theorem used_any (d m : Nat) (s : DM) (q : DW) (O : Nat → Prop) (w : World) (h : DkAt w d m s q O) :
    Calls Try.prog 26 #[.pointer (some ⟨d, 0, none⟩)] w fun e w' => e = .returned (.int .i64 (s.used : Nat)) ∧ w' = w := by
  obtain ⟨c0, c1, c2, c3, c4, c5, c6, c7, fz⟩ := h.cells
  go_enter Try.func26, Try.ntmps26
  go_wp2
  go_ret
  exact ⟨rfl, rfl⟩
set_option maxRecDepth 100000 in
theorem synced_at (d m : Nat) (s : DM) (q : DW) (O : Nat → Prop) (name : ByteArray) (w : World) (h : DkAt w d m s q O) (ho : s.off = false) (hn : name.size ≤ maxLen) (hh : Maps.has s.D (.string (nm name)) = true) :
    Calls Try.prog 24 #[.pointer (some ⟨d, 0, none⟩), .string name] w fun e w' => e = .returned (.tuple #[.int .i64 ((s.F (nm name)).safe : Nat), .int .i64 0]) ∧ w' = w := by
  have HF := hide (find_at d m s q O name w h ho hn hh)
  obtain ⟨_, c1, _⟩ := (h.at_ _ hh).2.cells
  clear h ho hn hh
  go_enter Try.func24, Try.ntmps24
  go_wp2_with (go_at_call 33; refine (unhide HF).mono ?_; rintro e w' ⟨rfl, rfl⟩)
  go_ret2
  exact ⟨rfl, rfl⟩
set_option maxRecDepth 100000 in
theorem start_any (d m : Nat) (s : DM) (q : DW) (O : Nat → Prop) (w : World) (h : DkAt w d m s q O) :
    Calls Try.prog 19 #[.pointer (some ⟨d, 0, none⟩)] w fun e w' => e = .returned (.tuple #[]) ∧ DkAt w' d m { s with off := false } q O ∧ Fr (fun k => k = d) w w' := by
  obtain ⟨c0, c1, c2, c3, c4, c5, c6, c7, fz⟩ := h.cells
  have f4 := fz 4
  clear fz
  have H := hide h
  clear h
  go_enter Try.func19, Try.ntmps19
  go_wp2
  go_end0
  refine ⟨rfl, (unhide H).upd _ rfl rfl ?_ ((Fr.refl _ _).at1 _ _), (Fr.refl _ _).at1 _ _⟩
  rw [blkset (unhide H).blk]
  simp [DM.cells]
set_option maxRecDepth 100000 in
theorem fill_any (d m : Nat) (s : DM) (q : DW) (O : Nat → Prop) (b : Bool) (w : World) (h : DkAt w d m s q O) :
    Calls Try.prog 16 #[.pointer (some ⟨d, 0, none⟩), .bool b] w fun e w' => e = .returned (.tuple #[]) ∧ DkAt w' d m { s with full := b } q O ∧ Fr (fun k => k = d) w w' := by
  obtain ⟨c0, c1, c2, c3, c4, c5, c6, c7, fz⟩ := h.cells
  have f5 := fz 5
  clear fz
  have H := hide h
  clear h
  go_enter Try.func16, Try.ntmps16
  go_wp2
  go_end0
  refine ⟨rfl, (unhide H).upd _ rfl rfl ?_ ((Fr.refl _ _).at1 _ _), (Fr.refl _ _).at1 _ _⟩
  rw [blkset (unhide H).blk]
  simp [DM.cells]
set_option maxRecDepth 100000 in
theorem arm_ok (d m : Nat) (s : DM) (q : DW) (O : Nat → Prop) (n b : Int) (w : World) (h : DkAt w d m s q O) (ho : s.off = false) (hn : 1 ≤ n) (hb : 0 ≤ b) :
    Calls Try.prog 44 #[.pointer (some ⟨d, 0, none⟩), .int .i64 n, .int .i64 b] w fun e w' => e = .returned (.int .i64 0) ∧ DkAt w' d m { s with left := n, tear := b } q O ∧ Fr (fun k => k = d) w w' := by
  obtain ⟨c0, c1, c2, c3, c4, c5, c6, c7, fz⟩ := h.cells
  rw [ho] at c4
  have f6 := fz 6
  have f7 := fz 7
  clear fz ho
  have H := hide h
  clear h
  go_enter Try.func44, Try.ntmps44
  go_wp2
  go_ret
  refine ⟨rfl, (unhide H).upd _ rfl rfl ?_ (((Fr.refl _ _).at1 _ _).at1 _ _), ((Fr.refl _ _).at1 _ _).at1 _ _⟩
  rw [blkset (blkset (unhide H).blk 6 _) 7 _]
  simp [DM.cells]
end Go.Proofs.Ytoflkfnmbighaaa
