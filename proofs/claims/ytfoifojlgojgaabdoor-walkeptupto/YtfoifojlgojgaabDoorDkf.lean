import Derived.Test.YtfoifojlgojgaabDoorDkl
namespace Go.Proofs.YtfoifojlgojgaabDoor
open Go.RowKit Go.ChangeShapes Go.WideShapes Go.Maps Go.Sort Go.Shelf

set_option maxRecDepth 100000 in
/-- Read(name, 0, n), n at most the file's bytes. -/
theorem read0_at (d m n : Nat) (s : DM) (q : DW) (O : Nat → Prop) (name : ByteArray) (w : World) (h : DkAt w d m s q O) (ho : s.off = false) (hn : name.size ≤ maxLen) (hh : Maps.has s.D (.string (nm name)) = true) (hb : (s.F (nm name)).b.length ≤ 1048576) (hl : n ≤ (s.F (nm name)).b.length) :
    Calls Tryd.prog 22 #[.pointer (some ⟨d, 0, none⟩), .string name, .int .i64 0, .int .i64 (n : Nat)] w fun e w' => ∃ v, e = .returned (.tuple #[v, .int .i64 0]) ∧ w'.ownsRow w.heap.size 5 1 v n (cellsOf ((s.F (nm name)).b.take n)) ∧ Fr (fun _ => False) w w' := by
  have HF := hide (find_at d m s q O name w h ho hn hh)
  have hA := (h.at_ _ hh).2
  obtain ⟨c0, _⟩ := hA.cells
  obtain ⟨bo, bc, e⟩ := own_form hA.bo
  rw [e] at c0
  have hcap : (s.F (nm name)).b.length ≤ bc := by
    have hbo := hA.bo
    rw [e] at hbo
    rcases hbo.2 with ⟨_, e2⟩ | ⟨g, c, cur, e2, _, _, hc, _⟩
    · omega
    · simp only [Value.slice.injEq] at e2; omega
  have hsrc : Src w (.slice bo n bc) ((s.F (nm name)).b.take n) := by
    have hbo := hA.bo
    rw [e] at hbo
    exact (own_src hbo).takeN n hl
  generalize (s.F (nm name)).b = B at *
  have HC : Hid (∀ W, Fr (fun _ => False) w W → Calls Tryd.prog 38 #[.slice bo n bc] W fun e w' => ∃ v, e = .returned v ∧ w'.ownsRow w.heap.size 5 1 v n (cellsOf (B.take n)) ∧ Fr (fun _ => False) w w') := fun W hW => by
    refine (clone_any _ _ W (hsrc.fr hW (fun _ _ _ _ _ h => h)) (by rw [List.length_take]; omega)).mono ?_
    rintro e w' ⟨v, h1, h2, h3⟩
    rw [List.length_take, Nat.min_eq_left hl] at h2
    exact ⟨v, h1, own_mono h2 hW.size, hW.trans h3 (fun _ _ h => h)⟩
  have hncap : n ≤ bc := by omega
  clear h ho hn hh e hA hsrc
  go_enter Tryd.func22, Tryd.ntmps22
  go_wp2_with (go_at_call 32; refine (unhide HF).mono ?_; rintro e w' ⟨rfl, rfl⟩)
  refine ((unhide HC) _ (Fr.refl _ _)).mono ?_
  rintro e w2 ⟨v, rfl, hv, hf⟩
  have H2 := hide (And.intro hv hf)
  clear hv hf
  go_wp2_with fail
  go_ret2
  exact ⟨v, rfl, (unhide H2).1, (unhide H2).2⟩
theorem Fr.of_below {w w' : World} (h : Below w.heap.size w w') : Fr (fun _ => False) w w' := ⟨h.os, h.tape, h.output, h.size, fun k hk _ => h.block k hk⟩
set_option maxRecDepth 100000 in
theorem sclone_any (s : ByteArray) (w : World) (hs : s.size ≤ 281474976710656) :
    Calls Tryd.prog 14 #[.string s] w fun e w' => e = .returned (.string s) ∧ Fr (fun _ => False) w w' := by
  have H := hide (Any.stringslite_Clone laysC s w hs)
  go_enter Tryd.func14, Tryd.ntmps14
  go_wp2_with (go_at_call 27; refine (unhide H).mono ?_; rintro e w' ⟨rfl, hb⟩)
  have HB := hide (Fr.of_below hb)
  clear hb
  go_wp2_with fail
  go_ret
  exact ⟨rfl, unhide HB⟩
end Go.Proofs.YtfoifojlgojgaabDoor
