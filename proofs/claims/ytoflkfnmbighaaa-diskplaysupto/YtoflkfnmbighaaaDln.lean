import Derived.Test.YtoflkfnmbighaaaDlm
namespace Go.Proofs.Ytoflkfnmbighaaa
open Go.RowKit Go.ChangeShapes Go.WideShapes Go.Maps Go.Sort

set_option maxRecDepth 100000 in
/-- Append where there is no room. -/
theorem append_full (d m : Nat) (s : DM) (q : DW) (O : Nat → Prop) (name : ByteArray) (xo : Option Addr) (n xc : Nat) (w : World) (h : DkAt w d m s q O) (ho : s.off = false) (hn : name.size ≤ maxLen) (hh : Maps.has s.D (.string (nm name)) = true) (hfu : s.full = true ∨ s.limit < s.used + n) (hlim : s.limit ≤ 1048576) (hus : s.used ≤ 1048576) :
    Calls Try.prog 10 #[.pointer (some ⟨d, 0, none⟩), .string name, .slice xo n xc] w fun e w' => e = .returned (.int .i64 5) ∧ Fr (fun _ => False) w w' := by
  have HF := hide (find_at d m s q O name w h ho hn hh)
  obtain ⟨c0, c1, c2, c3, c4, c5, c6, c7, fz⟩ := h.cells
  clear c1 c3 c4 c6 c7 fz h ho hn hh
  obtain ⟨L, hL⟩ : ∃ L : Nat, s.limit = L := ⟨_, rfl⟩
  obtain ⟨U, hU⟩ : ∃ U : Nat, s.used = U := ⟨_, rfl⟩
  rw [hL] at c0 hlim hfu
  rw [hU] at c2 hus hfu
  clear hL hU
  by_cases hf : s.full = true
  · rw [hf] at c5
    clear hf hfu
    go_enter Try.func10, Try.ntmps10
    go_wp2_with (go_at_call 33; refine (unhide HF).mono ?_; rintro e w' ⟨rfl, rfl⟩; clear HF)
    go_quiet (fail)
    go_wp2_with fail
    go_ret
    exact ⟨rfl, (Fr.refl _ _).drewN _⟩
  · have hf2 : s.full = false := by simpa using hf
    have hov : (L : Int) - (U : Int) < (n : Int) := by
      rcases hfu with h | h
      · exact absurd h hf
      · omega
    rw [hf2] at c5
    clear hf hfu hf2
    go_enter Try.func10, Try.ntmps10
    go_wp2_with (go_at_call 33; refine (unhide HF).mono ?_; rintro e w' ⟨rfl, rfl⟩; clear HF)
    go_quiet (fail)
    go_wp2_with fail
    go_ret
    exact ⟨rfl, (Fr.refl _ _).drewN _⟩
set_option maxRecDepth 100000 in
theorem create_off (d m : Nat) (s : DM) (q : DW) (O : Nat → Prop) (name : ByteArray) (w : World) (h : DkAt w d m s q O) (ho : s.off = true) :
    Calls Try.prog 9 #[.pointer (some ⟨d, 0, none⟩), .string name] w fun e w' => e = .returned (.int .i64 6) ∧ w' = w := by
  obtain ⟨c0, c1, c2, c3, c4, c5, c6, c7, fz⟩ := h.cells
  rw [ho] at c4
  go_enter Try.func9, Try.ntmps9
  go_wp2
  go_ret
  exact ⟨rfl, rfl⟩
set_option maxRecDepth 100000 in
/-- Create of a name that may not be. -/
theorem create_bad (d m : Nat) (s : DM) (q : DW) (O : Nat → Prop) (name : ByteArray) (w : World) (h : DkAt w d m s q O) (ho : s.off = false) (hn : name.size < 1 ∨ 64 < name.size) :
    Calls Try.prog 9 #[.pointer (some ⟨d, 0, none⟩), .string name] w fun e w' => e = .returned (.int .i64 1) ∧ Fr (fun _ => False) w w' := by
  obtain ⟨c0, c1, c2, c3, c4, c5, c6, c7, fz⟩ := h.cells
  rw [ho] at c4
  clear c0 c2 c3 c5 c6 c7 fz h ho
  obtain ⟨L, hL⟩ : ∃ L : Nat, name.size = L := ⟨_, rfl⟩
  rw [hL] at hn
  by_cases h1 : L < 1
  · obtain rfl : L = 0 := by omega
    go_enter Try.func9, Try.ntmps9
    go_wp2_with fail
    go_ret
    exact ⟨rfl, Fr.refl _ _⟩
  · have h2 : 64 < L := by omega
    have h1' : decide ((L : Int) < 1) = false := decide_eq_false (by omega)
    go_enter Try.func9, Try.ntmps9
    go_wp2_with fail
    go_ret
    exact ⟨rfl, Fr.refl _ _⟩
set_option maxRecDepth 100000 in
/-- Cut at a place that a file has not. -/
theorem cut_bad (d m : Nat) (s : DM) (q : DW) (O : Nat → Prop) (name : ByteArray) (n : Int) (w : World) (h : DkAt w d m s q O) (ho : s.off = false) (hnm : name.size ≤ maxLen) (hh : Maps.has s.D (.string (nm name)) = true) (hn : n < 0 ∨ ((s.F (nm name)).b.length : Int) < n) :
    Calls Try.prog 40 #[.pointer (some ⟨d, 0, none⟩), .string name, .int .i64 n] w fun e w' => e = .returned (.int .i64 1) ∧ Fr (fun _ => False) w w' := by
  have HF := hide (find_at d m s q O name w h ho hnm hh)
  obtain ⟨c0, _⟩ := (h.at_ _ hh).2.cells
  obtain ⟨bo, bc, e⟩ := own_form (h.at_ _ hh).2.bo
  rw [e] at c0
  clear h ho hnm hh e
  generalize (s.F (nm name)).b.length = BL at *
  by_cases h1 : n < 0
  · go_enter Try.func40, Try.ntmps40
    go_wp2_with (go_at_call 33; refine (unhide HF).mono ?_; rintro e w' ⟨rfl, rfl⟩; clear HF)
    go_ret
    exact ⟨rfl, Fr.refl _ _⟩
  · have h2 : (BL : Int) < n := by omega
    go_enter Try.func40, Try.ntmps40
    go_wp2_with (go_at_call 33; refine (unhide HF).mono ?_; rintro e w' ⟨rfl, rfl⟩; clear HF)
    go_ret
    exact ⟨rfl, Fr.refl _ _⟩
end Go.Proofs.Ytoflkfnmbighaaa
