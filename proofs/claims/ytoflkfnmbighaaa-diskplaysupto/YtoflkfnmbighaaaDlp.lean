import Derived.Test.YtoflkfnmbighaaaDlo
namespace Go.Proofs.Ytoflkfnmbighaaa
open Go.RowKit Go.ChangeShapes Go.WideShapes Go.Maps Go.Sort

/-- A bit of a file turned. -/
def DM.turned (s : DM) (x : List UInt8) (a k : Nat) : DM := { s with F := fun j => if j = x then (s.F x).turn a k else s.F j }
set_option maxRecDepth 100000 in
theorem turn_bad (d m : Nat) (s : DM) (q : DW) (O : Nat → Prop) (name : ByteArray) (a bit : Int) (w : World) (h : DkAt w d m s q O) (ho : s.off = false) (hnm : name.size ≤ maxLen) (hh : Maps.has s.D (.string (nm name)) = true) (hn : a < 0 ∨ ((s.F (nm name)).b.length : Int) ≤ a ∨ 7 < bit) :
    Calls Try.prog 46 #[.pointer (some ⟨d, 0, none⟩), .string name, .int .i64 a, .int .u64 bit] w fun e w' => e = .returned (.int .i64 1) ∧ Fr (fun _ => False) w w' := by
  have HF := hide (find_at d m s q O name w h ho hnm hh)
  obtain ⟨c0, _⟩ := (h.at_ _ hh).2.cells
  obtain ⟨bo, bc, e⟩ := own_form (h.at_ _ hh).2.bo
  rw [e] at c0
  clear h ho hnm hh e
  generalize (s.F (nm name)).b.length = BL at *
  by_cases h1 : a < 0
  · clear hn
    go_enter Try.func46, Try.ntmps46
    go_wp2_with (go_at_call 33; refine (unhide HF).mono ?_; rintro e w' ⟨rfl, rfl⟩; clear HF)
    go_ret
    exact ⟨rfl, Fr.refl _ _⟩
  · by_cases h2 : (BL : Int) ≤ a
    · clear hn
      go_enter Try.func46, Try.ntmps46
      go_wp2_with (go_at_call 33; refine (unhide HF).mono ?_; rintro e w' ⟨rfl, rfl⟩; clear HF)
      go_ret
      exact ⟨rfl, Fr.refl _ _⟩
    · have h3 : 7 < bit := by omega
      clear hn
      go_enter Try.func46, Try.ntmps46
      go_wp2_with (go_at_call 33; refine (unhide HF).mono ?_; rintro e w' ⟨rfl, rfl⟩; clear HF)
      go_ret
      exact ⟨rfl, Fr.refl _ _⟩
set_option maxHeartbeats 2000000 in
set_option maxRecDepth 100000 in
theorem turn_at (d m : Nat) (s : DM) (q : DW) (O : Nat → Prop) (name : ByteArray) (a k : Nat) (w : World) (h : DkAt w d m s q O) (ho : s.off = false) (hnm : name.size ≤ maxLen) (hh : Maps.has s.D (.string (nm name)) = true) (ha : a < (s.F (nm name)).b.length) (hk : k < 8) :
    Calls Try.prog 46 #[.pointer (some ⟨d, 0, none⟩), .string name, .int .i64 (a : Nat), .int .u64 (k : Nat)] w fun e w' => e = .returned (.int .i64 0) ∧ ∃ q' O', DkAt w' d m (s.turned (nm name) a k) q' O' ∧ Fr O w w' ∧ ∀ k, O' k → O k ∨ w.heap.size ≤ k := by
  have HF := hide (find_at d m s q O name w h ho hnm hh)
  have hA := (h.at_ _ hh).2
  obtain ⟨c0, _⟩ := hA.cells
  obtain ⟨bo, bc, e⟩ := own_form hA.bo
  rw [e] at c0 hA
  obtain ⟨z, hz⟩ : ∃ z : Int, z = ((((s.F (nm name)).b.getD a 0 % 256) ^^^ 2 ^ k : Nat) : Int) := ⟨_, rfl⟩
  obtain ⟨g, rfl, hcell, hfz, hA2, hf2⟩ := hA.turned a k ha hk z hz
  have hown := h.own _ hh
  have hgO : O g := hown.2.1 g (by rw [e]; rfl)
  have hD := h.file (nm name) hh _ _ _ (hf2.mono (fun b _ e2 => .inr (.inl (by rw [e, e2]; rfl)))) hA2 (fun b hb => .inl (by rw [e]; exact hb)) (fun b hb => .inl hb)
  have HD := hide (And.intro hD (And.intro (hf2.mono (fun b _ e2 => e2 ▸ hgO) : Fr O w (w.setCell ⟨g, a, none⟩ (.int .u8 z))) (And.intro hown (And.intro e hgO))))
  have hv256 : (s.F (nm name)).b.getD a 0 % 256 < 256 := Nat.mod_lt _ (by decide)
  clear h ho hnm hh hA hA2 hf2 hD hown e
  generalize (s.F (nm name)).b.getD a 0 % 256 = v at *
  generalize (s.F (nm name)).b.length = BL at *
  have hk8 : k = 0 ∨ k = 1 ∨ k = 2 ∨ k = 3 ∨ k = 4 ∨ k = 5 ∨ k = 6 ∨ k = 7 := by omega
  have hx : bits .xor .u8 (v : Int) ((2 ^ k : Nat) : Int) = z := by rw [hz]; exact u8_xor_nat v (2 ^ k) hv256 (show 2 ^ k < 2 ^ 8 from Nat.pow_lt_pow_right (by decide) hk)
  clear hz hk
  rcases hk8 with rfl | rfl | rfl | rfl | rfl | rfl | rfl | rfl
  all_goals
    simp at hx
    go_enter Try.func46, Try.ntmps46
    go_wp2_with (go_at_call 33; refine (unhide HF).mono ?_; rintro e w' ⟨rfl, rfl⟩; clear HF)
    go_ret
    exact ⟨rfl, _, _, (unhide HD).1, (unhide HD).2.1, fun k hk => hk.elim .inl (fun hk => hk.elim (fun h1 => .inl (by cases h1; exact hgO)) (fun h1 => .inl ((unhide HD).2.2.1.2.2 k h1)))⟩
end Go.Proofs.Ytoflkfnmbighaaa
