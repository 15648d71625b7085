import Derived.Test.YthccbfgjekdiiaaDoorSbq
namespace Go.Proofs.YthccbfgjekdiiaaDoor
open Go.RowKit

set_option maxRecDepth 100000 in
set_option maxHeartbeats 1000000 in
/-- Write, where no block gets full: none held. -/
theorem write_s0 (b o : Nat) (m c : List Nat) (x : Value) (w : World) (hh : HM w b o m) (hx : Src w x c) (hxb : c = [] ∨ ∀ g o' n c', x = .slice (some ⟨g, o', none⟩) n c' → ¬ g = b) (hc : ∀ v ∈ c, v < 256) (hs : m.length % 64 + c.length < 64) (hz : m.length % 64 = 0) (hm : m.length < 9223372036854775808) :
    Calls Tryd.prog 55 #[.pointer (some ⟨b, o, none⟩), x] w fun e w' => e = .returned (.tuple #[]) ∧ HM w' b o (m ++ c) ∧ FrH w w' b o := by
  obtain ⟨xo, xc, rfl⟩ := hx.form
  have c72 : w.cell? ⟨b, o + 72, none⟩ = some (.int .u64 (m.length : Nat)) := hh.tk
  have z72 := hh.fz 72 (by decide)
  have h1 := hh.putT (m.length + c.length)
  have hF1 : Fr (fun k => k = b) w (w.setCell ⟨b, o + 72, none⟩ (.int .u64 ((m.length + c.length : Nat) : Int))) := Fr.setCell (S := fun k => k = b) (Fr.refl _ _) (p := ⟨b, o + 72, none⟩) (.inl rfl) _
  obtain ⟨W', hcp, hH, hF2⟩ := copy_rest (h := 0) h1 (hx.frD hF1 hxb) hc (by omega) 64 64 (by omega)
  rw [Nat.add_zero] at hcp
  have hH2 : HM W' b o (m ++ c) := hm_small hs (by rw [hz]; exact hH)
  have hFF := (FrH.setCell w b o (o + 72) (.int .u64 ((m.length + c.length : Nat) : Int)) (by omega) (by omega)).trans hF2
  obtain ⟨W1, hW1⟩ : ∃ W1, w.setCell ⟨b, o + 72, none⟩ (.int .u64 ((m.length : Int) + (c.length : Int))) = W1 := ⟨_, rfl⟩
  have hW1' : w.setCell ⟨b, o + 72, none⟩ (.int .u64 ((m.length + c.length : Nat) : Int)) = W1 := by rw [← hW1]; congr 1
  rw [hW1'] at hcp
  have HB := hide (And.intro hH2 hFF)
  clear hH2 hFF hH hF2 hF1 h1 hx hxb hc hh hW1'
  have r1 : (m.length : Int) % 64 = 0 := by omega
  have l64 : ¬ (64 : Int) ≤ (c.length : Int) := by omega
  have cl : (c.length : Int) < 64 := by omega
  generalize m.length = L at *
  generalize c.length = C at *
  go_enter Tryd.func55, Tryd.ntmps55
  go_wp2_with fail
  go_loopw [1] (fun bv wr => bv = .slice xo C xc ∧ wr = W1) (fun _ _ => 0)
  case atStart => exact ⟨rfl, rfl⟩
  case round =>
    obtain ⟨rfl, rfl⟩ := hrel
    go_wp2_with fail
    go_end0
    exact ⟨rfl, (unhide HB).1, (unhide HB).2⟩
set_option maxRecDepth 100000 in
set_option maxHeartbeats 1000000 in
/-- Write, where no block gets full: some held. -/
theorem write_s1 (b o : Nat) (m c : List Nat) (x : Value) (w : World) (hh : HM w b o m) (hx : Src w x c) (hxb : c = [] ∨ ∀ g o' n c', x = .slice (some ⟨g, o', none⟩) n c' → ¬ g = b) (hc : ∀ v ∈ c, v < 256) (hs : m.length % 64 + c.length < 64) (hz : ¬ m.length % 64 = 0) (hm : m.length < 9223372036854775808) (hcap : ∀ g n c', x = .slice g n c' → n ≤ c') :
    Calls Tryd.prog 55 #[.pointer (some ⟨b, o, none⟩), x] w fun e w' => e = .returned (.tuple #[]) ∧ HM w' b o (m ++ c) ∧ FrH w w' b o := by
  obtain ⟨xo, xc, rfl⟩ := hx.form
  replace hcap := hcap _ _ _ rfl
  have c72 : w.cell? ⟨b, o + 72, none⟩ = some (.int .u64 (m.length : Nat)) := hh.tk
  have z72 := hh.fz 72 (by decide)
  have h1 := hh.putT (m.length + c.length)
  have hF1 : Fr (fun k => k = b) w (w.setCell ⟨b, o + 72, none⟩ (.int .u64 ((m.length + c.length : Nat) : Int))) := Fr.setCell (S := fun k => k = b) (Fr.refl _ _) (p := ⟨b, o + 72, none⟩) (.inl rfl) _
  obtain ⟨W', hcp, hH, hF2⟩ := copy_rest (h := m.length % 64) h1 (hx.frD hF1 hxb) hc (by omega) (64 - m.length % 64) (64 - m.length % 64) (by omega)
  have hH2 : HM W' b o (m ++ c) := hm_small hs hH
  have hFF := (FrH.setCell w b o (o + 72) (.int .u64 ((m.length + c.length : Nat) : Int)) (by omega) (by omega)).trans hF2
  obtain ⟨W1, hW1⟩ : ∃ W1, w.setCell ⟨b, o + 72, none⟩ (.int .u64 ((m.length : Int) + (c.length : Int))) = W1 := ⟨_, rfl⟩
  have hW1' : w.setCell ⟨b, o + 72, none⟩ (.int .u64 ((m.length + c.length : Nat) : Int)) = W1 := by rw [← hW1]; congr 1
  rw [hW1'] at hcp
  have HB := hide (And.intro hH2 hFF)
  clear hH2 hFF hH hF2 hF1 h1 hx hxb hc hh hW1'
  have r1 : (m.length : Int) % 64 = ((m.length % 64 : Nat) : Int) := by omega
  have hd1 : 0 < m.length % 64 := by omega
  have hd2 : m.length % 64 < 64 := by omega
  generalize m.length % 64 = hd at *
  have q1 : (0 : Int) < (hd : Int) := by omega
  have q2 : (hd : Int) ≤ 64 := by omega
  have q3 : ¬ 64 = hd := by omega
  have q4 : (hd : Int) + (c.length : Int) < 64 := by omega
  have l64 : ¬ (64 : Int) ≤ (c.length : Int) := by omega
  have cl : (c.length : Int) < 64 := by omega
  generalize m.length = L at *
  generalize c.length = C at *
  go_enter Tryd.func55, Tryd.ntmps55
  go_wp2_with fail
  all_goals (refine bodyPost_ret (results_none rfl _ _ _) rfl ?_; exact ⟨rfl, (unhide HB).1, (unhide HB).2⟩)
theorem write_small (b o : Nat) (m c : List Nat) (x : Value) (w : World) (hh : HM w b o m) (hx : Src w x c) (hxb : ∀ g o' n c', x = .slice (some ⟨g, o', none⟩) n c' → ¬ g = b) (hc : ∀ v ∈ c, v < 256) (hs : m.length % 64 + c.length < 64) (hm : m.length < 9223372036854775808) (hcap : ∀ g n c', x = .slice g n c' → n ≤ c') :
    Calls Tryd.prog 55 #[.pointer (some ⟨b, o, none⟩), x] w fun e w' => e = .returned (.tuple #[]) ∧ HM w' b o (m ++ c) ∧ Fr (fun k => k = b) w w' := by
  by_cases hz : m.length % 64 = 0
  · exact (write_s0 b o m c x w hh hx (.inr hxb) hc hs hz hm).mono fun _ _ h => ⟨h.1, h.2.1, h.2.2.fr⟩
  · exact (write_s1 b o m c x w hh hx (.inr hxb) hc hs hz hm hcap).mono fun _ _ h => ⟨h.1, h.2.1, h.2.2.fr⟩
end Go.Proofs.YthccbfgjekdiiaaDoor
