import Derived.Test.YthccbfgjekdiiaaDoorSch
namespace Go.Proofs.YthccbfgjekdiiaaDoor
open Go.RowKit

/-- Write. -/
theorem write_anyX (b o : Nat) (m c : List Nat) (x : Value) (w : World) (hg : GS w) (hgb : 6 ≤ b) (hh : HM w b o m) (hx : Src w x c) (hxb : c = [] ∨ ∀ g o' n c', x = .slice (some ⟨g, o', none⟩) n c' → ¬ g = b) (hM : ∀ v ∈ m ++ c, v < 256) (hm : m.length + c.length < 9223372036854775808) (hcap : ∀ g n c', x = .slice g n c' → n ≤ c') :
    Calls Tryd.prog 55 #[.pointer (some ⟨b, o, none⟩), x] w fun e w' => e = .returned (.tuple #[]) ∧ HM w' b o (m ++ c) ∧ FrH w w' b o := by
  by_cases hz : m.length % 64 = 0
  · rcases hxb with rfl | hxb
    · exact write_s0 b o m [] x w hh hx (.inl rfl) (fun v hv => by cases hv) (by simp; omega) hz (by omega)
    · exact write_z b o m c x w hg hgb hh hx hxb hM hz hm hcap
  · by_cases hs : m.length % 64 + c.length < 64
    · exact write_s1 b o m c x w hh hx hxb (fun v hv => hM v (List.mem_append_right _ hv)) hs hz (by omega) hcap
    · rcases hxb with rfl | hxb
      · exact absurd (show m.length % 64 + 0 < 64 by omega) hs
      · exact write_f b o m c x w hg hgb hh hx hxb hM hz (by omega) hm hcap
theorem write_anyD (b o : Nat) (m c : List Nat) (x : Value) (w : World) (hg : GS w) (hgb : 6 ≤ b) (hh : HM w b o m) (hx : Src w x c) (hxb : c = [] ∨ ∀ g o' n c', x = .slice (some ⟨g, o', none⟩) n c' → ¬ g = b) (hM : ∀ v ∈ m ++ c, v < 256) (hm : m.length + c.length < 9223372036854775808) (hcap : ∀ g n c', x = .slice g n c' → n ≤ c') :
    Calls Tryd.prog 55 #[.pointer (some ⟨b, o, none⟩), x] w fun e w' => e = .returned (.tuple #[]) ∧ HM w' b o (m ++ c) ∧ Fr (fun k => k = b) w w' :=
  (write_anyX b o m c x w hg hgb hh hx hxb hM hm hcap).mono fun _ _ h => ⟨h.1, h.2.1, h.2.2.fr⟩
theorem write_any (b o : Nat) (m c : List Nat) (x : Value) (w : World) (hg : GS w) (hgb : 6 ≤ b) (hh : HM w b o m) (hx : Src w x c) (hxb : ∀ g o' n c', x = .slice (some ⟨g, o', none⟩) n c' → ¬ g = b) (hM : ∀ v ∈ m ++ c, v < 256) (hm : m.length + c.length < 9223372036854775808) (hcap : ∀ g n c', x = .slice g n c' → n ≤ c') :
    Calls Tryd.prog 55 #[.pointer (some ⟨b, o, none⟩), x] w fun e w' => e = .returned (.tuple #[]) ∧ HM w' b o (m ++ c) ∧ Fr (fun k => k = b) w w' := write_anyD b o m c x w hg hgb hh hx (.inr hxb) hM hm hcap
end Go.Proofs.YthccbfgjekdiiaaDoor
