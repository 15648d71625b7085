import Derived.Test.YtmmaddlphclpnaaGreatDoorCrc
import Derived.Test.YtmmaddlphclpnaaGreatDoorDka
namespace Go.Proofs.YtmmaddlphclpnaaGreatDoor
open Go.RowKit
set_option maxRecDepth 100000

theorem Src.fr0 {w w' : World} {x : Value} {l : List Nat} (h : Src w x l) (hf : Fr (fun _ => False) w w') : Src w' x l := h.fr hf (fun _ _ _ _ _ h => h)
/-- The bytes, each as it is read. -/
def nb (l : List Nat) : List Nat := l.map (· % 256)
theorem nb_lt (l : List Nat) : ∀ x ∈ nb l, x < 256 := by
  intro x hx
  simp only [nb, List.mem_map] at hx
  obtain ⟨c, _, rfl⟩ := hx
  exact Nat.mod_lt _ (by decide)
theorem nb_take (l : List Nat) (k : Nat) (h : k < l.length) : nb (l.take (k + 1)) = nb (l.take k) ++ [l[k] % 256] := by
  rw [List.take_succ_eq_append_getElem h, nb, List.map_append]; rfl
theorem Up_snoc (c : Nat) (l : List Nat) (b : Nat) : Up c (l ++ [b]) = By (Up c l) b := by
  rw [Up, List.foldl_append]; rfl
theorem nb_append (a b : List Nat) : nb (a ++ b) = nb a ++ nb b := by simp [nb]
theorem nb_length (a : List Nat) : (nb a).length = a.length := by simp [nb]
theorem nb_take_lt (l : List Nat) (k : Nat) : ∀ x ∈ nb (l.take k), x < 256 := nb_lt _

/-- The sum, all bits turned at both ends. -/
def Sm (s : Nat) (l : List Nat) : Nat := Up (s ^^^ 4294967295) (nb l) ^^^ 4294967295
theorem all_lt : (4294967295 : Nat) < 4294967296 := by decide
theorem not_lt (s : Nat) (h : s < 4294967296) : s ^^^ 4294967295 < 4294967296 := Nat.xor_lt_two_pow (n := 32) h (by decide)
theorem Sm_lt (s : Nat) (l : List Nat) (h : s < 4294967296) : Sm s l < 4294967296 := not_lt _ (Up_lt _ _ (not_lt s h) (nb_lt l))
theorem gup_any (s : Nat) (x : Value) (l : List Nat) (w : World) (hs : s < 4294967296) (hx : Src w x l) (hl : l.length ≤ 140737488355328) :
    Calls Tryz.prog 54 #[.int .u32 s, x] w fun e w' => e = .returned (.int .u32 (Sm s l : Nat)) ∧ w' = w := by
  have hn := xor_u32 s 4294967295 hs all_lt
  have hsl := not_lt s hs
  have hd : Sm s l = Up (s ^^^ 4294967295) (nb l) ^^^ 4294967295 := rfl
  rw [hd]
  clear hd
  rw [show ((4294967295 : Nat) : Int) = 4294967295 from rfl] at hn
  generalize s ^^^ 4294967295 = d at *
  have HX := hide hx
  obtain ⟨xo, xc, rfl⟩ := hx.form
  clear hx
  go_enter Tryz.func54, Tryz.ntmps54
  go_wp2_with fail
  go_loopw [5, 6] (fun c i wr => ∃ k : Nat, k ≤ l.length ∧ i = .int .i64 k ∧ c = .int .u32 (Up d (nb (l.take k)) : Nat) ∧ wr = w) (fun _ i _ => l.length - (intOf i).toNat)
  case atStart => exact ⟨0, Nat.zero_le _, rfl, rfl, rfl⟩
  case round =>
    obtain ⟨k, hk, rfl, rfl, rfl⟩ := hrel
    have hul := Up_lt _ _ hsl (nb_lt (l.take k))
    by_cases hlt : k < l.length
    · obtain ⟨g, o, rfl, hc⟩ := src_at (unhide HX) k hlt
      have hs2 : Up d (nb (l.take (k + 1))) = By (Up d (nb (l.take k))) (l[k] % 256) := by rw [nb_take l k hlt, Up_snoc]
      have hbl : l[k] % 256 < 256 := Nat.mod_lt _ (by decide)
      generalize Up d (nb (l.take k)) = y at *
      generalize l[k] % 256 = b at *
      have HS := hide hs2
      clear hs2
      go_wp2_with fail
      refine (byte_any y b _ hul hbl).mono ?_
      rintro e w' ⟨rfl, rfl⟩
      go_wp2_with fail
      exact ⟨⟨k + 1, by omega, by go_num, by rw [unhide HS], by first | rfl | trivial⟩, by simp [intOf]; omega⟩
    · have e : l.take k = l := List.take_of_length_le (by omega)
      rw [e] at hul ⊢
      have hxx := xor_u32 _ 4294967295 hul all_lt
      rw [show ((4294967295 : Nat) : Int) = 4294967295 from rfl] at hxx
      clear e
      generalize hz : Up d (nb l) = z at *
      have HZ := hide hz
      clear hz
      go_wp2_with fail
      go_ret
      exact ⟨by rw [unhide HZ]; rfl, rfl⟩
end Go.Proofs.YtmmaddlphclpnaaGreatDoor
