import Derived.Test.YthccbfgjekdiiaaDoorSre
namespace Go.Proofs.YthccbfgjekdiiaaDoor
open Go.RowKit

theorem ob_of_bt {w w' : World} {g n : Nat} {l : List Nat} (hB : BtAt w' g n (fun j => l.getD j 0)) (hl : l.length = n) (hb : ∀ v ∈ l, v < 256) (hn : NB w w' g n) (hF : Fr (fun _ => False) w w') (hm : n ≤ 32) : OB w w' (some ⟨g, 0, none⟩) n l := by
  obtain ⟨cur, h1, h2⟩ := hn.blk
  subst hl
  refine ⟨⟨by rw [cellsOf_length, Nat.mul_one], .inr ⟨g, l.length, cur, rfl, hn.le, h1, Nat.le_refl _, by simp only [maxLen]; omega, by rw [Nat.mul_one]; exact h2, ?_⟩⟩, hF⟩
  apply List.ext_getElem?
  intro j
  by_cases hj : j < l.length
  · have h3 := (hB j hj).1
    simp only [List.getD, List.getElem?_eq_getElem hj, Option.getD_some] at h3
    rw [cell_of_row w' g j cur 5 (0, 0) h1] at h3
    rw [List.getElem?_take, if_pos (by omega), Array.getElem?_toList, h3, cellsOf, List.getElem?_map, List.getElem?_eq_getElem hj, Option.map_some, B, Nat.mod_eq_of_lt (hb _ (List.getElem_mem hj))]
  · rw [List.getElem?_eq_none (by rw [List.length_take]; omega), List.getElem?_eq_none (by rw [cellsOf_length]; omega)]
theorem sm_lt (i : Int) (m : List Nat) : ∀ v ∈ sm i m, v < 256 := fun v hv => by
  rw [sm] at hv
  split at hv
  · exact sby_lt _ v (List.mem_of_mem_take hv)
  · cases hv
theorem sum_O (i : Int) (c : List Nat) (x : Value) (w : World) (hg : GS w) (hx : Src w x c) (hc : ∀ v ∈ c, v < 256) (hs : c.length < 9223372036854775808) (hcap : ∀ g n c', x = .slice g n c' → n ≤ c') (hlt : ∀ g o' n c', x = .slice (some ⟨g, o', none⟩) n c' → g < w.heap.size) :
    Calls Tryd.prog 28 #[.int .i64 i, x] w fun e w' => ∃ yo, e = .returned (.slice yo (sm i c).length (sm i c).length) ∧ OB w w' yo (sm i c).length (sm i c) := by
  by_cases h : 1 ≤ i ∧ i ≤ 32
  · obtain ⟨n, rfl⟩ : ∃ n : Nat, i = (n : Int) := ⟨i.toNat, by omega⟩
    refine (sum_any n c x w hg hx hc hs hcap hlt (by omega) (by omega)).mono ?_
    rintro e w' ⟨g, rfl, hB, hF, hn⟩
    have hl : (sm (n : Int) c).length = n := by rw [sm_len h, Int.toNat_natCast]
    rw [hl]
    refine ⟨_, rfl, ob_of_bt ?_ hl (sm_lt _ _) hn hF (by omega)⟩
    rw [sm, if_pos h, Int.toNat_natCast]
    exact hB
  · refine (sum_anyout i c x w hg hx hc hs hcap hlt (by omega)).mono ?_
    rintro e w' ⟨rfl, hF⟩
    rw [sm, if_neg h]
    exact ⟨none, rfl, own_nil _ _, hF⟩
theorem hsum_O (i : Int) (b o : Nat) (m : List Nat) (w : World) (hg : GS w) (hh : HM w b o m) (hm : ∀ x ∈ m, x < 256) (ht : m.length < 9223372036854775808) :
    Calls Tryd.prog 56 #[.pointer (some ⟨b, o, none⟩), .int .i64 i] w fun e w' => ∃ yo, e = .returned (.slice yo (sm i m).length (sm i m).length) ∧ OB w w' yo (sm i m).length (sm i m) := by
  by_cases h : 1 ≤ i ∧ i ≤ 32
  · obtain ⟨n, rfl⟩ : ∃ n : Nat, i = (n : Int) := ⟨i.toNat, by omega⟩
    refine (hmsum_any b o n m w hg hh hm ht (by omega) (by omega)).mono ?_
    rintro e w' ⟨g, rfl, hB, hF, hn⟩
    have hl : (sm (n : Int) m).length = n := by rw [sm_len h, Int.toNat_natCast]
    rw [hl]
    refine ⟨_, rfl, ob_of_bt ?_ hl (sm_lt _ _) hn hF (by omega)⟩
    rw [sm, if_pos h, Int.toNat_natCast]
    exact hB
  · refine (hsum_none b o i w (by omega)).mono ?_
    rintro e w' ⟨rfl, rfl⟩
    rw [sm, if_neg h]
    exact ⟨none, rfl, own_nil _ _, Fr.refl _ _⟩
theorem src_cell {w : World} {xo : Option Addr} {n xc : Nat} {a : List Nat} (h : Src w (.slice xo n xc) a) (k : Nat) (hk : k < a.length) (hb : ∀ v ∈ a, v < 256) : ∃ g o, xo = some ⟨g, o, none⟩ ∧ w.cell? ⟨g, o + k, none⟩ = some (.int .u8 ((a.getD k 0 : Nat) : Int)) := by
  obtain ⟨g, o, e, hc⟩ := src_at h k hk
  refine ⟨g, o, e, ?_⟩
  rw [hc, List.getD, List.getElem?_eq_getElem hk, Option.getD_some, Nat.mod_eq_of_lt (hb _ (List.getElem_mem hk))]
end Go.Proofs.YthccbfgjekdiiaaDoor
