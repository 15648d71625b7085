import Derived.Test.YtiknjghcjaaenaaGreatDoorKPob
namespace Go.Proofs.YtiknjghcjaaenaaGreatDoor
open Go.RowKit
def posN (k : Nat) : List Nat → Nat
 | [] => 0
 | x :: r => if x < k then posN k r + 1 else 0
theorem posN_eq {k : Nat} : ∀ {l : List Nat} {i : Nat}, i ≤ l.length → (∀ t (h : t < l.length), t < i → l[t] < k) → (∀ t (h : t < l.length), i ≤ t → k ≤ l[t]) → posN k l = i
 | [], i, hi, _, _ => by simp at hi; subst hi; rfl
 | x :: r, 0, _, _, h2 => by
  have := h2 0 (by simp) (Nat.le_refl _)
  simp only [List.getElem_cons_zero] at this
  unfold posN
  rw [if_neg (by omega)]
 | x :: r, i + 1, hi, h1, h2 => by
  have := h1 0 (by simp) (by omega)
  simp only [List.getElem_cons_zero] at this
  unfold posN
  rw [if_pos this, posN_eq (l := r) (i := i) (by simpa using hi) (fun t h ht => by have := h1 (t + 1) (by simpa using h) (by omega); simpa using this) (fun t h ht => by have := h2 (t + 1) (by simpa using h) (by omega); simpa using this)]
theorem posN_le (k : Nat) : ∀ l : List Nat, posN k l ≤ l.length
 | [] => Nat.le_refl _
 | x :: r => by
  unfold posN
  split
  ·have := posN_le k r; simp; omega
  ·simp
set_option maxRecDepth 100000 in
theorem cnan_any (a : Nat) (w : World) : Calls Tryz.prog 123 #[.int .u32 (a : Nat)] w fun e w' => e = .returned (.bool false) ∧ w' = w := by
 go_enter Tryz.func123, Tryz.ntmps123
 go_wp2_with fail
 go_ret
 exact ⟨by simp, rfl⟩
set_option maxRecDepth 100000 in
theorem snan_any (a : Nat) (w : World) : Calls Tryz.prog 107 #[.int .u32 (a : Nat)] w fun e w' => e = .returned (.bool false) ∧ w' = w := by
 go_enter Tryz.func107, Tryz.ntmps107
 go_wp2_with fail
 go_ret
 exact ⟨by simp, rfl⟩
set_option maxRecDepth 100000 in
theorem cless_any (a b : Nat) (w : World) : Calls Tryz.prog 106 #[.int .u32 (a : Nat), .int .u32 (b : Nat)] w fun e w' => e = .returned (.bool (decide (a < b))) ∧ w' = w := by
 have HN := hide (cnan_any a w)
 have e1 : decide (a < b) = decide ((a : Int) < (b : Int)) := by rw [decide_eq_decide]; omega
 rw [e1]
 go_enter Tryz.func106, Tryz.ntmps106
 go_wp2_with fail
 refine (unhide HN).mono ?_
 rintro e w' ⟨rfl, rfl⟩
 go_wp2_with fail
 go_ret
 exact ⟨rfl, rfl⟩
set_option maxHeartbeats 1000000 in
set_option maxRecDepth 100000 in
theorem bsearch_any (x : Value) (l : List Nat) (k : Nat) (w : World) (hx : Us w x l) (hs : l.Pairwise (· < ·)) (hl : l.length ≤ 140737488355328) :
  Calls Tryz.prog 99 #[x, .int .u32 (k : Nat)] w fun e w' => e = .returned (.tuple #[.int .i64 ((posN k l : Nat) : Int), .bool (decide (k ∈ l))]) ∧ w' = w := by
 have HX := hide (And.intro hx hs)
 obtain ⟨xo, xc, rfl⟩ := hx.form
 have HL : Hid (∀ a W, Calls Tryz.prog 106 #[.int .u32 (a : Nat), .int .u32 (k : Nat)] W fun e w' => e = .returned (.bool (decide (a < k))) ∧ w' = W) := fun a W => cless_any a k W
 have HN : Hid (∀ a W, Calls Tryz.prog 107 #[.int .u32 (a : Nat)] W fun e w' => e = .returned (.bool false) ∧ w' = W) := fun a W => snan_any a W
 clear hx hs
 obtain ⟨z, hz⟩ : ∃ z, decide (k ∈ l) = z := ⟨_, rfl⟩
 obtain ⟨p, hp⟩ : ∃ p, posN k l = p := ⟨_, rfl⟩
 rw [hz, hp]
 have HZ := hide (And.intro hz hp)
 clear hz hp
 go_enter Tryz.func99, Tryz.ntmps99
 go_wp2_with fail
 go_loopw [7, 8, 9] (fun iv jv _ wr => ∃ a b : Nat, iv = .int .i64 (a : Nat) ∧ jv = .int .i64 (b : Nat) ∧ a ≤ b ∧ b ≤ l.length ∧ (∀ t (h : t < l.length), t < a → l[t] < k) ∧ (∀ t (h : t < l.length), b ≤ t → k ≤ l[t]) ∧ wr = w) (fun iv jv _ _ => (intOf jv).toNat - (intOf iv).toNat)
 case atStart => exact ⟨0, l.length, rfl, rfl, Nat.zero_le _, Nat.le_refl _, fun t _ hi => by omega, fun t h1 h2 => by omega, rfl⟩
 case round =>
  obtain ⟨a, b, rfl, rfl, hab, hbn, hlo, hhi, rfl⟩ := hrel
  have HI := hide (And.intro hlo hhi)
  clear hlo hhi
  by_cases hlt : a < b
  ·obtain ⟨h, hh, hah, hhb⟩ : ∃ h : Nat, ((a : Int) + (b : Int)) / 2 = (h : Int) ∧ a ≤ h ∧ h < b := ⟨(a + b) / 2, by omega, by omega, by omega⟩
   obtain ⟨g, o, rfl, c0⟩ := (unhide HX).1.at_ h (by omega)
   have HLT : Hid (l[h] < k → ∀ t (ht : t < l.length), t < h + 1 → l[t] < k) := fun h1 t ht h2 => by
    rcases Nat.lt_or_ge t h with h3 | h3
    ·exact Nat.lt_trans (List.pairwise_iff_getElem.1 (unhide HX).2 t h ht (by omega) h3) h1
    ·obtain rfl : t = h := by omega
     exact h1
   have HGE : Hid (¬ l[h] < k → ∀ t (ht : t < l.length), h ≤ t → k ≤ l[t]) := fun h1 t ht h2 => by
    rcases Nat.lt_or_ge h t with h3 | h3
    ·have := List.pairwise_iff_getElem.1 (unhide HX).2 h t (by omega) ht h3
     omega
    ·obtain rfl : t = h := by omega
     omega
   obtain ⟨y, hy⟩ : ∃ y, l[h] = y := ⟨_, rfl⟩
   rw [hy] at c0 HLT HGE
   clear hy
   have a2 : (h : Int) < (l.length : Int) := by omega
   go_wp2_with fail
   refine ((unhide HL) y _).mono ?_
   rintro e w2 ⟨rfl, hw⟩
   obtain rfl := hw.symm
   clear hh
   by_cases hp : y < k
   ·have HP := hide hp
    rw [decide_eq_true hp]
    clear hp
    go_wp2_with fail
    go_roundw
    case rel => exact ⟨h + 1, b, by go_num, rfl, hhb, hbn, (unhide HLT) (unhide HP), (unhide HI).2, trivial⟩
    case measure => simp [intOf]; omega
   ·have HP := hide hp
    rw [decide_eq_false hp]
    clear hp
    go_wp2_with fail
    go_roundw
    case rel => exact ⟨a, h, rfl, rfl, hah, by omega, (unhide HI).1, (unhide HGE) (unhide HP), trivial⟩
    case measure => simp [intOf]; omega
  ·obtain rfl : a = b := by omega
   have HQ := hide (posN_eq hbn (unhide HI).1 (unhide HI).2)
   by_cases hal : a < l.length
   ·obtain ⟨g, o, rfl, c0⟩ := (unhide HX).1.at_ a hal
    have HM : Hid (k ∈ l ↔ l[a] = k) := by
     constructor
     ·intro hk
      obtain ⟨t, ht, e⟩ := List.mem_iff_getElem.1 hk
      rcases Nat.lt_or_ge t a with h1 | h1
      ·have := (unhide HI).1 t ht h1; omega
      ·rcases Nat.lt_or_ge a t with h2 | h2
       ·have h3 := List.pairwise_iff_getElem.1 (unhide HX).2 a t hal ht h2
        have h4 := (unhide HI).2 a hal (Nat.le_refl _)
        omega
       ·obtain rfl : t = a := by omega
        exact e
     ·intro e
      rw [← e]
      exact List.getElem_mem hal
    obtain ⟨y, hy⟩ : ∃ y, l[a] = y := ⟨_, rfl⟩
    rw [hy] at c0 HM
    clear hy hlt
    have a2 : (a : Int) < (l.length : Int) := by omega
    by_cases hk : y = k
    ·subst hk
     have HE := hide (show z = true by rw [← (unhide HZ).1]; exact decide_eq_true ((unhide HM).2 rfl))
     go_wp2_with fail
     go_ret2
     rw [unhide HE, ← (unhide HZ).2, unhide HQ]
     exact ⟨by simp, rfl⟩
    ·have HE := hide (show z = false by rw [← (unhide HZ).1]; exact decide_eq_false (fun h => hk ((unhide HM).1 h)))
     have hk2 : ¬ (y : Int) = (k : Int) := by omega
     go_wp2_with fail
     refine ((unhide HN) y _).mono ?_
     rintro e w2 ⟨rfl, hw⟩
     obtain rfl := hw.symm
     go_wp2_with fail
     go_ret2
     rw [unhide HE, ← (unhide HZ).2, unhide HQ]
     exact ⟨by simp; exact hk2, rfl⟩
   ·have HE := hide (show z = false by
     rw [← (unhide HZ).1]
     refine decide_eq_false (fun hk => ?_)
     obtain ⟨t, ht, e⟩ := List.mem_iff_getElem.1 hk
     have := (unhide HI).1 t ht (by omega)
     omega)
    have a2 : ¬ (a : Int) < (l.length : Int) := by omega
    go_wp2_with fail
    go_ret2
    rw [unhide HE, ← (unhide HZ).2, unhide HQ]
    exact ⟨by simp, rfl⟩
end Go.Proofs.YtiknjghcjaaenaaGreatDoor
