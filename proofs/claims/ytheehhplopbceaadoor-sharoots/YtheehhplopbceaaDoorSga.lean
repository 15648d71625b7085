import Derived.Test.YtheehhplopbceaaDoorSfa
namespace Go.Proofs.YtheehhplopbceaaDoor
open Go.RowKit

/-- The product of two numbers of 64 bits, as two: as the document's own answer reckons it. -/
def tml (a b : Nat) : Nat := (a % 4294967296) * (b % 4294967296) % 18446744073709551616
def tmm (a b : Nat) : Nat := ((a / 4294967296) * (b % 4294967296) % 18446744073709551616 + tml a b / 4294967296) % 18446744073709551616
def tmo (a b : Nat) : Nat := ((a % 4294967296) * (b / 4294967296) % 18446744073709551616 + tmm a b % 4294967296) % 18446744073709551616
def tmh (a b : Nat) : Nat := (((a / 4294967296) * (b / 4294967296) % 18446744073709551616 + tmm a b / 4294967296) % 18446744073709551616 + tmo a b / 4294967296) % 18446744073709551616
def tmw (a b : Nat) : Nat := (tmo a b * 4294967296 % 18446744073709551616) ||| (tml a b % 4294967296)
theorem and_all64 (a : Nat) (h : a < 18446744073709551616) : bits .and .u64 (a : Int) 4294967295 = ((a % 4294967296 : Nat) : Int) := and_all a h
set_option maxRecDepth 100000 in
theorem times_any (a b : Nat) (w : World) (ha : a < 18446744073709551616) (hb : b < 18446744073709551616) :
    Calls Tryd.prog 33 #[.int .u64 a, .int .u64 b] w fun e w' => e = .returned (.tuple #[.int .u64 (tmh a b : Nat), .int .u64 (tmw a b : Nat)]) ∧ w' = w := by
  obtain ⟨AL, hAL⟩ : ∃ v, v = a % 4294967296 := ⟨_, rfl⟩
  obtain ⟨AH, hAH⟩ : ∃ v, v = a / 4294967296 := ⟨_, rfl⟩
  obtain ⟨BL, hBL⟩ : ∃ v, v = b % 4294967296 := ⟨_, rfl⟩
  obtain ⟨BH, hBH⟩ : ∃ v, v = b / 4294967296 := ⟨_, rfl⟩
  obtain ⟨LOW, hLOW⟩ : ∃ v, v = AL * BL % 18446744073709551616 := ⟨_, rfl⟩
  obtain ⟨L1, hL1⟩ : ∃ v, v = LOW / 4294967296 := ⟨_, rfl⟩
  obtain ⟨X1, hX1⟩ : ∃ v, v = AH * BL % 18446744073709551616 := ⟨_, rfl⟩
  obtain ⟨MID, hMID⟩ : ∃ v, v = (X1 + L1) % 18446744073709551616 := ⟨_, rfl⟩
  obtain ⟨M1, hM1⟩ : ∃ v, v = MID / 4294967296 := ⟨_, rfl⟩
  obtain ⟨M0, hM0⟩ : ∃ v, v = MID % 4294967296 := ⟨_, rfl⟩
  obtain ⟨X2, hX2⟩ : ∃ v, v = AL * BH % 18446744073709551616 := ⟨_, rfl⟩
  obtain ⟨MORE, hMORE⟩ : ∃ v, v = (X2 + M0) % 18446744073709551616 := ⟨_, rfl⟩
  obtain ⟨O1, hO1⟩ : ∃ v, v = MORE / 4294967296 := ⟨_, rfl⟩
  obtain ⟨X3, hX3⟩ : ∃ v, v = AH * BH % 18446744073709551616 := ⟨_, rfl⟩
  obtain ⟨X4, hX4⟩ : ∃ v, v = (X3 + M1) % 18446744073709551616 := ⟨_, rfl⟩
  obtain ⟨HH, hHH⟩ : ∃ v, v = (X4 + O1) % 18446744073709551616 := ⟨_, rfl⟩
  obtain ⟨X5, hX5⟩ : ∃ v, v = MORE * 4294967296 % 18446744073709551616 := ⟨_, rfl⟩
  obtain ⟨L0, hL0⟩ : ∃ v, v = LOW % 4294967296 := ⟨_, rfl⟩
  obtain ⟨WW, hWW⟩ : ∃ v, v = X5 ||| L0 := ⟨_, rfl⟩
  have hh : tmh a b = HH := by subst hHH hX4 hO1 hMORE hX3 hX2 hM0 hM1 hMID hX1 hL1 hLOW hAL hAH hBL hBH; rfl
  have hw : tmw a b = WW := by subst hWW hL0 hX5 hMORE hX2 hM0 hMID hX1 hL1 hLOW hAL hAH hBL hBH; rfl
  have e1 : bits .and .u64 (a : Int) 4294967295 = (AL : Int) := by rw [and_all a ha, hAL]
  have e2 : (a : Int) / 4294967296 = (AH : Int) := by omega
  have e3 : bits .and .u64 (b : Int) 4294967295 = (BL : Int) := by rw [and_all b hb, hBL]
  have e4 : (b : Int) / 4294967296 = (BH : Int) := by omega
  have e5 : IntKind.u64.wrap ((AL : Int) * (BL : Int)) = (LOW : Int) := by rw [IntKind.wrap_u64, hLOW]; simp
  have e6 : (LOW : Int) / 4294967296 = (L1 : Int) := by omega
  have e7 : IntKind.u64.wrap ((AH : Int) * (BL : Int)) = (X1 : Int) := by rw [IntKind.wrap_u64, hX1]; simp
  have e8 : IntKind.u64.wrap ((X1 : Int) + (L1 : Int)) = (MID : Int) := by rw [IntKind.wrap_u64]; omega
  have e9 : (MID : Int) / 4294967296 = (M1 : Int) := by omega
  have e10 : bits .and .u64 (MID : Int) 4294967295 = (M0 : Int) := by rw [and_all MID (by omega), hM0]
  have e11 : IntKind.u64.wrap ((AL : Int) * (BH : Int)) = (X2 : Int) := by rw [IntKind.wrap_u64, hX2]; simp
  have e12 : IntKind.u64.wrap ((X2 : Int) + (M0 : Int)) = (MORE : Int) := by rw [IntKind.wrap_u64]; omega
  have e13 : (MORE : Int) / 4294967296 = (O1 : Int) := by omega
  have e14 : IntKind.u64.wrap ((AH : Int) * (BH : Int)) = (X3 : Int) := by rw [IntKind.wrap_u64, hX3]; simp
  have e15 : IntKind.u64.wrap ((X3 : Int) + (M1 : Int)) = (X4 : Int) := by rw [IntKind.wrap_u64]; omega
  have e16 : IntKind.u64.wrap ((X4 : Int) + (O1 : Int)) = (HH : Int) := by rw [IntKind.wrap_u64]; omega
  have e17 : IntKind.u64.wrap ((MORE : Int) * 4294967296) = (X5 : Int) := by rw [IntKind.wrap_u64]; omega
  have e18 : bits .and .u64 (LOW : Int) 4294967295 = (L0 : Int) := by rw [and_all LOW (by omega), hL0]
  have e19 : bits .or .u64 (X5 : Int) (L0 : Int) = (WW : Int) := by rw [u64_or_nat X5 L0 (by omega) (by omega), hWW]
  have HE := hide (And.intro hh hw)
  clear hh hw hAL hAH hBL hBH hLOW hL1 hX1 hMID hM1 hM0 hX2 hMORE hO1 hX3 hX4 hHH hX5 hL0 hWW
  go_enter Tryd.func33, Tryd.ntmps33
  go_wp2_with fail
  refine bodyPost_ret (v := .tuple #[.int .u64 (HH : Int), .int .u64 (WW : Int)]) (by simp [results, Tryd.results33, go_sem]) rfl ?_
  exact ⟨by rw [(unhide HE).1, (unhide HE).2], rfl⟩
theorem tmw_lt (a b : Nat) : tmw a b < 18446744073709551616 := Nat.or_lt_two_pow (n := 64) (Nat.mod_lt _ (by decide)) (Nat.lt_of_lt_of_le (Nat.mod_lt _ (by decide)) (by decide))
theorem tmh_lt (a b : Nat) : tmh a b < 18446744073709551616 := Nat.mod_lt _ (by decide)
def bl2 (x p : Nat) : Bool := decide (tmh x x < p ∨ tmh x x = p ∧ tmw x x = 0)
def bc (x : Nat) : Nat := (tmh x x * x % 18446744073709551616 + tmh (tmw x x) x) % 18446744073709551616
def bl3 (x p : Nat) : Bool := decide (tmh x x ≤ 4294967295 ∧ (bc x < p * 4294967296 % 18446744073709551616 ∨ bc x = p * 4294967296 % 18446744073709551616 ∧ tmw (tmw x x) x = 0))
set_option maxRecDepth 100000 in
theorem below2_any (x p : Nat) (w : World) (hx : x < 18446744073709551616) :
    Calls Tryd.prog 27 #[.int .u64 x, .int .u64 p, .int .i64 2] w fun e w' => e = .returned (.bool (bl2 x p)) ∧ w' = w := by
  have hb : bl2 x p = decide (tmh x x < p ∨ tmh x x = p ∧ tmw x x = 0) := rfl
  generalize bl2 x p = B2 at *
  go_enter Tryd.func27, Tryd.ntmps27
  go_wp2_with fail
  refine (times_any x x w hx hx).mono ?_
  rintro e w1 ⟨rfl, rfl⟩
  generalize tmh x x = H at *
  generalize tmw x x = L at *
  by_cases h1 : H < p
  · have h1' : (H : Int) < (p : Int) := by omega
    have hB : B2 = true := by rw [hb]; exact decide_eq_true (by omega)
    clear hb
    go_wp2_with fail
    go_ret
    exact ⟨by rw [hB]; rfl, rfl⟩
  · have h1' : ¬ (H : Int) < (p : Int) := by omega
    by_cases h2 : H = p
    · have h2' : ((H : Int) == (p : Int)) = true := by rw [h2]; exact beq_self_eq_true _
      by_cases h3 : L = 0
      · have h3' : ((L : Int) == 0) = true := by rw [h3]; rfl
        have hB : B2 = true := by rw [hb]; exact decide_eq_true (by omega)
        clear hb h2 h3
        go_wp2_with fail
        go_ret
        exact ⟨by rw [hB]; rfl, rfl⟩
      · have h3' : ((L : Int) == 0) = false := beq_false_of_ne (by omega)
        have hB : B2 = false := by rw [hb]; exact decide_eq_false (by omega)
        clear hb h2
        go_wp2_with fail
        go_ret
        exact ⟨by rw [hB]; rfl, rfl⟩
    · have h2' : ((H : Int) == (p : Int)) = false := beq_false_of_ne (by omega)
      have hB : B2 = false := by rw [hb]; exact decide_eq_false (by omega)
      clear hb
      go_wp2_with fail
      go_ret
      exact ⟨by rw [hB]; rfl, rfl⟩
set_option maxRecDepth 100000 in
theorem below3_any (x p : Nat) (w : World) (hx : x < 18446744073709551616) :
    Calls Tryd.prog 27 #[.int .u64 x, .int .u64 p, .int .i64 3] w fun e w' => e = .returned (.bool (bl3 x p)) ∧ w' = w := by
  have hb : bl3 x p = decide (tmh x x ≤ 4294967295 ∧ (bc x < p * 4294967296 % 18446744073709551616 ∨ bc x = p * 4294967296 % 18446744073709551616 ∧ tmw (tmw x x) x = 0)) := rfl
  generalize bl3 x p = B3 at *
  have HB := hide hb
  clear hb
  go_enter Tryd.func27, Tryd.ntmps27
  go_wp2_with fail
  refine (times_any x x w hx hx).mono ?_
  rintro e w1 ⟨rfl, rfl⟩
  by_cases h0 : tmh x x ≤ 4294967295
  · have h0' : ¬ (4294967295 : Int) < ((tmh x x : Nat) : Int) := by omega
    have ht := fun w => times_any (tmw x x) x w (tmw_lt x x) hx
    have hbc : bc x = (tmh x x * x % 18446744073709551616 + tmh (tmw x x) x) % 18446744073709551616 := rfl
    have HT := hide (And.intro ht hbc)
    clear ht hbc
    generalize tmh x x = H at *
    generalize tmw x x = L at *
    go_wp2_with fail
    refine ((unhide HT).1 w1).mono ?_
    rintro e w2 ⟨rfl, rfl⟩
    have hbc := (unhide HT).2
    have hb := unhide HB
    clear HT HB
    generalize bc x = C at *
    generalize tmh L x = Th at *
    generalize tmw L x = Tw at *
    obtain ⟨Hx, hHx⟩ : ∃ v, v = H * x % 18446744073709551616 := ⟨_, rfl⟩
    obtain ⟨Ps, hPs⟩ : ∃ v, v = p * 4294967296 % 18446744073709551616 := ⟨_, rfl⟩
    have k1 : IntKind.u64.wrap ((H : Int) * (x : Int)) = (Hx : Int) := by rw [IntKind.wrap_u64, hHx]; simp
    have k2 : IntKind.u64.wrap ((Hx : Int) + (Th : Int)) = (C : Int) := by rw [IntKind.wrap_u64]; omega
    have k3 : IntKind.u64.wrap ((p : Int) * 4294967296) = (Ps : Int) := by rw [IntKind.wrap_u64]; omega
    rw [← hPs] at hb
    clear hHx hPs hbc
    by_cases h1 : C < Ps
    · have h1' : (C : Int) < (Ps : Int) := by omega
      have hB : B3 = true := by rw [hb]; exact decide_eq_true (by omega)
      clear hb
      go_wp2_with fail
      go_ret
      exact ⟨by rw [hB]; rfl, rfl⟩
    · have h1' : ¬ (C : Int) < (Ps : Int) := by omega
      by_cases h2 : C = Ps
      · have h2' : ((C : Int) == (Ps : Int)) = true := by rw [h2]; exact beq_self_eq_true _
        by_cases h3 : Tw = 0
        · have h3' : ((Tw : Int) == 0) = true := by rw [h3]; rfl
          have hB : B3 = true := by rw [hb]; exact decide_eq_true (by omega)
          clear hb h2 h3
          go_wp2_with fail
          go_ret
          exact ⟨by rw [hB]; rfl, rfl⟩
        · have h3' : ((Tw : Int) == 0) = false := beq_false_of_ne (by omega)
          have hB : B3 = false := by rw [hb]; exact decide_eq_false (by omega)
          clear hb h2
          go_wp2_with fail
          go_ret
          exact ⟨by rw [hB]; rfl, rfl⟩
      · have h2' : ((C : Int) == (Ps : Int)) = false := beq_false_of_ne (by omega)
        have hB : B3 = false := by rw [hb]; exact decide_eq_false (by omega)
        clear hb
        go_wp2_with fail
        go_ret
        exact ⟨by rw [hB]; rfl, rfl⟩
  · have h0' : (4294967295 : Int) < ((tmh x x : Nat) : Int) := by omega
    have hB : B3 = false := by rw [unhide HB]; exact decide_eq_false (fun h => h0 h.1)
    generalize tmh x x = H at *
    generalize tmw x x = L at *
    go_wp2_with fail
    go_ret
    exact ⟨by rw [hB]; rfl, rfl⟩
/-- A bit is tried. -/
def rst (f : Nat → Bool) (x b : Nat) : Nat := if f (x ||| 2 ^ b) then x ||| 2 ^ b else x
def rtk (f : Nat → Bool) : Nat → Nat
  | 0 => 0
  | n + 1 => rst f (rtk f n) (37 - n)
theorem rtk_lt (f : Nat → Bool) (n : Nat) : rtk f n < 2 ^ 38 := by
  induction n with
  | zero => exact (show (0 : Nat) < 2 ^ 38 by decide)
  | succ n ih =>
    rw [rtk, rst]
    split
    · exact Nat.or_lt_two_pow ih (Nat.pow_lt_pow_right (by decide) (by omega))
    · exact ih
theorem root_any (p : Nat) (kd : Int) (f : Nat → Bool) (w : World) (hf : ∀ x : Nat, x < 18446744073709551616 → ∀ w, Calls Tryd.prog 27 #[.int .u64 x, .int .u64 p, .int .i64 kd] w fun e w' => e = .returned (.bool (f x)) ∧ w' = w) :
    Calls Tryd.prog 18 #[.int .u64 p, .int .i64 kd] w fun e w' => e = .returned (.int .u64 (rtk f 38 % 4294967296 : Nat)) ∧ w' = w := by
  have HF := hide hf
  clear hf
  go_enter Tryd.func18, Tryd.ntmps18
  go_wp2_with fail
  go_loopw [5, 6] (fun xv bv wr => ∃ n : Nat, n ≤ 38 ∧ xv = .int .u64 (rtk f n : Nat) ∧ bv = .int .i64 (37 - (n : Int)) ∧ wr = w) (fun _ bv _ => (intOf bv + 1).toNat)
  case atStart => exact ⟨0, Nat.zero_le _, rfl, rfl, rfl⟩
  case round =>
    obtain ⟨n, hn, rfl, rfl, rfl⟩ := hrel
    by_cases hlt : n < 38
    · have g1 : (0 : Int) ≤ 37 - (n : Int) := by omega
      have hx := rtk_lt f n
      have hs : rtk f (n + 1) = if f (rtk f n ||| 2 ^ (37 - n)) then rtk f n ||| 2 ^ (37 - n) else rtk f n := rfl
      have hp : 2 ^ (37 - n) < 2 ^ 38 := Nat.pow_lt_pow_right (by decide) (by omega)
      have ho : rtk f n ||| 2 ^ (37 - n) < 2 ^ 38 := Nat.or_lt_two_pow hx hp
      have e7 : (37 - (n : Int)).toNat = 37 - n := by omega
      have e8 : IntKind.u64.wrap (37 - (n : Int)) = 37 - (n : Int) := by rw [IntKind.wrap_u64]; omega
      have e9 : IntKind.i64.wrap (37 - (n : Int) - 1) = 37 - (n : Int) - 1 := by rw [IntKind.wrap_i64]; omega
      obtain ⟨P, hP⟩ : ∃ P, P = 2 ^ (37 - n) := ⟨_, rfl⟩
      rw [← hP] at hs hp ho
      have hP38 : P < 274877906944 := hp
      have hX38 : rtk f n < 274877906944 := hx
      have hO38 : rtk f n ||| P < 274877906944 := ho
      have q1 : (2 : Int) ^ (37 - n) = (P : Int) := by rw [hP]; simp
      have q2 : IntKind.u64.wrap (P : Int) = (P : Int) := by rw [IntKind.wrap_u64]; omega
      have q3 : bits .or .u64 ((rtk f n : Nat) : Int) (P : Int) = ((rtk f n ||| P : Nat) : Int) := u64_or_nat _ _ (by omega) (by omega)
      clear hp hx ho hP
      have HS := hide hs
      clear hs
      generalize rtk f n = X at *
      generalize X ||| P = O at *
      go_wp2_with fail
      refine ((unhide HF) O (by omega) wr).mono ?_
      rintro e w1 ⟨rfl, rfl⟩
      rcases hfo : f O with _ | _
      · have hs := unhide HS
        rw [hfo, if_neg (by decide)] at hs
        clear HS
        go_wp2_with fail
        exact ⟨⟨n + 1, by omega, by rw [hs], by go_num, trivial⟩, by simp [intOf]; omega⟩
      · have hs := unhide HS
        rw [hfo, if_pos rfl] at hs
        clear HS
        go_wp2_with fail
        exact ⟨⟨n + 1, by omega, by rw [hs], by go_num, trivial⟩, by simp [intOf]; omega⟩
    · have hne : n = 38 := by omega
      have g1 : ¬ (0 : Int) ≤ 37 - (n : Int) := by omega
      have hX : rtk f n < 274877906944 := rtk_lt f n
      have hl := and_all (rtk f n) (by omega)
      have HN := hide hne
      clear hne
      generalize hX' : rtk f n = X at *
      go_wp2_with fail
      go_ret
      have := unhide HN
      subst this
      exact ⟨by rw [hX']; rfl, rfl⟩
end Go.Proofs.YtheehhplopbceaaDoor
