import Derived.Test.YtebipmknlgcnaabCse
namespace Go.Proofs.Ytebipmknlgcnaab
open Go.RowKit

set_option maxRecDepth 100000 in
theorem bursts_pos (x : Value) (b : List Nat) (at_ : Int) (tu f : Nat) (w : World) (hx : Src w x b) (h0 : 0 < b.length) (ht : 0 < tu) (ht2 : tu < 4294967296) (hl : b.length ≤ 140737488355328) (htm : at_.tmod (8 * (b.length : Int)) = f) (hf : f < 8 * b.length) (hf0 : 0 ≤ f) :
    Calls Try.prog 4 #[x, .int .i64 at_, .int .u32 tu] w fun e w' => e = .returned (.bool true) ∧ Fr (fun _ => False) w w' := by
  have hnot : ∀ (x : Bool) (w : World), (Op.unary .not (.bool x)).run Try.prog w = .ok (.bool (!x)) w := fun _ _ => rfl
  have HX := hide hx
  obtain ⟨xo, xc, rfl⟩ := hx.form
  clear hx
  have n1 : ((b.length : Int) == 0) = false := beq_false_of_ne (by omega)
  have n2 : ((tu : Int) == 0) = false := beq_false_of_ne (by omega)
  have n3 : ¬ (8 * (b.length : Int) = 0) := by omega
  have n4 : 0 ≤ (f : Int) := by have := hf0; omega
  clear hf0
  generalize hL : b.length = L at *
  obtain ⟨M, hM⟩ : ∃ M, M = 8 * L - f := ⟨_, rfl⟩
  obtain ⟨m, hm⟩ : ∃ m, m = min 32 M - 1 := ⟨_, rfl⟩
  have HM := hide (And.intro hM (And.intro hm hL))
  clear hM hm hL
  go_enter Try.func4, Try.ntmps4
  go_wp2_with fail
  refine (awake_any w).mono ?_
  rintro e w1 ⟨rfl, hF⟩
  obtain ⟨ao, cap, w2, hr, ho, hg, _⟩ := run_app_sl w1 22 w1.heap.size 0 (.slice none 0 0) (.slice xo L xc) [] b (own_nil w1 _) ((unhide HX).fr0 hF) (by rw [(unhide HM).2.2]; omega) (Nat.le_refl _)
  rw [(unhide HM).2.2, Nat.zero_add] at hr ho
  have hF2 : Fr (fun _ => False) w w2 := hF.grown0 hg (fun k e => by cases e)
  obtain ⟨g, rfl, hg2, hbt⟩ := own_bt (l := b) ho h0
  have hg3 := Nat.le_trans hF.size hg2
  have HB := hide (And.intro (Brs.start (M := M) (m := m) (unhide HM).2.2 hbt hF2) hg3)
  have HR := hide hr
  clear hr ho hg hF hF2 hbt hg2 hg3
  go_wp2_with (at_builtin; refine wpList_app rfl (.tmp 30) (.tmp 31) 22 22 rfl _ _ _ rfl rfl (unhide HR) ?_)
  go_loopw [9, 10] (fun s i wr => ∃ (k V : Nat) (lst : List Nat), k ≤ 32 ∧ i = .int .i64 k ∧ s = .bool (decide (V ≠ 0)) ∧ Brs w wr g L M m k V b lst) (fun _ i _ => 32 - (intOf i).toNat)
  case atStart => exact ⟨0, 0, _, Nat.zero_le _, rfl, rfl, (unhide HB).1⟩
  case round =>
    obtain ⟨k, V, lst, hk, rfl, rfl, hI⟩ := hrel
    rename World => wr
    have HI := hide hI
    clear hI
    by_cases hlt : k < 32
    · by_cases hbit : bits BinOp.and IntKind.u32 ((tu : Int) / 2 ^ k) 1 = 1
      · by_cases hin : f + k < 8 * L
        · have hin' : (f : Int) + (k : Int) < 8 * (L : Int) := by omega
          obtain ⟨V', hI', hV'⟩ := (unhide HI).flip (unhide HM).1 hf (unhide HM).2.1 hlt hin (unhide HB).2
          have hj : (f + k) / 8 < L := by omega
          have c0 : wr.cell? ⟨g, (f + k) / 8, none⟩ = some (.int .u8 ((lst.getD ((f + k) / 8) 0 : Nat) : Int)) := ((unhide HI).bt ((f + k) / 8) hj).1
          have z0 := ((unhide HI).bt ((f + k) / 8) hj).2
          have hy := (unhide HI).lt ((f + k) / 8)
          have hp : 2 ^ ((f + k) % 8) < 2 ^ 8 := Nat.pow_lt_pow_right (a := 2) (n := 8) (by decide) (Nat.mod_lt _ (by decide))
          have hxr := u8_xor_nat _ _ hy hp
          have HE := hide (And.intro hI' hV')
          clear hI' hV'
          have q1 : Int.tdiv ((f : Int) + (k : Int)) 8 = (((f + k) / 8 : Nat) : Int) := by rw [Int.tdiv_eq_ediv_of_nonneg (by omega)]; omega
          have q2 : ((f : Int) + (k : Int)) / 8 = (((f + k) / 8 : Nat) : Int) := by omega
          have r1 : Int.tmod ((f : Int) + (k : Int)) 8 = (((f + k) % 8 : Nat) : Int) := by rw [Int.tmod_eq_emod_of_nonneg (by omega)]; omega
          have r2 : ((f : Int) + (k : Int)) % 8 = (((f + k) % 8 : Nat) : Int) := by omega
          have hr8 : (f + k) % 8 < 8 := Nat.mod_lt _ (by decide)
          generalize (f + k) / 8 = q at *
          generalize (f + k) % 8 = r at *
          have p1 : (2 : Int) ^ r = ((2 ^ r : Nat) : Int) := by rw [Int.natCast_pow]; rfl
          generalize 2 ^ r = P at *
          generalize lst.getD q 0 = y at *
          have qL : (q : Int) < (L : Int) := by omega
          have p2 : IntKind.u8.wrap (P : Int) = (P : Int) := by rw [IntKind.wrap_u8]; omega
          go_wp2_with fail
          go_region
          go_wp2_with fail
          have hd : decide (V' = 0) = false := by simp [(unhide HE).2]
          exact ⟨⟨k + 1, V', _, by omega, by go_num, by simp [hd], (unhide HE).1⟩, by simp [intOf]; omega⟩
        · have hin' : ¬ (f : Int) + (k : Int) < 8 * (L : Int) := by omega
          go_wp2_with fail
          refine ⟨⟨k + 1, V, lst, by omega, by go_num, by simp, (unhide HI).next⟩, by simp [intOf]; omega⟩
      · go_wp2_with fail
        refine ⟨⟨k + 1, V, lst, by omega, by go_num, by simp, (unhide HI).next⟩, by simp [intOf]; omega⟩
    · obtain rfl : k = 32 := by omega
      by_cases hV : V = 0
      · subst hV
        go_wp2_with fail
        go_ret
        exact ⟨rfl, (unhide HI).fr⟩
      · have hd : decide (V = 0) = false := by simp [hV]
        have hm31 : m ≤ 31 := by have := (unhide HM).2.1; omega
        have hne := (unhide HI).ne hm31 hV
        have hsl := (unhide HI).src (c := cap)
        have hll := (unhide HI).len
        generalize e1 : Sm 0 lst = A at *
        generalize e2 : Sm 0 b = B1 at *
        have hbn : ((A : Int) != (B1 : Int)) = true := by simp; omega
        have HS := hide (And.intro hsl (And.intro hll (And.intro e1 e2)))
        clear hsl hll e1 e2 hne
        go_wp2_with fail
        refine (sum_any _ lst _ (unhide HS).1 (by rw [(unhide HS).2.1]; omega)).mono ?_
        rintro e w3 ⟨rfl, hF3⟩
        rw [(unhide HS).2.2.1]
        have H3 := hide ((unhide HI).fr.trans hF3 (fun _ _ h => h))
        clear hF3
        go_wp2_with fail
        refine (sum_any _ b _ ((unhide HX).fr0 (unhide H3)) (by rw [(unhide HM).2.2]; omega)).mono ?_
        rintro e w4 ⟨rfl, hF4⟩
        rw [(unhide HS).2.2.2]
        have H4 := hide ((unhide H3).trans hF4 (fun _ _ h => h))
        clear hF4
        go_wp2_with fail
        go_ret
        exact ⟨rfl, unhide H4⟩
set_option maxRecDepth 100000 in
theorem bursts_neg (x : Value) (b : List Nat) (at_ : Int) (tu f : Nat) (w : World) (hx : Src w x b) (h0 : 0 < b.length) (ht : 0 < tu) (ht2 : tu < 4294967296) (hl : b.length ≤ 140737488355328) (htm : at_.tmod (8 * (b.length : Int)) = -f) (hf : f < 8 * b.length) (hf0 : 0 < f) :
    Calls Try.prog 4 #[x, .int .i64 at_, .int .u32 tu] w fun e w' => e = .returned (.bool true) ∧ Fr (fun _ => False) w w' := by
  have hnot : ∀ (x : Bool) (w : World), (Op.unary .not (.bool x)).run Try.prog w = .ok (.bool (!x)) w := fun _ _ => rfl
  have HX := hide hx
  obtain ⟨xo, xc, rfl⟩ := hx.form
  clear hx
  have n1 : ((b.length : Int) == 0) = false := beq_false_of_ne (by omega)
  have n2 : ((tu : Int) == 0) = false := beq_false_of_ne (by omega)
  have n3 : ¬ (8 * (b.length : Int) = 0) := by omega
  have n4 : -(f : Int) < 0 := by have := hf0; omega
  clear hf0
  generalize hL : b.length = L at *
  obtain ⟨M, hM⟩ : ∃ M, M = 8 * L - f := ⟨_, rfl⟩
  obtain ⟨m, hm⟩ : ∃ m, m = min 32 M - 1 := ⟨_, rfl⟩
  have HM := hide (And.intro hM (And.intro hm hL))
  clear hM hm hL
  go_enter Try.func4, Try.ntmps4
  go_wp2_with fail
  refine (awake_any w).mono ?_
  rintro e w1 ⟨rfl, hF⟩
  obtain ⟨ao, cap, w2, hr, ho, hg, _⟩ := run_app_sl w1 22 w1.heap.size 0 (.slice none 0 0) (.slice xo L xc) [] b (own_nil w1 _) ((unhide HX).fr0 hF) (by rw [(unhide HM).2.2]; omega) (Nat.le_refl _)
  rw [(unhide HM).2.2, Nat.zero_add] at hr ho
  have hF2 : Fr (fun _ => False) w w2 := hF.grown0 hg (fun k e => by cases e)
  obtain ⟨g, rfl, hg2, hbt⟩ := own_bt (l := b) ho h0
  have hg3 := Nat.le_trans hF.size hg2
  have HB := hide (And.intro (Brs.start (M := M) (m := m) (unhide HM).2.2 hbt hF2) hg3)
  have HR := hide hr
  clear hr ho hg hF hF2 hbt hg2 hg3
  go_wp2_with (at_builtin; refine wpList_app rfl (.tmp 30) (.tmp 31) 22 22 rfl _ _ _ rfl rfl (unhide HR) ?_)
  go_loopw [9, 10] (fun s i wr => ∃ (k V : Nat) (lst : List Nat), k ≤ 32 ∧ i = .int .i64 k ∧ s = .bool (decide (V ≠ 0)) ∧ Brs w wr g L M m k V b lst) (fun _ i _ => 32 - (intOf i).toNat)
  case atStart => exact ⟨0, 0, _, Nat.zero_le _, rfl, rfl, (unhide HB).1⟩
  case round =>
    obtain ⟨k, V, lst, hk, rfl, rfl, hI⟩ := hrel
    rename World => wr
    have HI := hide hI
    clear hI
    by_cases hlt : k < 32
    · by_cases hbit : bits BinOp.and IntKind.u32 ((tu : Int) / 2 ^ k) 1 = 1
      · by_cases hin : f + k < 8 * L
        · have hin' : (f : Int) + (k : Int) < 8 * (L : Int) := by omega
          obtain ⟨V', hI', hV'⟩ := (unhide HI).flip (unhide HM).1 hf (unhide HM).2.1 hlt hin (unhide HB).2
          have hj : (f + k) / 8 < L := by omega
          have c0 : wr.cell? ⟨g, (f + k) / 8, none⟩ = some (.int .u8 ((lst.getD ((f + k) / 8) 0 : Nat) : Int)) := ((unhide HI).bt ((f + k) / 8) hj).1
          have z0 := ((unhide HI).bt ((f + k) / 8) hj).2
          have hy := (unhide HI).lt ((f + k) / 8)
          have hp : 2 ^ ((f + k) % 8) < 2 ^ 8 := Nat.pow_lt_pow_right (a := 2) (n := 8) (by decide) (Nat.mod_lt _ (by decide))
          have hxr := u8_xor_nat _ _ hy hp
          have HE := hide (And.intro hI' hV')
          clear hI' hV'
          have q1 : Int.tdiv ((f : Int) + (k : Int)) 8 = (((f + k) / 8 : Nat) : Int) := by rw [Int.tdiv_eq_ediv_of_nonneg (by omega)]; omega
          have q2 : ((f : Int) + (k : Int)) / 8 = (((f + k) / 8 : Nat) : Int) := by omega
          have r1 : Int.tmod ((f : Int) + (k : Int)) 8 = (((f + k) % 8 : Nat) : Int) := by rw [Int.tmod_eq_emod_of_nonneg (by omega)]; omega
          have r2 : ((f : Int) + (k : Int)) % 8 = (((f + k) % 8 : Nat) : Int) := by omega
          have hr8 : (f + k) % 8 < 8 := Nat.mod_lt _ (by decide)
          generalize (f + k) / 8 = q at *
          generalize (f + k) % 8 = r at *
          have p1 : (2 : Int) ^ r = ((2 ^ r : Nat) : Int) := by rw [Int.natCast_pow]; rfl
          generalize 2 ^ r = P at *
          generalize lst.getD q 0 = y at *
          have qL : (q : Int) < (L : Int) := by omega
          have p2 : IntKind.u8.wrap (P : Int) = (P : Int) := by rw [IntKind.wrap_u8]; omega
          go_wp2_with fail
          go_region
          go_wp2_with fail
          have hd : decide (V' = 0) = false := by simp [(unhide HE).2]
          exact ⟨⟨k + 1, V', _, by omega, by go_num, by simp [hd], (unhide HE).1⟩, by simp [intOf]; omega⟩
        · have hin' : ¬ (f : Int) + (k : Int) < 8 * (L : Int) := by omega
          go_wp2_with fail
          refine ⟨⟨k + 1, V, lst, by omega, by go_num, by simp, (unhide HI).next⟩, by simp [intOf]; omega⟩
      · go_wp2_with fail
        refine ⟨⟨k + 1, V, lst, by omega, by go_num, by simp, (unhide HI).next⟩, by simp [intOf]; omega⟩
    · obtain rfl : k = 32 := by omega
      by_cases hV : V = 0
      · subst hV
        go_wp2_with fail
        go_ret
        exact ⟨rfl, (unhide HI).fr⟩
      · have hd : decide (V = 0) = false := by simp [hV]
        have hm31 : m ≤ 31 := by have := (unhide HM).2.1; omega
        have hne := (unhide HI).ne hm31 hV
        have hsl := (unhide HI).src (c := cap)
        have hll := (unhide HI).len
        generalize e1 : Sm 0 lst = A at *
        generalize e2 : Sm 0 b = B1 at *
        have hbn : ((A : Int) != (B1 : Int)) = true := by simp; omega
        have HS := hide (And.intro hsl (And.intro hll (And.intro e1 e2)))
        clear hsl hll e1 e2 hne
        go_wp2_with fail
        refine (sum_any _ lst _ (unhide HS).1 (by rw [(unhide HS).2.1]; omega)).mono ?_
        rintro e w3 ⟨rfl, hF3⟩
        rw [(unhide HS).2.2.1]
        have H3 := hide ((unhide HI).fr.trans hF3 (fun _ _ h => h))
        clear hF3
        go_wp2_with fail
        refine (sum_any _ b _ ((unhide HX).fr0 (unhide H3)) (by rw [(unhide HM).2.2]; omega)).mono ?_
        rintro e w4 ⟨rfl, hF4⟩
        rw [(unhide HS).2.2.2]
        have H4 := hide ((unhide H3).trans hF4 (fun _ _ h => h))
        clear hF4
        go_wp2_with fail
        go_ret
        exact ⟨rfl, unhide H4⟩
theorem bursts_any (x : Value) (b : List Nat) (at_ : Int) (tu : Nat) (w : World) (hx : Src w x b) (ht2 : tu < 4294967296) (hl : b.length ≤ 140737488355328) :
    Calls Try.prog 4 #[x, .int .i64 at_, .int .u32 tu] w fun e w' => e = .returned (.bool true) ∧ Fr (fun _ => False) w w' := by
  by_cases h : b.length = 0 ∨ tu = 0
  · exact bursts_none x b at_ tu w hx h
  · have h0 : 0 < b.length := by omega
    have ht : 0 < tu := by omega
    have e1 := Int.tmod_lt_of_pos at_ (show (0 : Int) < 8 * (b.length : Int) by omega)
    have e2 := Int.tmod_lt_of_pos (-at_) (show (0 : Int) < 8 * (b.length : Int) by omega)
    rw [Int.neg_tmod] at e2
    by_cases hs : 0 ≤ at_.tmod (8 * (b.length : Int))
    · exact bursts_pos x b at_ tu (at_.tmod (8 * (b.length : Int))).toNat w hx h0 ht ht2 hl (by omega) (by omega) (by omega)
    · exact bursts_neg x b at_ tu (-(at_.tmod (8 * (b.length : Int)))).toNat w hx h0 ht ht2 hl (by omega) (by omega) (by omega)
end Go.Proofs.Ytebipmknlgcnaab
