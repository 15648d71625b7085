import Derived.Test.YtcpbmphknonflaaGreatDoorGre
namespace Go.Proofs.YtcpbmphknonflaaGreatDoor
open Go.RowKit

theorem val4_lt (all : List Nat) (place : Nat) : val ((all.drop place).take 4) < 4294967296 := by
  have h1 := val_lt ((all.drop place).take 4)
  have h2 : ((all.drop place).take 4).length ≤ 4 := by simp; omega
  exact Nat.lt_of_lt_of_le h1 (Nat.le_trans (Nat.pow_le_pow_right (by decide) h2) (by decide))

set_option maxRecDepth 1000000 in
theorem gread_5_ok (xo : Option Addr) (all : List Nat) (xc place : Nat) (last fa : Int) (nm fw s : ByteArray) (u : Nat) (n m : Int) (w : World) (hx : Src w (.slice xo all.length xc) all) (hlc : all.length ≤ xc) (hl : all.length ≤ 140737488355328) (hs : 4 + place ≤ all.length) (hq : quantB (val ((all.drop place).take 4)) = true) :
    Calls Tryz.prog 127 #[rdV xo all.length xc place last nm fw fa 0, .agg #[.int .i64 5, .int .u64 u, .string s, .int .i64 n, .int .i64 m]] w fun e w' => e = .returned (.tuple #[rdV xo all.length xc ((place + 4 : Nat) : Int) place nm fw fa 0, .int .u64 (val ((all.drop place).take 4)), .slice none 0 0]) ∧ Fr (fun _ => False) w w' := by
  have hw : IntKind.i64.wrap ((all.length : Int) - place) = (all.length : Int) - place := by rw [IntKind.wrap_i64]; omega
  have hd : decide ((all.length : Int) - place < 4) = false := by simp; omega
  have hcut := cut_at (n := 4) hx hlc hs (by decide)
  have hlen : ((all.drop place).take 4).length ≤ 8 := by simp; omega
  have hv := val4_lt all place
  generalize (all.drop place).take 4 = l at *
  have HX := hide (And.intro hcut (And.intro hlen (And.intro hq hv)))
  clear hx hcut hlen hq
  generalize all.length = len at *
  unfold rdV
  go_enter Tryz.func127, Tryz.ntmps127
  go_wp2_with fail
  refine (value_any _ l _ ((unhide HX).1.fr (box3 w _ _ _) (fun _ _ _ _ _ h => h)) (unhide HX).2.1).mono ?_
  rintro e w' ⟨rfl, rfl⟩
  go_wp2_with fail
  refine (gquant_any (val l) _ (by omega)).mono ?_
  rintro e w' ⟨rfl, rfl⟩
  rw [(unhide HX).2.2.1]
  go_wp2_with fail
  exact bodyPost_ret (v := .tuple #[rdV xo len xc ((place + 4 : Nat) : Int) place nm fw fa 0, .int .u64 (val l), .slice none 0 0]) (by simp [results, Tryz.results127, go_sem, rdV]) rfl ⟨rfl, box3 w _ _ _⟩

set_option maxRecDepth 1000000 in
theorem gread_5_bad (xo : Option Addr) (all : List Nat) (xc place : Nat) (last fa : Int) (nm fw s : ByteArray) (u : Nat) (n m : Int) (w : World) (hx : Src w (.slice xo all.length xc) all) (hlc : all.length ≤ xc) (hl : all.length ≤ 140737488355328) (hs : 4 + place ≤ all.length) (hq : quantB (val ((all.drop place).take 4)) = false) :
    Calls Tryz.prog 127 #[rdV xo all.length xc place last nm fw fa 0, .agg #[.int .i64 5, .int .u64 u, .string s, .int .i64 n, .int .i64 m]] w fun e w' => e = .returned (.tuple #[rdV xo all.length xc place last nm nm place 4, .int .u64 0, .slice none 0 0]) ∧ Fr (fun _ => False) w w' := by
  have hw : IntKind.i64.wrap ((all.length : Int) - place) = (all.length : Int) - place := by rw [IntKind.wrap_i64]; omega
  have hd : decide ((all.length : Int) - place < 4) = false := by simp; omega
  have hcut := cut_at (n := 4) hx hlc hs (by decide)
  have hlen : ((all.drop place).take 4).length ≤ 8 := by simp; omega
  have hv := val4_lt all place
  generalize (all.drop place).take 4 = l at *
  have HX := hide (And.intro hcut (And.intro hlen (And.intro hq hv)))
  clear hx hcut hlen hq
  generalize all.length = len at *
  unfold rdV
  go_enter Tryz.func127, Tryz.ntmps127
  go_wp2_with fail
  refine (value_any _ l _ ((unhide HX).1.fr (box3 w _ _ _) (fun _ _ _ _ _ h => h)) (unhide HX).2.1).mono ?_
  rintro e w' ⟨rfl, rfl⟩
  go_wp2_with fail
  refine (gquant_any (val l) _ (by omega)).mono ?_
  rintro e w' ⟨rfl, rfl⟩
  rw [(unhide HX).2.2.1]
  go_wp2_with fail
  exact bodyPost_ret (v := .tuple #[rdV xo len xc place last nm nm place 4, .int .u64 0, .slice none 0 0]) (by simp [results, Tryz.results127, go_sem, rdV]) rfl ⟨rfl, box3 w _ _ _⟩

set_option maxRecDepth 1000000 in
theorem gread_6_long (xo : Option Addr) (all : List Nat) (xc place : Nat) (last fa : Int) (nm fw s : ByteArray) (u : Nat) (n m : Int) (w : World) (hx : Src w (.slice xo all.length xc) all) (hlc : all.length ≤ xc) (hl : all.length ≤ 140737488355328) (hs : 4 + place ≤ all.length) (hm : m < 9223372036854775808) (hv : m < (val ((all.drop place).take 4) : Int)) :
    Calls Tryz.prog 127 #[rdV xo all.length xc place last nm fw fa 0, .agg #[.int .i64 6, .int .u64 u, .string s, .int .i64 n, .int .i64 m]] w fun e w' => e = .returned (.tuple #[rdV xo all.length xc place last nm nm place 2, .int .u64 0, .slice none 0 0]) ∧ Fr (fun _ => False) w w' := by
  have hw : IntKind.i64.wrap ((all.length : Int) - place) = (all.length : Int) - place := by rw [IntKind.wrap_i64]; omega
  have hd : decide ((all.length : Int) - place < 4) = false := by simp; omega
  have hcut := cut_at (n := 4) hx hlc hs (by decide)
  have hlen : ((all.drop place).take 4).length ≤ 8 := by simp; omega
  generalize (all.drop place).take 4 = l at *
  have HX := hide (And.intro hcut hlen)
  clear hx hcut hlen
  generalize all.length = len at *
  generalize hvx : val l = x at *
  have HVX := hide hvx
  clear hvx
  unfold rdV
  by_cases h0 : m < 0
  · go_enter Tryz.func127, Tryz.ntmps127
    go_wp2_with fail
    refine (value_any _ l _ ((unhide HX).1.fr (box3 w _ _ _) (fun _ _ _ _ _ h => h)) (unhide HX).2).mono ?_
    rintro e w' ⟨rfl, rfl⟩
    rw [unhide HVX]
    go_wp2_with fail
    exact bodyPost_ret (v := .tuple #[rdV xo len xc place last nm nm place 2, .int .u64 0, .slice none 0 0]) (by simp [results, Tryz.results127, go_sem, rdV]) rfl ⟨rfl, box3 w _ _ _⟩
  · have hw2 : IntKind.u64.wrap m = m := by rw [IntKind.wrap_u64]; omega
    have hd0 : decide (m < 0) = false := by simp; omega
    have hd2 : decide (m < (x : Int)) = true := by simp; omega
    go_enter Tryz.func127, Tryz.ntmps127
    go_wp2_with fail
    refine (value_any _ l _ ((unhide HX).1.fr (box3 w _ _ _) (fun _ _ _ _ _ h => h)) (unhide HX).2).mono ?_
    rintro e w' ⟨rfl, rfl⟩
    rw [unhide HVX]
    go_wp2_with fail
    exact bodyPost_ret (v := .tuple #[rdV xo len xc place last nm nm place 2, .int .u64 0, .slice none 0 0]) (by simp [results, Tryz.results127, go_sem, rdV]) rfl ⟨rfl, box3 w _ _ _⟩
set_option maxRecDepth 1000000 in
theorem gread_7_long (xo : Option Addr) (all : List Nat) (xc place : Nat) (last fa : Int) (nm fw s : ByteArray) (u : Nat) (n m : Int) (w : World) (hx : Src w (.slice xo all.length xc) all) (hlc : all.length ≤ xc) (hl : all.length ≤ 140737488355328) (hs : 4 + place ≤ all.length) (hm : m < 9223372036854775808) (hv : m < (val ((all.drop place).take 4) : Int)) :
    Calls Tryz.prog 127 #[rdV xo all.length xc place last nm fw fa 0, .agg #[.int .i64 7, .int .u64 u, .string s, .int .i64 n, .int .i64 m]] w fun e w' => e = .returned (.tuple #[rdV xo all.length xc place last nm nm place 2, .int .u64 0, .slice none 0 0]) ∧ Fr (fun _ => False) w w' := by
  have hw : IntKind.i64.wrap ((all.length : Int) - place) = (all.length : Int) - place := by rw [IntKind.wrap_i64]; omega
  have hd : decide ((all.length : Int) - place < 4) = false := by simp; omega
  have hcut := cut_at (n := 4) hx hlc hs (by decide)
  have hlen : ((all.drop place).take 4).length ≤ 8 := by simp; omega
  generalize (all.drop place).take 4 = l at *
  have HX := hide (And.intro hcut hlen)
  clear hx hcut hlen
  generalize all.length = len at *
  generalize hvx : val l = x at *
  have HVX := hide hvx
  clear hvx
  unfold rdV
  by_cases h0 : m < 0
  · go_enter Tryz.func127, Tryz.ntmps127
    go_wp2_with fail
    refine (value_any _ l _ ((unhide HX).1.fr (box3 w _ _ _) (fun _ _ _ _ _ h => h)) (unhide HX).2).mono ?_
    rintro e w' ⟨rfl, rfl⟩
    rw [unhide HVX]
    go_wp2_with fail
    exact bodyPost_ret (v := .tuple #[rdV xo len xc place last nm nm place 2, .int .u64 0, .slice none 0 0]) (by simp [results, Tryz.results127, go_sem, rdV]) rfl ⟨rfl, box3 w _ _ _⟩
  · have hw2 : IntKind.u64.wrap m = m := by rw [IntKind.wrap_u64]; omega
    have hd0 : decide (m < 0) = false := by simp; omega
    have hd2 : decide (m < (x : Int)) = true := by simp; omega
    go_enter Tryz.func127, Tryz.ntmps127
    go_wp2_with fail
    refine (value_any _ l _ ((unhide HX).1.fr (box3 w _ _ _) (fun _ _ _ _ _ h => h)) (unhide HX).2).mono ?_
    rintro e w' ⟨rfl, rfl⟩
    rw [unhide HVX]
    go_wp2_with fail
    exact bodyPost_ret (v := .tuple #[rdV xo len xc place last nm nm place 2, .int .u64 0, .slice none 0 0]) (by simp [results, Tryz.results127, go_sem, rdV]) rfl ⟨rfl, box3 w _ _ _⟩

set_option maxRecDepth 1000000 in
theorem gread_7_ok (xo : Option Addr) (all : List Nat) (xc place : Nat) (last fa : Int) (nm fw s : ByteArray) (u : Nat) (n m : Int) (w : World) (hx : Src w (.slice xo all.length xc) all) (hlc : all.length ≤ xc) (hl : all.length ≤ 140737488355328) (hs : 4 + place ≤ all.length) (hm : m < 9223372036854775808) (hv : (val ((all.drop place).take 4) : Int) ≤ m) :
    Calls Tryz.prog 127 #[rdV xo all.length xc place last nm fw fa 0, .agg #[.int .i64 7, .int .u64 u, .string s, .int .i64 n, .int .i64 m]] w fun e w' => e = .returned (.tuple #[rdV xo all.length xc ((place + 4 : Nat) : Int) place nm fw fa 0, .int .u64 (val ((all.drop place).take 4)), .slice none 0 0]) ∧ Fr (fun _ => False) w w' := by
  have hw : IntKind.i64.wrap ((all.length : Int) - place) = (all.length : Int) - place := by rw [IntKind.wrap_i64]; omega
  have hd : decide ((all.length : Int) - place < 4) = false := by simp; omega
  have hcut := cut_at (n := 4) hx hlc hs (by decide)
  have hlen : ((all.drop place).take 4).length ≤ 8 := by simp; omega
  generalize (all.drop place).take 4 = l at *
  have HX := hide (And.intro hcut hlen)
  clear hx hcut hlen
  generalize all.length = len at *
  generalize hvx : val l = x at *
  have HVX := hide hvx
  clear hvx
  unfold rdV
  have hw2 : IntKind.u64.wrap m = m := by rw [IntKind.wrap_u64]; omega
  have hd0 : decide (m < 0) = false := by simp; omega
  have hd2 : decide (m < (x : Int)) = false := by simp; omega
  go_enter Tryz.func127, Tryz.ntmps127
  go_wp2_with fail
  refine (value_any _ l _ ((unhide HX).1.fr (box3 w _ _ _) (fun _ _ _ _ _ h => h)) (unhide HX).2).mono ?_
  rintro e w' ⟨rfl, rfl⟩
  rw [unhide HVX]
  go_wp2_with fail
  exact bodyPost_ret (v := .tuple #[rdV xo len xc ((place + 4 : Nat) : Int) place nm fw fa 0, .int .u64 x, .slice none 0 0]) (by simp [results, Tryz.results127, go_sem, rdV]) rfl ⟨rfl, box3 w _ _ _⟩
end Go.Proofs.YtcpbmphknonflaaGreatDoor
