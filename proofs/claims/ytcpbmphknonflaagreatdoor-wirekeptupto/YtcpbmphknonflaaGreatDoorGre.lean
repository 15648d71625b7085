import Derived.Test.YtcpbmphknonflaaGreatDoorGrd
namespace Go.Proofs.YtcpbmphknonflaaGreatDoor
open Go.RowKit

theorem cut_at {w : World} {xo : Option Addr} {all : List Nat} {xc place n : Nat} (hx : Src w (.slice xo all.length xc) all) (hlc : all.length ≤ xc) (hs : n + place ≤ all.length) (hn : 0 < n) : Src w (.slice (Option.map (fun x => x.add place) xo) n (xc - place)) ((all.drop place).take n) := by
  have h := hx.cut place n hs hlc
  rw [if_neg (by omega)] at h
  exact h

set_option maxRecDepth 1000000 in
theorem gread_1_ok (xo : Option Addr) (all : List Nat) (xc place : Nat) (last fa : Int) (nm fw s : ByteArray) (u : Nat) (n m : Int) (w : World) (hx : Src w (.slice xo all.length xc) all) (hlc : all.length ≤ xc) (hl : all.length ≤ 140737488355328) (hs : 1 + place ≤ all.length) :
    Calls Tryz.prog 127 #[rdV xo all.length xc place last nm fw fa 0, .agg #[.int .i64 1, .int .u64 u, .string s, .int .i64 n, .int .i64 m]] w fun e w' => e = .returned (.tuple #[rdV xo all.length xc ((place + 1 : Nat) : Int) place nm fw fa 0, .int .u64 (val ((all.drop place).take 1)), .slice none 0 0]) ∧ Fr (fun _ => False) w w' := by
  have hw : IntKind.i64.wrap ((all.length : Int) - place) = (all.length : Int) - place := by rw [IntKind.wrap_i64]; omega
  have hd : decide ((all.length : Int) - place < 1) = false := by simp; omega
  have hcut := cut_at (n := 1) hx hlc hs (by decide)
  have hlen : ((all.drop place).take 1).length ≤ 8 := by simp; omega
  generalize (all.drop place).take 1 = l at *
  have HX := hide (And.intro hcut hlen)
  clear hx hcut hlen
  generalize all.length = len at *
  unfold rdV
  go_enter Tryz.func127, Tryz.ntmps127
  go_wp2_with fail
  refine (value_any _ l _ ((unhide HX).1.fr (box3 w _ _ _) (fun _ _ _ _ _ h => h)) (unhide HX).2).mono ?_
  rintro e w' ⟨rfl, rfl⟩
  go_wp2_with fail
  exact bodyPost_ret (v := .tuple #[rdV xo len xc ((place + 1 : Nat) : Int) place nm fw fa 0, .int .u64 (val l), .slice none 0 0]) (by simp [results, Tryz.results127, go_sem, rdV]) rfl ⟨rfl, box3 w _ _ _⟩
set_option maxRecDepth 1000000 in
theorem gread_2_ok (xo : Option Addr) (all : List Nat) (xc place : Nat) (last fa : Int) (nm fw s : ByteArray) (u : Nat) (n m : Int) (w : World) (hx : Src w (.slice xo all.length xc) all) (hlc : all.length ≤ xc) (hl : all.length ≤ 140737488355328) (hs : 2 + place ≤ all.length) :
    Calls Tryz.prog 127 #[rdV xo all.length xc place last nm fw fa 0, .agg #[.int .i64 2, .int .u64 u, .string s, .int .i64 n, .int .i64 m]] w fun e w' => e = .returned (.tuple #[rdV xo all.length xc ((place + 2 : Nat) : Int) place nm fw fa 0, .int .u64 (val ((all.drop place).take 2)), .slice none 0 0]) ∧ Fr (fun _ => False) w w' := by
  have hw : IntKind.i64.wrap ((all.length : Int) - place) = (all.length : Int) - place := by rw [IntKind.wrap_i64]; omega
  have hd : decide ((all.length : Int) - place < 2) = false := by simp; omega
  have hcut := cut_at (n := 2) hx hlc hs (by decide)
  have hlen : ((all.drop place).take 2).length ≤ 8 := by simp; omega
  generalize (all.drop place).take 2 = l at *
  have HX := hide (And.intro hcut hlen)
  clear hx hcut hlen
  generalize all.length = len at *
  unfold rdV
  go_enter Tryz.func127, Tryz.ntmps127
  go_wp2_with fail
  refine (value_any _ l _ ((unhide HX).1.fr (box3 w _ _ _) (fun _ _ _ _ _ h => h)) (unhide HX).2).mono ?_
  rintro e w' ⟨rfl, rfl⟩
  go_wp2_with fail
  exact bodyPost_ret (v := .tuple #[rdV xo len xc ((place + 2 : Nat) : Int) place nm fw fa 0, .int .u64 (val l), .slice none 0 0]) (by simp [results, Tryz.results127, go_sem, rdV]) rfl ⟨rfl, box3 w _ _ _⟩
set_option maxRecDepth 1000000 in
theorem gread_4_ok (xo : Option Addr) (all : List Nat) (xc place : Nat) (last fa : Int) (nm fw s : ByteArray) (u : Nat) (n m : Int) (w : World) (hx : Src w (.slice xo all.length xc) all) (hlc : all.length ≤ xc) (hl : all.length ≤ 140737488355328) (hs : 4 + place ≤ all.length) :
    Calls Tryz.prog 127 #[rdV xo all.length xc place last nm fw fa 0, .agg #[.int .i64 4, .int .u64 u, .string s, .int .i64 n, .int .i64 m]] w fun e w' => e = .returned (.tuple #[rdV xo all.length xc ((place + 4 : Nat) : Int) place nm fw fa 0, .int .u64 (val ((all.drop place).take 4)), .slice none 0 0]) ∧ Fr (fun _ => False) w w' := by
  have hw : IntKind.i64.wrap ((all.length : Int) - place) = (all.length : Int) - place := by rw [IntKind.wrap_i64]; omega
  have hd : decide ((all.length : Int) - place < 4) = false := by simp; omega
  have hcut := cut_at (n := 4) hx hlc hs (by decide)
  have hlen : ((all.drop place).take 4).length ≤ 8 := by simp; omega
  generalize (all.drop place).take 4 = l at *
  have HX := hide (And.intro hcut hlen)
  clear hx hcut hlen
  generalize all.length = len at *
  unfold rdV
  go_enter Tryz.func127, Tryz.ntmps127
  go_wp2_with fail
  refine (value_any _ l _ ((unhide HX).1.fr (box3 w _ _ _) (fun _ _ _ _ _ h => h)) (unhide HX).2).mono ?_
  rintro e w' ⟨rfl, rfl⟩
  go_wp2_with fail
  exact bodyPost_ret (v := .tuple #[rdV xo len xc ((place + 4 : Nat) : Int) place nm fw fa 0, .int .u64 (val l), .slice none 0 0]) (by simp [results, Tryz.results127, go_sem, rdV]) rfl ⟨rfl, box3 w _ _ _⟩
set_option maxRecDepth 1000000 in
theorem gread_8_ok (xo : Option Addr) (all : List Nat) (xc place : Nat) (last fa : Int) (nm fw s : ByteArray) (u : Nat) (n m : Int) (w : World) (hx : Src w (.slice xo all.length xc) all) (hlc : all.length ≤ xc) (hl : all.length ≤ 140737488355328) (hs : 8 + place ≤ all.length) :
    Calls Tryz.prog 127 #[rdV xo all.length xc place last nm fw fa 0, .agg #[.int .i64 8, .int .u64 u, .string s, .int .i64 n, .int .i64 m]] w fun e w' => e = .returned (.tuple #[rdV xo all.length xc ((place + 8 : Nat) : Int) place nm fw fa 0, .int .u64 (val ((all.drop place).take 8)), .slice none 0 0]) ∧ Fr (fun _ => False) w w' := by
  have hw : IntKind.i64.wrap ((all.length : Int) - place) = (all.length : Int) - place := by rw [IntKind.wrap_i64]; omega
  have hd : decide ((all.length : Int) - place < 8) = false := by simp; omega
  have hcut := cut_at (n := 8) hx hlc hs (by decide)
  have hlen : ((all.drop place).take 8).length ≤ 8 := by simp; omega
  generalize (all.drop place).take 8 = l at *
  have HX := hide (And.intro hcut hlen)
  clear hx hcut hlen
  generalize all.length = len at *
  unfold rdV
  go_enter Tryz.func127, Tryz.ntmps127
  go_wp2_with fail
  refine (value_any _ l _ ((unhide HX).1.fr (box3 w _ _ _) (fun _ _ _ _ _ h => h)) (unhide HX).2).mono ?_
  rintro e w' ⟨rfl, rfl⟩
  go_wp2_with fail
  exact bodyPost_ret (v := .tuple #[rdV xo len xc ((place + 8 : Nat) : Int) place nm fw fa 0, .int .u64 (val l), .slice none 0 0]) (by simp [results, Tryz.results127, go_sem, rdV]) rfl ⟨rfl, box3 w _ _ _⟩
end Go.Proofs.YtcpbmphknonflaaGreatDoor
