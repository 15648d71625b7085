import Derived.Test.YtcpbmphknonflaaGreatDoorGva
import Derived.Test.YtcpbmphknonflaaGreatDoorRfa
namespace Go.Proofs.YtcpbmphknonflaaGreatDoor
open Go.RowKit

/-- The ref's reader, as a value. -/
def rdV (xo : Option Addr) (len xc : Nat) (place last : Int) (nm fw : ByteArray) (fa fy : Int) : Value :=
  .agg #[.slice xo len xc, .int .i64 place, .int .i64 last, .string nm, .string fw, .int .i64 fa, .int .i64 fy]

set_option maxRecDepth 1000000 in
theorem gread_10 (xo : Option Addr) (len xc : Nat) (place last fa fy : Int) (nm fw s : ByteArray) (u : Nat) (n m : Int) (w : World) :
    Calls Tryz.prog 127 #[rdV xo len xc place last nm fw fa fy, .agg #[.int .i64 10, .int .u64 u, .string s, .int .i64 n, .int .i64 m]] w fun e w' => e = .returned (.tuple #[rdV xo len xc place last s fw fa fy, .int .u64 0, .slice none 0 0]) ∧ Fr (fun _ => False) w w' := by
  unfold rdV
  go_enter Tryz.func127, Tryz.ntmps127
  go_wp2_with fail
  exact bodyPost_ret (v := .tuple #[rdV xo len xc place last s fw fa fy, .int .u64 0, .slice none 0 0]) (by simp [results, Tryz.results127, go_sem, rdV]) rfl ⟨rfl, box3 w _ _ _⟩

set_option maxRecDepth 1000000 in
theorem gread_given (xo : Option Addr) (len xc : Nat) (place last fa fy : Int) (nm fw s : ByteArray) (k : Int) (u : Nat) (n m : Int) (w : World) (h10 : k ≠ 10) (hy : fy ≠ 0) :
    Calls Tryz.prog 127 #[rdV xo len xc place last nm fw fa fy, .agg #[.int .i64 k, .int .u64 u, .string s, .int .i64 n, .int .i64 m]] w fun e w' => e = .returned (.tuple #[rdV xo len xc place last nm fw fa fy, .int .u64 0, .slice none 0 0]) ∧ Fr (fun _ => False) w w' := by
  have b10 : (k == 10) = false := by simp [h10]
  have by0 : (fy != 0) = true := by rw [bne_iff_ne]; exact hy
  clear h10 hy
  unfold rdV
  go_enter Tryz.func127, Tryz.ntmps127
  go_wp2_with fail
  exact bodyPost_ret (v := .tuple #[rdV xo len xc place last nm fw fa fy, .int .u64 0, .slice none 0 0]) (by simp [results, Tryz.results127, go_sem, rdV]) rfl ⟨rfl, box3 w _ _ _⟩

set_option maxRecDepth 1000000 in
theorem gread_9z (xo : Option Addr) (len xc : Nat) (place last fa : Int) (nm fw s : ByteArray) (u : Nat) (m : Int) (w : World) :
    Calls Tryz.prog 127 #[rdV xo len xc place last nm fw fa 0, .agg #[.int .i64 9, .int .u64 u, .string s, .int .i64 0, .int .i64 m]] w fun e w' => e = .returned (.tuple #[rdV xo len xc place last nm fw fa 0, .int .u64 0, .slice none 0 0]) ∧ Fr (fun _ => False) w w' := by
  unfold rdV
  go_enter Tryz.func127, Tryz.ntmps127
  go_wp2_with fail
  exact bodyPost_ret (v := .tuple #[rdV xo len xc place last nm fw fa 0, .int .u64 0, .slice none 0 0]) (by simp [results, Tryz.results127, go_sem, rdV]) rfl ⟨rfl, box3 w _ _ _⟩

set_option maxRecDepth 1000000 in
theorem gread_9 (xo : Option Addr) (len xc : Nat) (place last fa : Int) (nm fw s : ByteArray) (u : Nat) (n m : Int) (w : World) (hn : n ≠ 0) :
    Calls Tryz.prog 127 #[rdV xo len xc place last nm fw fa 0, .agg #[.int .i64 9, .int .u64 u, .string s, .int .i64 n, .int .i64 m]] w fun e w' => e = .returned (.tuple #[rdV xo len xc last last nm nm last n, .int .u64 0, .slice none 0 0]) ∧ Fr (fun _ => False) w w' := by
  have bn : (n != 0) = true := by rw [bne_iff_ne]; exact hn
  clear hn
  unfold rdV
  go_enter Tryz.func127, Tryz.ntmps127
  go_wp2_with fail
  exact bodyPost_ret (v := .tuple #[rdV xo len xc last last nm nm last n, .int .u64 0, .slice none 0 0]) (by simp [results, Tryz.results127, go_sem, rdV]) rfl ⟨rfl, box3 w _ _ _⟩

set_option maxRecDepth 1000000 in
theorem gread_1_short (xo : Option Addr) (len xc place : Nat) (last fa : Int) (nm fw s : ByteArray) (u : Nat) (n m : Int) (w : World) (hp : place ≤ len) (hs : len < 1 + place) :
    Calls Tryz.prog 127 #[rdV xo len xc place last nm fw fa 0, .agg #[.int .i64 1, .int .u64 u, .string s, .int .i64 n, .int .i64 m]] w fun e w' => e = .returned (.tuple #[rdV xo len xc place last nm nm place 1, .int .u64 0, .slice none 0 0]) ∧ Fr (fun _ => False) w w' := by
  have hw : IntKind.i64.wrap ((len : Int) - place) = (len : Int) - place := by rw [IntKind.wrap_i64]; omega
  have hd : decide ((len : Int) - place < 1) = true := by simp; omega
  unfold rdV
  go_enter Tryz.func127, Tryz.ntmps127
  go_wp2_with fail
  exact bodyPost_ret (v := .tuple #[rdV xo len xc place last nm nm place 1, .int .u64 0, .slice none 0 0]) (by simp [results, Tryz.results127, go_sem, rdV]) rfl ⟨rfl, box3 w _ _ _⟩
set_option maxRecDepth 1000000 in
theorem gread_2_short (xo : Option Addr) (len xc place : Nat) (last fa : Int) (nm fw s : ByteArray) (u : Nat) (n m : Int) (w : World) (hp : place ≤ len) (hs : len < 2 + place) :
    Calls Tryz.prog 127 #[rdV xo len xc place last nm fw fa 0, .agg #[.int .i64 2, .int .u64 u, .string s, .int .i64 n, .int .i64 m]] w fun e w' => e = .returned (.tuple #[rdV xo len xc place last nm nm place 1, .int .u64 0, .slice none 0 0]) ∧ Fr (fun _ => False) w w' := by
  have hw : IntKind.i64.wrap ((len : Int) - place) = (len : Int) - place := by rw [IntKind.wrap_i64]; omega
  have hd : decide ((len : Int) - place < 2) = true := by simp; omega
  unfold rdV
  go_enter Tryz.func127, Tryz.ntmps127
  go_wp2_with fail
  exact bodyPost_ret (v := .tuple #[rdV xo len xc place last nm nm place 1, .int .u64 0, .slice none 0 0]) (by simp [results, Tryz.results127, go_sem, rdV]) rfl ⟨rfl, box3 w _ _ _⟩
set_option maxRecDepth 1000000 in
theorem gread_4_short (xo : Option Addr) (len xc place : Nat) (last fa : Int) (nm fw s : ByteArray) (u : Nat) (n m : Int) (w : World) (hp : place ≤ len) (hs : len < 4 + place) :
    Calls Tryz.prog 127 #[rdV xo len xc place last nm fw fa 0, .agg #[.int .i64 4, .int .u64 u, .string s, .int .i64 n, .int .i64 m]] w fun e w' => e = .returned (.tuple #[rdV xo len xc place last nm nm place 1, .int .u64 0, .slice none 0 0]) ∧ Fr (fun _ => False) w w' := by
  have hw : IntKind.i64.wrap ((len : Int) - place) = (len : Int) - place := by rw [IntKind.wrap_i64]; omega
  have hd : decide ((len : Int) - place < 4) = true := by simp; omega
  unfold rdV
  go_enter Tryz.func127, Tryz.ntmps127
  go_wp2_with fail
  exact bodyPost_ret (v := .tuple #[rdV xo len xc place last nm nm place 1, .int .u64 0, .slice none 0 0]) (by simp [results, Tryz.results127, go_sem, rdV]) rfl ⟨rfl, box3 w _ _ _⟩
set_option maxRecDepth 1000000 in
theorem gread_8_short (xo : Option Addr) (len xc place : Nat) (last fa : Int) (nm fw s : ByteArray) (u : Nat) (n m : Int) (w : World) (hp : place ≤ len) (hs : len < 8 + place) :
    Calls Tryz.prog 127 #[rdV xo len xc place last nm fw fa 0, .agg #[.int .i64 8, .int .u64 u, .string s, .int .i64 n, .int .i64 m]] w fun e w' => e = .returned (.tuple #[rdV xo len xc place last nm nm place 1, .int .u64 0, .slice none 0 0]) ∧ Fr (fun _ => False) w w' := by
  have hw : IntKind.i64.wrap ((len : Int) - place) = (len : Int) - place := by rw [IntKind.wrap_i64]; omega
  have hd : decide ((len : Int) - place < 8) = true := by simp; omega
  unfold rdV
  go_enter Tryz.func127, Tryz.ntmps127
  go_wp2_with fail
  exact bodyPost_ret (v := .tuple #[rdV xo len xc place last nm nm place 1, .int .u64 0, .slice none 0 0]) (by simp [results, Tryz.results127, go_sem, rdV]) rfl ⟨rfl, box3 w _ _ _⟩
set_option maxRecDepth 1000000 in
theorem gread_5_short (xo : Option Addr) (len xc place : Nat) (last fa : Int) (nm fw s : ByteArray) (u : Nat) (n m : Int) (w : World) (hp : place ≤ len) (hs : len < 4 + place) :
    Calls Tryz.prog 127 #[rdV xo len xc place last nm fw fa 0, .agg #[.int .i64 5, .int .u64 u, .string s, .int .i64 n, .int .i64 m]] w fun e w' => e = .returned (.tuple #[rdV xo len xc place last nm nm place 1, .int .u64 0, .slice none 0 0]) ∧ Fr (fun _ => False) w w' := by
  have hw : IntKind.i64.wrap ((len : Int) - place) = (len : Int) - place := by rw [IntKind.wrap_i64]; omega
  have hd : decide ((len : Int) - place < 4) = true := by simp; omega
  unfold rdV
  go_enter Tryz.func127, Tryz.ntmps127
  go_wp2_with fail
  exact bodyPost_ret (v := .tuple #[rdV xo len xc place last nm nm place 1, .int .u64 0, .slice none 0 0]) (by simp [results, Tryz.results127, go_sem, rdV]) rfl ⟨rfl, box3 w _ _ _⟩
set_option maxRecDepth 1000000 in
theorem gread_6_short (xo : Option Addr) (len xc place : Nat) (last fa : Int) (nm fw s : ByteArray) (u : Nat) (n m : Int) (w : World) (hp : place ≤ len) (hs : len < 4 + place) :
    Calls Tryz.prog 127 #[rdV xo len xc place last nm fw fa 0, .agg #[.int .i64 6, .int .u64 u, .string s, .int .i64 n, .int .i64 m]] w fun e w' => e = .returned (.tuple #[rdV xo len xc place last nm nm place 1, .int .u64 0, .slice none 0 0]) ∧ Fr (fun _ => False) w w' := by
  have hw : IntKind.i64.wrap ((len : Int) - place) = (len : Int) - place := by rw [IntKind.wrap_i64]; omega
  have hd : decide ((len : Int) - place < 4) = true := by simp; omega
  unfold rdV
  go_enter Tryz.func127, Tryz.ntmps127
  go_wp2_with fail
  exact bodyPost_ret (v := .tuple #[rdV xo len xc place last nm nm place 1, .int .u64 0, .slice none 0 0]) (by simp [results, Tryz.results127, go_sem, rdV]) rfl ⟨rfl, box3 w _ _ _⟩
set_option maxRecDepth 1000000 in
theorem gread_7_short (xo : Option Addr) (len xc place : Nat) (last fa : Int) (nm fw s : ByteArray) (u : Nat) (n m : Int) (w : World) (hp : place ≤ len) (hs : len < 4 + place) :
    Calls Tryz.prog 127 #[rdV xo len xc place last nm fw fa 0, .agg #[.int .i64 7, .int .u64 u, .string s, .int .i64 n, .int .i64 m]] w fun e w' => e = .returned (.tuple #[rdV xo len xc place last nm nm place 1, .int .u64 0, .slice none 0 0]) ∧ Fr (fun _ => False) w w' := by
  have hw : IntKind.i64.wrap ((len : Int) - place) = (len : Int) - place := by rw [IntKind.wrap_i64]; omega
  have hd : decide ((len : Int) - place < 4) = true := by simp; omega
  unfold rdV
  go_enter Tryz.func127, Tryz.ntmps127
  go_wp2_with fail
  exact bodyPost_ret (v := .tuple #[rdV xo len xc place last nm nm place 1, .int .u64 0, .slice none 0 0]) (by simp [results, Tryz.results127, go_sem, rdV]) rfl ⟨rfl, box3 w _ _ _⟩
end Go.Proofs.YtcpbmphknonflaaGreatDoor
