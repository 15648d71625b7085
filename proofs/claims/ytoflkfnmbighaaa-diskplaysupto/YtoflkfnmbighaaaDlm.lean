import Derived.Test.YtoflkfnmbighaaaDkz
namespace Go.Proofs.Ytoflkfnmbighaaa
open Go.RowKit Go.ChangeShapes Go.WideShapes Go.Maps Go.Sort

/-- Why a call that names a file is refused first: 6 off, 15 none. -/
def DM.no (s : DM) (x : List UInt8) (c : Int) : Prop := (s.off = true ∧ c = 6) ∨ (s.off = false ∧ Maps.has s.D (.string x) = false ∧ c = 15)
theorem DM.no_c {s : DM} {x : List UInt8} {c : Int} (h : s.no x c) : ¬ c = 0 := by rcases h with ⟨_, rfl⟩ | ⟨_, _, rfl⟩ <;> decide
theorem find_no (d m : Nat) (s : DM) (q : DW) (O : Nat → Prop) (name : ByteArray) (c : Int) (w : World) (h : DkAt w d m s q O) (hn : name.size ≤ maxLen) (hno : s.no (nm name) c) :
    Calls Try.prog 33 #[.pointer (some ⟨d, 0, none⟩), .string name] w fun e w' => e = .returned (.tuple #[.pointer none, .int .i64 c]) ∧ w' = w := by
  rcases hno with ⟨ho, rfl⟩ | ⟨ho, hh, rfl⟩
  · exact find_off d m s q O name w h ho
  · exact find_none d m s q O name w h ho hn hh
set_option maxRecDepth 100000 in
theorem new_no (limit : Int) (w : World) (h1 : limit < 1 ∨ 1048576 < limit) :
    Calls Try.prog 5 #[.int .i64 limit] w fun e w' => e = .returned (.tuple #[.pointer none, .int .i64 1]) ∧ w' = w := by
  rcases h1 with h1 | h1
  · go_enter Try.func5, Try.ntmps5
    go_wp2
    go_ret2
    exact ⟨rfl, rfl⟩
  · have h2 : ¬ limit < 1 := by omega
    go_enter Try.func5, Try.ntmps5
    go_wp2
    go_ret2
    exact ⟨rfl, rfl⟩
set_option maxRecDepth 100000 in
theorem size_no (d m : Nat) (s : DM) (q : DW) (O : Nat → Prop) (name : ByteArray) (c : Int) (w : World) (h : DkAt w d m s q O) (hn : name.size ≤ maxLen) (hno : s.no (nm name) c) :
    Calls Try.prog 12 #[.pointer (some ⟨d, 0, none⟩), .string name] w fun e w' => e = .returned (.tuple #[.int .i64 0, .int .i64 c]) ∧ w' = w := by
  have HF := hide (find_no d m s q O name c w h hn hno)
  have hc := DM.no_c hno
  clear h hno
  go_enter Try.func12, Try.ntmps12
  go_wp2_with (go_at_call 33; refine (unhide HF).mono ?_; rintro e w' ⟨rfl, rfl⟩)
  go_ret2
  exact ⟨rfl, rfl⟩
set_option maxRecDepth 100000 in
theorem synced_no (d m : Nat) (s : DM) (q : DW) (O : Nat → Prop) (name : ByteArray) (c : Int) (w : World) (h : DkAt w d m s q O) (hn : name.size ≤ maxLen) (hno : s.no (nm name) c) :
    Calls Try.prog 24 #[.pointer (some ⟨d, 0, none⟩), .string name] w fun e w' => e = .returned (.tuple #[.int .i64 0, .int .i64 c]) ∧ w' = w := by
  have HF := hide (find_no d m s q O name c w h hn hno)
  have hc := DM.no_c hno
  clear h hno
  go_enter Try.func24, Try.ntmps24
  go_wp2_with (go_at_call 33; refine (unhide HF).mono ?_; rintro e w' ⟨rfl, rfl⟩)
  go_ret2
  exact ⟨rfl, rfl⟩
set_option maxRecDepth 100000 in
theorem read_no (d m : Nat) (s : DM) (q : DW) (O : Nat → Prop) (name : ByteArray) (c at_ n : Int) (w : World) (h : DkAt w d m s q O) (hn : name.size ≤ maxLen) (hno : s.no (nm name) c) :
    Calls Try.prog 20 #[.pointer (some ⟨d, 0, none⟩), .string name, .int .i64 at_, .int .i64 n] w fun e w' => e = .returned (.tuple #[.slice none 0 0, .int .i64 c]) ∧ w' = w := by
  have HF := hide (find_no d m s q O name c w h hn hno)
  have hc := DM.no_c hno
  clear h hno
  go_enter Try.func20, Try.ntmps20
  go_wp2_with (go_at_call 33; refine (unhide HF).mono ?_; rintro e w' ⟨rfl, rfl⟩)
  go_ret2
  exact ⟨rfl, rfl⟩
set_option maxRecDepth 100000 in
theorem append_no (d m : Nat) (s : DM) (q : DW) (O : Nat → Prop) (name : ByteArray) (c : Int) (x : Value) (w : World) (h : DkAt w d m s q O) (hn : name.size ≤ maxLen) (hno : s.no (nm name) c) :
    Calls Try.prog 10 #[.pointer (some ⟨d, 0, none⟩), .string name, x] w fun e w' => e = .returned (.int .i64 c) ∧ w' = w := by
  have HF := hide (find_no d m s q O name c w h hn hno)
  have hc := DM.no_c hno
  clear h hno
  go_enter Try.func10, Try.ntmps10
  go_wp2_with (go_at_call 33; refine (unhide HF).mono ?_; rintro e w' ⟨rfl, rfl⟩)
  go_ret
  exact ⟨rfl, rfl⟩
set_option maxRecDepth 100000 in
theorem sync_no (d m : Nat) (s : DM) (q : DW) (O : Nat → Prop) (name : ByteArray) (c : Int) (w : World) (h : DkAt w d m s q O) (hn : name.size ≤ maxLen) (hno : s.no (nm name) c) :
    Calls Try.prog 38 #[.pointer (some ⟨d, 0, none⟩), .string name] w fun e w' => e = .returned (.int .i64 c) ∧ w' = w := by
  have HF := hide (find_no d m s q O name c w h hn hno)
  have hc := DM.no_c hno
  clear h hno
  go_enter Try.func38, Try.ntmps38
  go_wp2_with (go_at_call 33; refine (unhide HF).mono ?_; rintro e w' ⟨rfl, rfl⟩)
  go_ret
  exact ⟨rfl, rfl⟩
set_option maxRecDepth 100000 in
theorem cut_no (d m : Nat) (s : DM) (q : DW) (O : Nat → Prop) (name : ByteArray) (c n : Int) (w : World) (h : DkAt w d m s q O) (hn : name.size ≤ maxLen) (hno : s.no (nm name) c) :
    Calls Try.prog 40 #[.pointer (some ⟨d, 0, none⟩), .string name, .int .i64 n] w fun e w' => e = .returned (.int .i64 c) ∧ w' = w := by
  have HF := hide (find_no d m s q O name c w h hn hno)
  have hc := DM.no_c hno
  clear h hno
  go_enter Try.func40, Try.ntmps40
  go_wp2_with (go_at_call 33; refine (unhide HF).mono ?_; rintro e w' ⟨rfl, rfl⟩)
  go_ret
  exact ⟨rfl, rfl⟩
set_option maxRecDepth 100000 in
theorem remove_no (d m : Nat) (s : DM) (q : DW) (O : Nat → Prop) (name : ByteArray) (c : Int) (w : World) (h : DkAt w d m s q O) (hn : name.size ≤ maxLen) (hno : s.no (nm name) c) :
    Calls Try.prog 42 #[.pointer (some ⟨d, 0, none⟩), .string name] w fun e w' => e = .returned (.int .i64 c) ∧ w' = w := by
  have HF := hide (find_no d m s q O name c w h hn hno)
  have hc := DM.no_c hno
  clear h hno
  go_enter Try.func42, Try.ntmps42
  go_wp2_with (go_at_call 33; refine (unhide HF).mono ?_; rintro e w' ⟨rfl, rfl⟩)
  go_ret
  exact ⟨rfl, rfl⟩
set_option maxRecDepth 100000 in
theorem turn_no (d m : Nat) (s : DM) (q : DW) (O : Nat → Prop) (name : ByteArray) (c at_ bit : Int) (w : World) (h : DkAt w d m s q O) (hn : name.size ≤ maxLen) (hno : s.no (nm name) c) :
    Calls Try.prog 46 #[.pointer (some ⟨d, 0, none⟩), .string name, .int .i64 at_, .int .u64 bit] w fun e w' => e = .returned (.int .i64 c) ∧ w' = w := by
  have HF := hide (find_no d m s q O name c w h hn hno)
  have hc := DM.no_c hno
  clear h hno
  go_enter Try.func46, Try.ntmps46
  go_wp2_with (go_at_call 33; refine (unhide HF).mono ?_; rintro e w' ⟨rfl, rfl⟩)
  go_ret
  exact ⟨rfl, rfl⟩
end Go.Proofs.Ytoflkfnmbighaaa
