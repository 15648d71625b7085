import Derived.Test.YtmmaddlphclpnaaGreatDoorDkf
import Derived.Shelf.Strconv.Itoa1
namespace Go.Proofs.YtmmaddlphclpnaaGreatDoor
open Go.RowKit Go.Shelf Go.Lib

set_option maxHeartbeats 2000000 in
set_option maxRecDepth 100000 in
/-- The text of a number below 100. -/
theorem small_any (i : Nat) (h : i < 100) (w : World) :
    Calls Tryz.prog 142 #[.int .i64 (i : Nat)] w fun e w' => e = .returned (.string ⟨(Lib.decDigits i).toArray⟩) ∧ w' = w := by
  go_enter Tryz.func142, Tryz.ntmps142
  go_name_bytes_deep 45 SM hSM
  have eSM : SM = Lib.smalls := by rw [← hSM]; decide +kernel
  subst eSM
  clear hSM
  go_name_bytes_deep 30 DG hDG
  have eDG : DG = Lib.digits36 := by rw [← hDG]; decide +kernel
  subst eDG
  clear hDG
  by_cases h10 : i < 10
  · have hsl : ∀ w, (Instr.slice 9 (.string Lib.digits36) (some (.int .i64 (i : Int))) (some (.int .i64 ((i : Int) + 1))) none).run Tryz.prog w = .ok (.string (Lib.digits36.extract i (i + 1))) w := fun w => by
      rw [run_slice_string w 9 Lib.digits36 .i64 .i64 _ _ Tryz.underlying9 (by omega) (by omega) (by rw [Lib.digits36_size]; omega), show ((i : Int)).toNat = i by omega, show ((i : Int) + 1).toNat = i + 1 by omega]
    go_wp2
    go_ret
    refine ⟨?_, rfl⟩
    show Ending.returned (Value.string (Lib.digits36.extract i (i + 1))) = _
    rw [AnyPlain.small_ba (Lib.digits36.extract i (i + 1)) (Lib.decDigits i) (by rw [Lib.extract_data]; exact Lib.digits36_piece h10)]
  · have hsl : ∀ w, (Instr.slice 9 (.string Lib.smalls) (some (.int .i64 ((i : Int) * 2))) (some (.int .i64 ((i : Int) * 2 + 2))) none).run Tryz.prog w = .ok (.string (Lib.smalls.extract (i * 2) (i * 2 + 2))) w := fun w => by
      rw [run_slice_string w 9 Lib.smalls .i64 .i64 _ _ Tryz.underlying9 (by omega) (by omega) (by rw [Lib.smalls_size]; omega), show ((i : Int) * 2).toNat = i * 2 by omega, show ((i : Int) * 2 + 2).toNat = i * 2 + 2 by omega]
    go_wp2
    go_ret
    refine ⟨?_, rfl⟩
    show Ending.returned (Value.string (Lib.smalls.extract (i * 2) (i * 2 + 2))) = _
    rw [AnyPlain.small_ba (Lib.smalls.extract (i * 2) (i * 2 + 2)) (Lib.decDigits i) (by rw [Lib.extract_data]; exact Lib.smalls_piece h10 h)]
set_option maxRecDepth 100000 in
theorem formatInt_small (i : Nat) (h : i < 100) (w : World) :
    Calls Tryz.prog 131 #[.int .i64 (i : Nat), .int .i64 10] w fun e w' => e = .returned (.string ⟨(Lib.decDigits i).toArray⟩) ∧ w' = w := by
  have HS := hide (small_any i h w)
  go_enter Tryz.func131, Tryz.ntmps131
  go_wp2_with (go_at_call 142; refine (unhide HS).mono ?_; rintro e w' ⟨rfl, rfl⟩)
  go_ret
  exact ⟨rfl, rfl⟩
set_option maxRecDepth 100000 in
theorem itoa2_small (i : Nat) (h : i < 100) (w : World) :
    Calls Tryz.prog 106 #[.int .i64 (i : Nat)] w fun e w' => e = .returned (.string ⟨(Lib.decDigits i).toArray⟩) ∧ w' = w := by
  have HS := hide (formatInt_small i h w)
  go_enter Tryz.func106, Tryz.ntmps106
  go_wp2_with (go_at_call 131; refine (unhide HS).mono ?_; rintro e w' ⟨rfl, rfl⟩)
  go_ret
  exact ⟨rfl, rfl⟩
set_option maxRecDepth 100000 in
theorem itoa_small (i : Nat) (h : i < 100) (w : World) :
    Calls Tryz.prog 81 #[.int .i64 (i : Nat)] w fun e w' => e = .returned (.string ⟨(Lib.decDigits i).toArray⟩) ∧ w' = w := by
  have HS := hide (itoa2_small i h w)
  go_enter Tryz.func81, Tryz.ntmps81
  go_wp2_with (go_at_call 106; refine (unhide HS).mono ?_; rintro e w' ⟨rfl, rfl⟩)
  go_ret
  exact ⟨rfl, rfl⟩
/-- A segment's name. -/
def seg (name : ByteArray) (i : Nat) : ByteArray := name ++ ⟨#[46]⟩ ++ ⟨(Lib.decDigits i).toArray⟩
set_option maxRecDepth 100000 in
/-- Log.file. -/
theorem file_any (l i : Nat) (name : ByteArray) (w : World) (hi : i < 100) (hc : w.cell? ⟨l, 1, none⟩ = some (.string name)) (hn : name.size ≤ 1000) :
    Calls Tryz.prog 43 #[.pointer (some ⟨l, 0, none⟩), .int .i64 (i : Nat)] w fun e w' => e = .returned (.string (seg name i)) ∧ Fr (fun _ => False) w w' := by
  have HS : Hid (∀ W, Calls Tryz.prog 81 #[.int .i64 (i : Nat)] W fun e w' => e = .returned (.string ⟨(Lib.decDigits i).toArray⟩) ∧ w' = W) := fun W => itoa_small i hi W
  have hdl : (Lib.decDigits i).length ≤ 2 := by
    by_cases h : i < 10
    · rw [Lib.decDigits_one h]; exact Nat.le_succ 1
    · rw [Lib.decDigits_two h hi]; exact Nat.le_refl 2
  have hs1 : ((name ++ ByteArray.mk #[46]).size : Int) ≤ 8388608 := by rw [ByteArray.size_append, show (ByteArray.mk #[46]).size = 1 from rfl]; omega
  have hs2 : ((ByteArray.mk (Lib.decDigits i).toArray).size : Int) ≤ 8388608 := by rw [show (ByteArray.mk (Lib.decDigits i).toArray).size = (Lib.decDigits i).length by simp [ByteArray.size]]; omega
  have hp1 : ∀ W : World, (Op.stringOp .add name ⟨#[46]⟩).run Tryz.prog W = .ok (.string (name ++ ⟨#[46]⟩)) W := fun W => run_string_add W _ _ (by omega) (by decide)
  have hp2 : ∀ W : World, (Op.stringOp .add (name ++ ⟨#[46]⟩) ⟨(Lib.decDigits i).toArray⟩).run Tryz.prog W = .ok (.string (seg name i)) W := fun W => run_string_add W _ _ hs1 hs2
  clear hs1 hs2 hdl
  go_enter Tryz.func43, Tryz.ntmps43
  go_wp2_with fail
  go_region_held3 (fun w' => w'.cell? ⟨l, 1, none⟩ = some (.string name))
    (first | assumption)
    (first | (go_at_call 81; refine ((unhide HS) _).mono ?_; rintro e w' ⟨rfl, rfl⟩))
  all_goals
    go_wp2_with fail
    go_ret
    exact ⟨rfl, (Fr.refl _ _).drew⟩
end Go.Proofs.YtmmaddlphclpnaaGreatDoor
