import Derived.Test.YtcpbmphknonflaaGreatDoorRqm

namespace Go.Proofs.YtcpbmphknonflaaGreatDoor
open Go.RowKit

theorem val_mul (x c : Nat) (hx : x < 72057594037927936) : IntKind.u64.wrap (IntKind.u64.wrap ((x : Int) * 256) + ((c % 256 : Nat) : Int)) = ((x * 256 + c % 256 : Nat) : Int) := by
  rw [IntKind.wrap_u64, IntKind.wrap_u64]; omega

set_option maxRecDepth 100000 in
theorem value_any (x : Value) (l : List Nat) (w : World) (hx : Src w x l) (hl : l.length ≤ 8) :
    Calls Tryz.prog 148 #[x] w fun e w' => e = .returned (.int .u64 (val l)) ∧ w' = w := by
  have HX := hide hx
  obtain ⟨xo, xc, rfl⟩ := hx.form
  clear hx
  go_enter Tryz.func148, Tryz.ntmps148
  go_wp2_with fail
  go_loop [3, 4] (fun x i => ∃ k : Nat, k ≤ l.length ∧ i = .int .i64 k ∧ x = .int .u64 (val (l.take k))) (fun _ i => l.length - (intOf i).toNat)
  case atStart => exact ⟨0, Nat.zero_le _, rfl, rfl⟩
  case round =>
    obtain ⟨k, hk, rfl, rfl⟩ := hrel
    by_cases hlt : k < l.length
    · obtain ⟨g, o, rfl, hcell⟩ := src_at (unhide HX) k hlt
      have hv := val_lt (l.take k)
      have hv2 : val (l.take k) < 72057594037927936 := by
        refine Nat.lt_of_lt_of_le hv (Nat.le_trans (Nat.pow_le_pow_right (by decide) (show (l.take k).length ≤ 7 by simp; omega)) (by decide))
      have HE := hide (val_snoc (l.take k) l[k])
      generalize val (l.take k) = y at *
      go_wp2
      refine ⟨⟨k + 1, by omega, by go_num, ?_⟩, by simp [intOf]; omega⟩
      rw [List.take_add_one, List.getElem?_eq_getElem hlt, Option.toList_some, unhide HE]
      congr 1
    · go_wp2
      go_ret
      rw [List.take_of_length_le (by omega)]
      exact ⟨rfl, rfl⟩
end Go.Proofs.YtcpbmphknonflaaGreatDoor
