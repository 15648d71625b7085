import Derived.Test.YtebipmknlgcnaaaCrk
import Derived.Test.YtebipmknlgcnaaaCre
namespace Go.Proofs.Ytebipmknlgcnaaa
open Go.RowKit

set_option maxRecDepth 100000 in
theorem csums_any (s : Nat) (x : Value) (l : List Nat) (w : World) (hs : s < 4294967296) (hx : Src w x l) (hl : l.length ≤ 140737488355328) :
    Calls Try.prog 5 #[.int .u32 s, x] w fun e w' => e = .returned (.bool true) ∧ Fr (fun _ => False) w w' := by
  have HX := hide hx
  clear hx
  go_enter Try.func5, Try.ntmps5
  go_wp2_with fail
  refine (awake_any _).mono ?_
  rintro e w1 ⟨rfl, hF⟩
  have H1 := hide hF
  clear hF
  go_wp2_with fail
  refine (up_any s x l w1 hs ((unhide HX).fr0 (unhide H1)) hl).mono ?_
  rintro e w2 ⟨rfl, hF⟩
  have H2 := hide ((unhide H1).trans hF (fun _ _ h => h))
  clear hF
  generalize hz : Sm s l = z
  have HZ := hide hz
  clear hz
  go_wp2_with fail
  refine (gup_any s x l w2 hs ((unhide HX).fr0 (unhide H2)) hl).mono ?_
  rintro e w' ⟨rfl, rfl⟩
  rw [unhide HZ]
  go_wp2_with fail
  refine (sum_any x l _ ((unhide HX).fr0 (unhide H2)) hl).mono ?_
  rintro e w3 ⟨rfl, hF⟩
  have H3 := hide ((unhide H2).trans hF (fun _ _ h => h))
  clear hF
  generalize hy : Sm 0 l = y
  have HY := hide hy
  clear hy
  go_wp2_with fail
  refine (gup_any 0 x l w3 (by decide) ((unhide HX).fr0 (unhide H3)) hl).mono ?_
  rintro e w' ⟨rfl, rfl⟩
  rw [unhide HY]
  go_wp2_with fail
  go_ret
  exact ⟨rfl, unhide H3⟩
set_option maxRecDepth 100000 in
theorem ccomb_any (f s : Nat) (n : Int) (w : World) (hf : f < 4294967296) (hs : s < 4294967296) (hn : n < 9223372036854775808) :
    Calls Try.prog 6 #[.int .u32 f, .int .u32 s, .int .i64 n] w fun e w' => e = .returned (.bool true) ∧ Fr (fun _ => False) w w' := by
  by_cases hneg : n < 0
  · have HN := hide hneg
    clear hneg hn
    go_enter Try.func6, Try.ntmps6
    go_wp2_with fail
    refine (combine_neg f s n _ (unhide HN)).mono ?_
    rintro e w' ⟨rfl, rfl⟩
    go_wp2_with fail
    refine (gcombine_neg f s n _ (unhide HN)).mono ?_
    rintro e w' ⟨rfl, rfl⟩
    go_wp2_with fail
    refine (awake_any _).mono ?_
    rintro e w1 ⟨rfl, hF⟩
    have H1 := hide hF
    clear hF
    go_wp2_with fail
    go_ret
    exact ⟨rfl, unhide H1⟩
  · obtain ⟨m, rfl⟩ : ∃ m : Nat, n = m := ⟨n.toNat, by omega⟩
    have hm : m < 9223372036854775808 := by omega
    clear hneg hn
    go_enter Try.func6, Try.ntmps6
    go_wp2_with fail
    refine (combine_any f s m w hf hs hm).mono ?_
    rintro e w' ⟨rfl, rfl⟩
    generalize hz : (Xn (8 * m) f ^^^ s) = z
    have HZ := hide hz
    clear hz
    go_wp2_with fail
    refine (gcombine_any f s m _ hf hs hm).mono ?_
    rintro e w' ⟨rfl, rfl⟩
    rw [unhide HZ]
    go_wp2_with fail
    refine (awake_any _).mono ?_
    rintro e w1 ⟨rfl, hF⟩
    have H1 := hide hF
    clear hF
    go_wp2_with fail
    go_ret
    exact ⟨rfl, unhide H1⟩
end Go.Proofs.Ytebipmknlgcnaaa
