import Derived.Test.YtebipmknlgcnaabCsp
namespace Go.Proofs.Ytebipmknlgcnaab
open Go.RowKit

set_option maxRecDepth 100000 in
theorem bursts_none (x : Value) (b : List Nat) (at_ : Int) (tu : Nat) (w : World) (hx : Src w x b) (h : b.length = 0 ∨ tu = 0) :
    Calls Try.prog 4 #[x, .int .i64 at_, .int .u32 tu] w fun e w' => e = .returned (.bool true) ∧ Fr (fun _ => False) w w' := by
  have hnot : ∀ (x : Bool) (w : World), (Op.unary .not (.bool x)).run Try.prog w = .ok (.bool (!x)) w := fun _ _ => rfl
  obtain ⟨xo, xc, rfl⟩ := hx.form
  clear hx
  by_cases hl : b.length = 0
  · rw [hl]
    clear h
    go_enter Try.func4, Try.ntmps4
    go_wp2_with fail
    refine (awake_any w).mono ?_
    rintro e w1 ⟨rfl, hF⟩
    have H1 := hide hF
    clear hF
    go_wp2_with fail
    go_ret
    exact ⟨rfl, unhide H1⟩
  · obtain rfl : tu = 0 := by omega
    have hb : ((b.length : Int) == 0) = false := beq_false_of_ne (by omega)
    clear h
    go_enter Try.func4, Try.ntmps4
    go_wp2_with fail
    refine (awake_any w).mono ?_
    rintro e w1 ⟨rfl, hF⟩
    have H1 := hide hF
    clear hF
    go_wp2_with fail
    go_ret
    exact ⟨rfl, unhide H1⟩
end Go.Proofs.Ytebipmknlgcnaab
