import Derived.Test.YtjkkonhhnmjcaaaGreatDoorWrb
namespace Go.Proofs.YtjkkonhhnmjcaaaGreatDoor
open Go.RowKit

/-- Nothing stands beside the parts. -/
def unN (beside : Bool) (_ : Nat) : Nat := if beside then 4 else 0
set_option maxRecDepth 100000 in
theorem unless_clo (bs : Bool) (v : Nat) (E : Nat → Addr) (p0 : Addr) (w : World) (h0 : w.cell? p0 = some (.bool bs)) (g4 : w.cell? ⟨1, 0, none⟩ = some (errV E 4)) :
    Calls Tryz.prog 93 #[.int .u8 (v : Nat), .pointer (some p0)] w fun e w' => e = .returned (errV E (unN bs v)) ∧ Fr (fun _ => False) w w' := by
  cases bs
  all_goals
    go_enter Tryz.func93, Tryz.ntmps93
    go_wp2_with fail
    go_ret
    exact ⟨rfl, Fr.refl _ _⟩
set_option maxRecDepth 100000 in
theorem unless_any (bs : Bool) (E : Nat → Addr) (w : World) (hg : G6 w E) :
    Calls Tryz.prog 71 #[.bool bs] w fun e w' => ∃ fv, e = .returned fv ∧ ∃ K, FnR enU8 w' K fv E (unN bs) ∧ Fr (fun _ => False) w w' ∧ Knew w K := by
  have hmf := mf
  have k4 := hg.k4
  have hl4 := lt_of_cell k4
  clear hg
  go_enter Tryz.func71, Tryz.ntmps71
  go_wp2_with fail
  go_ret
  refine ⟨_, rfl, fun k => k = w.heap.size ∨ k = 1, ⟨fun k hk => ?_, fun v => by simp only [unN]; split <;> omega, _, _, rfl, fun _ W => enters Tryz.func93 rfl rfl _ W, ?_⟩, box1 _ _, fun k hk => ?_⟩
  · simp
    omega
  · rintro w2 x v hk ⟨rfl, _⟩
    exact unless_clo bs v E _ w2 (cell_of (by simp) (hk _ (.inl rfl))) (cell_of ((box1 w _).cell hl4 (fun h => h) |>.trans k4) (hk _ (.inr rfl)))
  · rcases hk with rfl | rfl
    · exact .inl (Nat.le_refl _)
    · exact .inr (by decide)
/-- v is not behind a, byte by byte. -/
def sle (v a : ByteArray) : Bool := Op.bytesLess v.toList a.toList || v.toList == a.toList
theorem leq_str (v a : ByteArray) (w : World) : (binOp .leq 9 (.string v) (.string a)).run Tryz.prog w = .ok (.bool (sle v a)) w := by simp [binOp, Op.stringOp, sle]
def abN (a v : ByteArray) : Nat := if sle v a then 6 else 0
set_option maxRecDepth 100000 in
theorem above_clo (a v : ByteArray) (E : Nat → Addr) (p0 : Addr) (w : World) (h0 : w.cell? p0 = some (.string a)) (g6 : w.cell? ⟨4, 0, none⟩ = some (errV E 6)) :
    Calls Tryz.prog 116 #[.string v, .pointer (some p0)] w fun e w' => e = .returned (errV E (abN a v)) ∧ Fr (fun _ => False) w w' := by
  have hle := leq_str v a
  unfold abN
  generalize sle v a = t at *
  cases t
  all_goals
    go_enter Tryz.func116, Tryz.ntmps116
    go_wp2_with fail
    go_ret
    exact ⟨rfl, Fr.refl _ _⟩
set_option maxRecDepth 100000 in
theorem above_any (a : ByteArray) (E : Nat → Addr) (w : World) (hg : G6 w E) :
    Calls Tryz.prog 85 #[.string a] w fun e w' => ∃ fv, e = .returned fv ∧ ∃ K, FnR enStr w' K fv E (abN a) ∧ Fr (fun _ => False) w w' ∧ Knew w K := by
  have hmf := mf
  have k6 := hg.k6
  have hl6 := lt_of_cell k6
  clear hg
  go_enter Tryz.func85, Tryz.ntmps85
  go_wp2_with fail
  go_ret
  refine ⟨_, rfl, fun k => k = w.heap.size ∨ k = 4, ⟨fun k hk => ?_, fun v => by unfold abN; split <;> omega, _, _, rfl, fun _ W => enters Tryz.func116 rfl rfl _ W, ?_⟩, box1 _ _, fun k hk => ?_⟩
  · simp
    omega
  · rintro w2 x v hk rfl
    exact above_clo a v E _ w2 (cell_of (by simp) (hk _ (.inl rfl))) (cell_of ((box1 w _).cell hl6 (fun h => h) |>.trans k6) (hk _ (.inr rfl)))
  · rcases hk with rfl | rfl
    · exact .inl (Nat.le_refl _)
    · exact .inr (by decide)
/-- A reason's rule. -/
def rsN (hi : Int) (v : ByteArray) : Nat := wiI 0 hi 4 v.size
set_option maxRecDepth 100000 in
theorem reason_clo (hi : Int) (v : ByteArray) (lb : Nat) (E : Nat → Addr) (w : World) (h0 : w.cell? ⟨lb, 5, none⟩ = some (.int .i64 hi)) (g4 : w.cell? ⟨1, 0, none⟩ = some (errV E 4)) :
    Calls Tryz.prog 63 #[.string v, .pointer (some ⟨lb, 0, none⟩)] w fun e w' => e = .returned (errV E (rsN hi v)) ∧ Fr (fun _ => False) w w' := by
  go_enter Tryz.func63, Tryz.ntmps63
  go_wp2_with fail
  refine (within_int 0 hi 4 E w (by decide)).mono ?_
  rintro e w1 ⟨fv, rfl, K, hF, hf, _⟩
  obtain ⟨Fc, caps, rfl, he, hcall⟩ := hF.ex
  have HC := hide (And.intro (hcall w1 (.int .i64 (v.size : Nat)) (v.size : Nat) (fun _ _ => rfl) rfl) hf)
  clear hcall hF hf
  go_wp2_with fail
  refine (unhide HC).1.mono ?_
  rintro e w2 ⟨rfl, hf2⟩
  have HX := hide ((unhide HC).2.trans hf2 (fun _ _ h => h))
  clear hf2
  go_wp2_with fail
  go_ret
  exact ⟨rfl, unhide HX⟩
theorem reason_fn (hi : Int) (lb : Nat) (E : Nat → Addr) (w : World) (h0 : w.cell? ⟨lb, 5, none⟩ = some (.int .i64 hi)) (hg : G6 w E) : FnR enStr w (fun k => k = lb ∨ k = 1) (.func (.func 63) #[] #[.pointer (some ⟨lb, 0, none⟩)]) E (rsN hi) := by
  have hl := lt_of_cell h0
  have hl4 := lt_of_cell hg.k4
  refine ⟨fun k hk => ?_, fun v => by simp only [rsN, wiI]; split <;> omega, _, _, rfl, fun _ W => enters Tryz.func63 rfl rfl _ W, ?_⟩
  · rcases hk with rfl | rfl
    · exact hl
    · exact hl4
  · rintro w2 x v hk rfl
    exact reason_clo hi v lb E w2 (cell_of h0 (hk _ (.inl rfl))) (cell_of hg.k4 (hk _ (.inr rfl)))
end Go.Proofs.YtjkkonhhnmjcaaaGreatDoor
