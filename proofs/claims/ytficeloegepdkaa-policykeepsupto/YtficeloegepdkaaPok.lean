import Derived.Test.YtficeloegepdkaaPoj
namespace Go.Proofs.Ytficeloegepdkaa
open Go.RowKit

theorem Fr.drewN {S : Nat → Prop} {a w : World} (h : Fr S a w) (n : Nat) : Fr S a (w.drewN n) := ⟨h.os, h.tape, h.output, h.size, h.block⟩
def fndI (S : List P3) (k : Nat) : Int := match fnd S k with
  | some j => (j : Int)
  | none => -1
set_option maxRecDepth 100000 in
/-- The reference's Find. -/
theorem gfind_any (x : Value) (l : List P3) (k : Nat) (w : World) (hx : Stf w x l) (hl : l.length ≤ 140737488355328) :
    Calls Try.prog 18 #[x, .int .u32 (k : Nat)] w fun e w' => e = .returned (.int .i64 (fndI l k)) ∧ w' = w := by
  have HX := hide hx
  obtain ⟨xo, xc, rfl⟩ := hx.form
  clear hx
  go_enter Try.func18, Try.ntmps18
  go_wp2_with fail
  go_loopw [5] (fun iv wr => ∃ j : Nat, j ≤ l.length ∧ iv = .int .i64 (j : Nat) ∧ (∀ i (hi : i < l.length), i < j → l[i].a ≠ k) ∧ wr = w) (fun iv _ => l.length - (intOf iv).toNat)
  case atStart => exact ⟨0, Nat.zero_le _, rfl, fun i _ h => by omega, rfl⟩
  case round =>
    obtain ⟨j, hj, rfl, hno, rfl⟩ := hrel
    have HF := hide hno
    clear hno
    by_cases hlt : j < l.length
    · obtain ⟨g, o, rfl, c0, c1, c2⟩ := (unhide HX).at_ j hlt
      clear c1 c2
      obtain ⟨a, ha⟩ : ∃ a, l[j].a = a := ⟨_, rfl⟩
      rw [ha] at c0
      have HA := hide ha
      clear ha
      by_cases hk : a = k
      · have HE := hide (fnd_at hlt (unhide HF) ((unhide HA).trans hk)).1
        subst hk
        go_wp2_with fail
        go_ret
        exact ⟨by rw [fndI, unhide HE]; rfl, rfl⟩
      · go_wp2_with fail
        go_roundw
        case rel =>
          refine ⟨j + 1, hlt, rfl, fun i hi h => ?_, trivial⟩
          rcases Nat.lt_or_ge i j with h1 | h1
          · exact (unhide HF) i hi h1
          · obtain rfl : i = j := by omega
            rw [unhide HA]; exact hk
        case measure => simp [intOf]; omega
    · have HE := hide (fnd_no (l := l) (k := k) (fun i hi => (unhide HF) i hi (by omega))).1
      go_wp2_with fail
      go_ret
      exact ⟨by rw [fndI, unhide HE]; rfl, rfl⟩
set_option maxRecDepth 100000 in
/-- The reference's granted. -/
theorem ggranted_any (wd ow : Value) (sl : Value) (x : Value) (l : List Nat) (k : Nat) (w : World) (hx : Us w x l) (hl : l.length ≤ 140737488355328) :
    Calls Try.prog 31 #[.agg #[wd, ow, sl, x], .int .u32 (k : Nat)] w fun e w' => e = .returned (.bool (decide (k ∈ l))) ∧ Fr (fun _ => False) w w' := by
  have HX := hide hx
  obtain ⟨xo, xc, rfl⟩ := hx.form
  clear hx
  go_enter Try.func31, Try.ntmps31
  go_wp2_with fail
  obtain ⟨w1, hw1⟩ : ∃ w1, w.alloc (.cells #[wd, ow, sl, .slice xo l.length xc] 46) = w1 := ⟨_, rfl⟩
  have hf1 : Fr (fun _ => False) w w1 := by rw [← hw1]; exact (Fr.refl _ _).alloc _
  have hb1 : w1.heap[w.heap.size]? = some (.cells #[wd, ow, sl, .slice xo l.length xc] 46) := by rw [← hw1]; exact Array.getElem?_push_size
  have b3 : w1.cell? ⟨w.heap.size, 3, none⟩ = some (.slice xo l.length xc) := by simp only [World.cell?, hb1]; rfl
  have HX1 := hide ((unhide HX).fr hf1)
  have HF1 := hide hf1
  rw [hw1]
  clear hw1 hf1 HX hb1
  go_loopw [5] (fun iv wr => ∃ j : Nat, j ≤ l.length ∧ iv = .int .i64 (j : Nat) ∧ (∀ i (hi : i < l.length), i < j → l[i] ≠ k) ∧ wr = w1) (fun iv _ => l.length - (intOf iv).toNat)
  case atStart => exact ⟨0, Nat.zero_le _, rfl, fun i _ h => by omega, rfl⟩
  case round =>
    obtain ⟨j, hj, rfl, hno, rfl⟩ := hrel
    have HF := hide hno
    clear hno
    by_cases hlt : j < l.length
    · obtain ⟨g, o, rfl, c0⟩ := (unhide HX1).at_ j hlt
      obtain ⟨a, ha⟩ : ∃ a, l[j] = a := ⟨_, rfl⟩
      rw [ha] at c0
      have HA := hide ha
      clear ha
      by_cases hk : a = k
      · have HM := hide (show k ∈ l by rw [← hk, ← unhide HA]; exact List.getElem_mem hlt)
        subst hk
        go_wp2_with fail
        go_ret
        exact ⟨by simp [unhide HM], unhide HF1⟩
      · go_wp2_with fail
        go_roundw
        case rel =>
          refine ⟨j + 1, hlt, rfl, fun i hi h => ?_, trivial⟩
          rcases Nat.lt_or_ge i j with h1 | h1
          · exact (unhide HF) i hi h1
          · obtain rfl : i = j := by omega
            rw [unhide HA]; exact hk
        case measure => simp [intOf]; omega
    · have HM := hide (show ¬ k ∈ l from fun h => by
        obtain ⟨i, hi, e⟩ := List.mem_iff_getElem.1 h
        exact (unhide HF) i hi (by omega) e)
      go_wp2_with fail
      go_ret
      exact ⟨by simp [unhide HM], unhide HF1⟩
end Go.Proofs.Ytficeloegepdkaa
