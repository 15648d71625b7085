import Derived.Test.YtiknjghcjaaenaaGreatDoorKPoa
namespace Go.Proofs.YtiknjghcjaaenaaGreatDoor
open Go.RowKit
def Us (w : World) (x : Value) (l : List Nat) : Prop :=
 (∃ a c, x = .slice a 0 c ∧ l = []) ∨ ∃ g o c, x = .slice (some ⟨g, o, none⟩) l.length c ∧ ∀ j (h : j < l.length), w.cell? ⟨g, o + j, none⟩ = some (.int .u32 (l[j] : Nat))
theorem Us.form {w : World} {x : Value} {l : List Nat} (h : Us w x l) : ∃ xo xc, x = .slice xo l.length xc := by
 rcases h with ⟨a, c, rfl, rfl⟩ | ⟨g, o, c, rfl, _⟩ <;> exact ⟨_, _, rfl⟩
theorem Us.fr {w w' : World} {x : Value} {l : List Nat} (h : Us w x l) (hf : Fr (fun _ => False) w w') : Us w' x l := by
 rcases h with h | ⟨g, o, c, h1, h2⟩
 ·exact .inl h
 ·exact .inr ⟨g, o, c, h1, fun j hj => (hf.cell (p := ⟨g, _, none⟩) (lt_of_cell (h2 j hj)) (fun h => h)).trans (h2 j hj)⟩
theorem Us.at_ {w : World} {xo : Option Addr} {n c : Nat} {l : List Nat} (h : Us w (.slice xo n c) l) (j : Nat) (hj : j < l.length) : ∃ g o, xo = some ⟨g, o, none⟩ ∧ w.cell? ⟨g, o + j, none⟩ = some (.int .u32 (l[j] : Nat)) := by
 rcases h with ⟨_, _, _, rfl⟩ | ⟨g, o, c', e, h2⟩
 ·simp at hj
 ·simp only [Value.slice.injEq] at e
  obtain ⟨rfl, _, _⟩ := e
  exact ⟨g, o, rfl, h2 j hj⟩
set_option maxRecDepth 100000 in
theorem index_any (x : Value) (l : List Nat) (k : Nat) (w : World) (hx : Us w x l) (hl : l.length ≤ 140737488355328) :
  Calls Tryz.prog 134 #[x, .int .u32 (k : Nat)] w fun e w' => (∃ z : Int, e = .returned (.int .i64 z) ∧ (0 ≤ z ↔ k ∈ l)) ∧ Fr (fun _ => False) w w' := by
 have HX := hide hx
 obtain ⟨xo, xc, rfl⟩ := hx.form
 clear hx
 go_enter Tryz.func134, Tryz.ntmps134
 go_wp2_with fail
 go_loopw [8] (fun iv wr => ∃ j : Nat, j ≤ l.length ∧ iv = .int .i64 (j : Nat) ∧ (∀ i (hi : i < l.length), i < j → l[i] ≠ k) ∧ Fr (fun _ => False) w wr) (fun iv _ => l.length - (intOf iv).toNat)
 case atStart => exact ⟨0, Nat.zero_le _, rfl, fun i _ h => by omega, Fr.refl _ _⟩
 case round =>
  obtain ⟨j, hj, rfl, hno, hfr⟩ := hrel
  have HF := hide (And.intro hno hfr)
  clear hno
  by_cases hlt : j < l.length
  ·obtain ⟨g, o, rfl, c0⟩ := ((unhide HX).fr hfr).at_ j hlt
   clear hfr
   obtain ⟨a, ha⟩ : ∃ a, l[j] = a := ⟨_, rfl⟩
   rw [ha] at c0
   have HA := hide ha
   clear ha
   by_cases hk : k = a
   ·have HM := hide (show k ∈ l by rw [hk, ← unhide HA]; exact List.getElem_mem hlt)
    subst hk
    go_wp2_with fail
    go_ret
    exact ⟨⟨_, rfl, fun _ => unhide HM, fun _ => by omega⟩, (unhide HF).2⟩
   ·go_wp2_with fail
    go_roundw
    case rel =>
     refine ⟨j + 1, hlt, rfl, fun i hi h => ?_, (unhide HF).2⟩
     rcases Nat.lt_or_ge i j with h1 | h1
     ·exact (unhide HF).1 i hi h1
     ·obtain rfl : i = j := by omega
      rw [unhide HA]; exact fun e => hk e.symm
    case measure => simp [intOf]; omega
  ·have HM := hide (show ¬ k ∈ l from fun h => by
    obtain ⟨i, hi, e⟩ := List.mem_iff_getElem.1 h
    exact (unhide HF).1 i hi (by omega) e)
   clear hfr
   go_wp2_with fail
   go_ret
   exact ⟨⟨_, rfl, fun h => by omega, fun h => absurd h (unhide HM)⟩, (unhide HF).2⟩
set_option maxRecDepth 100000 in
theorem contains_any (x : Value) (l : List Nat) (k : Nat) (w : World) (hx : Us w x l) (hl : l.length ≤ 140737488355328) :
  Calls Tryz.prog 133 #[x, .int .u32 (k : Nat)] w fun e w' => e = .returned (.bool (decide (k ∈ l))) ∧ Fr (fun _ => False) w w' := by
 have HI := hide (index_any x l k w hx hl)
 obtain ⟨xo, xc, rfl⟩ := hx.form
 clear hx
 go_enter Tryz.func133, Tryz.ntmps133
 go_wp2_with (go_at_call 134; refine (unhide HI).mono ?_; clear HI; rintro e w2 ⟨⟨z, rfl, hz⟩, hf⟩)
 go_ret
 exact ⟨by simp, hf⟩
end Go.Proofs.YtiknjghcjaaenaaGreatDoor
