import Derived.Test.YtkiepcdncegniaaOad
import Derived.BigQuiet
namespace Go.Proofs.Ytkiepcdncegniaa
open Go.RowKit

def F5.cs (f : F5) : Array Value := #[.string f.n, .int .u8 (f.k : Nat), .string f.t, .float .f32 f.v, .int .u8 (f.u : Nat)]
def F5.val (f : F5) : Value := .agg f.cs
set_option maxRecDepth 100000 in
theorem hasQ_any (f : F5) (w : World) :
    Calls Try.prog 59 #[f.val] w fun e w' => e = .returned (.bool (!decide (f.v = 0 ∧ f.u = 0))) ∧ Fr (fun _ => False) w w' := by
  obtain ⟨n, k, t, v, u⟩ := f
  have hfb := Try.fbitsO
  simp only [F5.val, F5.cs]
  by_cases h1 : v = 0
  · by_cases h2 : u = 0
    · subst h1 h2
      go_enter Try.func59, Try.ntmps59
      go_wp2_with fail
      go_ret
      exact ⟨rfl, (Fr.refl _ _).alloc _⟩
    · subst h1
      have h3 : ((u : Int) != 0) = true := by simp; omega
      rw [decide_eq_false (by simp [h2])]
      go_enter Try.func59, Try.ntmps59
      go_wp2_with fail
      go_ret
      exact ⟨rfl, (Fr.refl _ _).alloc _⟩
  · have h3 : ((v : Int) != 0) = true := by simp; omega
    rw [decide_eq_false (by simp [h1])]
    go_enter Try.func59, Try.ntmps59
    go_wp2_with fail
    go_ret
    exact ⟨rfl, (Fr.refl _ _).alloc _⟩
set_option maxRecDepth 100000 in
theorem units_any (w : World) : Calls Try.prog 61 #[] w fun e w' => e = .returned (.int .i64 21) ∧ w' = w := by
  go_enter Try.func61, Try.ntmps61
  go_wp2_with fail
  go_ret
  exact ⟨rfl, rfl⟩
theorem size0 (t : ByteArray) (h : t.size = 0) : t = ⟨#[]⟩ := by
  cases t with
  | mk d => simp [ByteArray.size] at h; subst h; rfl
theorem ba_empty : (ByteArray.mk #[]).size = 0 := rfl
/-- A field in its box. -/
theorem fbox (w W' : World) (f : F5) (ty : TypeId) (hf : Fr (fun _ => False) (w.alloc (.cells f.cs ty)) W') : W'.cell? ⟨w.heap.size, 0, none⟩ = some (.string f.n) ∧ W'.cell? ⟨w.heap.size, 1, none⟩ = some (.int .u8 (f.k : Nat)) ∧ W'.cell? ⟨w.heap.size, 2, none⟩ = some (.string f.t) ∧ W'.cell? ⟨w.heap.size, 3, none⟩ = some (.float .f32 f.v) ∧ W'.cell? ⟨w.heap.size, 4, none⟩ = some (.int .u8 (f.u : Nat)) := by
  have h0 : (w.alloc (.cells f.cs ty)).heap[w.heap.size]? = some (.cells f.cs ty) := Array.getElem?_push_size
  have hb : W'.heap[w.heap.size]? = some (.cells f.cs ty) := by
    rw [hf.block _ (lt_of_block h0) (fun h => h)]
    exact h0
  refine ⟨?_, ?_, ?_, ?_, ?_⟩ <;> (simp only [World.cell?, hb]; rfl)
set_option maxHeartbeats 1000000 in
set_option maxRecDepth 100000 in
theorem isFormed_2a (n : ByteArray) (v u : Nat) (w : World) (hn : n.size ≤ 64) (hv : v < 4294967296) (hc : canB v = true) (hu : 1 ≤ u) (hu2 : u < 256) :
    Calls Try.prog 49 #[(F5.mk n 2 ⟨#[]⟩ v u).val] w fun e w' => e = .returned (.bool (decide (u ≤ 21))) ∧ Fr (fun _ => False) w w' := by
  have a1 : ¬ (64 : Int) < (n.size : Int) := by omega
  have a2 : ¬ (64 : Int) < ((ByteArray.mk #[]).size : Int) := by decide
  have a3 : ¬ (u : Int) < 1 := by omega
  have a4 : IntKind.i64.wrap (u : Int) = (u : Int) := by rw [IntKind.wrap_i64]; omega
  have hcast : decide ((u : Int) ≤ 21) = decide (u ≤ 21) := by rw [decide_eq_decide]; omega
  have HC : Hid (∀ W', Calls Try.prog 60 #[.float .f32 v] W' fun e w' => e = .returned (.bool true) ∧ ∃ q, w' = W'.drewN q) := fun W' => by
    have := isCanon_any v W' hv
    rw [hc] at this
    exact this
  simp only [F5.val, F5.cs] at *
  go_enter Try.func49, Try.ntmps49
  go_wp2_with fail
  go_quiet (first | (go_at_call 60; exact Calls.quiet_of ((unhide HC) _)) | (go_at_call 61; exact Calls.quiet_of_same (units_any _)))
  go_wp2_with fail
  go_ret
  exact ⟨rfl, (box1 w _).drewN _⟩
set_option maxHeartbeats 1000000 in
set_option maxRecDepth 100000 in
theorem isFormed_2b (n : ByteArray) (v : Nat) (w : World) (hn : n.size ≤ 64) (hv : v < 4294967296) (hc : canB v = true) :
    Calls Try.prog 49 #[(F5.mk n 2 ⟨#[]⟩ v 0).val] w fun e w' => e = .returned (.bool false) ∧ Fr (fun _ => False) w w' := by
  have a1 : ¬ (64 : Int) < (n.size : Int) := by omega
  have a2 : ¬ (64 : Int) < ((ByteArray.mk #[]).size : Int) := by decide
  have HC : Hid (∀ W', Calls Try.prog 60 #[.float .f32 v] W' fun e w' => e = .returned (.bool true) ∧ ∃ q, w' = W'.drewN q) := fun W' => by
    have := isCanon_any v W' hv
    rw [hc] at this
    exact this
  simp only [F5.val, F5.cs] at *
  go_enter Try.func49, Try.ntmps49
  go_wp2_with fail
  go_quiet ((go_at_call 60; exact Calls.quiet_of ((unhide HC) _)))
  go_wp2_with fail
  go_ret
  exact ⟨rfl, (box1 w _).drewN _⟩
set_option maxHeartbeats 1000000 in
set_option maxRecDepth 100000 in
theorem isFormed_2c (n : ByteArray) (v u : Nat) (w : World) (hn : n.size ≤ 64) (hv : v < 4294967296) (hc : canB v = false) :
    Calls Try.prog 49 #[(F5.mk n 2 ⟨#[]⟩ v u).val] w fun e w' => e = .returned (.bool false) ∧ Fr (fun _ => False) w w' := by
  have a1 : ¬ (64 : Int) < (n.size : Int) := by omega
  have a2 : ¬ (64 : Int) < ((ByteArray.mk #[]).size : Int) := by decide
  have HC : Hid (∀ W', Calls Try.prog 60 #[.float .f32 v] W' fun e w' => e = .returned (.bool false) ∧ ∃ q, w' = W'.drewN q) := fun W' => by
    have := isCanon_any v W' hv
    rw [hc] at this
    exact this
  simp only [F5.val, F5.cs] at *
  go_enter Try.func49, Try.ntmps49
  go_wp2_with fail
  go_quiet ((go_at_call 60; exact Calls.quiet_of ((unhide HC) _)))
  go_wp2_with fail
  go_ret
  exact ⟨rfl, (box1 w _).drewN _⟩
set_option maxHeartbeats 1000000 in
set_option maxRecDepth 100000 in
theorem isFormed_2d (n t : ByteArray) (v u : Nat) (w : World) (hn : n.size ≤ 64) (ht : t.size ≤ 64) (h0 : t.toList.isEmpty = false) :
    Calls Try.prog 49 #[(F5.mk n 2 t v u).val] w fun e w' => e = .returned (.bool false) ∧ Fr (fun _ => False) w w' := by
  have a1 : ¬ (64 : Int) < (n.size : Int) := by omega
  have a2 : ¬ (64 : Int) < (t.size : Int) := by omega
  simp only [F5.val, F5.cs] at *
  go_enter Try.func49, Try.ntmps49
  go_wp2_with fail
  go_quiet (fail)
  go_wp2_with fail
  go_ret
  exact ⟨rfl, (box1 w _).drewN _⟩
set_option maxHeartbeats 1000000 in
set_option maxRecDepth 100000 in
theorem isFormed_1 (n t : ByteArray) (v u : Nat) (w : World) (hn : n.size ≤ 64) (ht : t.size ≤ 64) :
    Calls Try.prog 49 #[(F5.mk n 1 t v u).val] w fun e w' => e = .returned (.bool (decide (v = 0 ∧ u = 0))) ∧ Fr (fun _ => False) w w' := by
  have a1 : ¬ (64 : Int) < (n.size : Int) := by omega
  have a2 : ¬ (64 : Int) < (t.size : Int) := by omega
  have hq0 := fun W' => hasQ_any (F5.mk n 1 t v u) W'
  simp only [F5.val, F5.cs] at *
  generalize decide (v = 0 ∧ u = 0) = R at *
  have HQ := hide hq0
  have HF := hide (box1 w (.cells (F5.mk n 1 t v u).cs 79))
  simp only [F5.cs] at HF
  clear hq0
  go_enter Try.func49, Try.ntmps49
  go_wp2_with fail
  refine ((unhide HQ) _).mono ?_
  rintro e w2 ⟨rfl, hf2⟩
  have H2 := hide ((unhide HF).trans hf2 (fun _ _ h => h))
  clear hf2 HQ HF
  cases R
  all_goals
    go_wp2_with fail
    go_ret
    exact ⟨rfl, unhide H2⟩
set_option maxHeartbeats 1000000 in
set_option maxRecDepth 100000 in
theorem isFormed_3 (n : ByteArray) (v u : Nat) (w : World) (hn : n.size ≤ 64) :
    Calls Try.prog 49 #[(F5.mk n 3 ⟨#[]⟩ v u).val] w fun e w' => e = .returned (.bool (decide (v = 0 ∧ u = 0))) ∧ Fr (fun _ => False) w w' := by
  have a1 : ¬ (64 : Int) < (n.size : Int) := by omega
  have a2 : ¬ (64 : Int) < ((ByteArray.mk #[]).size : Int) := by decide
  have hq0 := fun W' => hasQ_any (F5.mk n 3 ⟨#[]⟩ v u) W'
  simp only [F5.val, F5.cs] at *
  generalize decide (v = 0 ∧ u = 0) = R at *
  have HQ := hide hq0
  have HF := hide (box1 w (.cells (F5.mk n 3 ⟨#[]⟩ v u).cs 79))
  simp only [F5.cs] at HF
  clear hq0
  go_enter Try.func49, Try.ntmps49
  go_wp2_with fail
  refine ((unhide HQ) _).mono ?_
  rintro e w2 ⟨rfl, hf2⟩
  have H2 := hide ((unhide HF).trans hf2 (fun _ _ h => h))
  clear hf2 HQ HF
  cases R
  all_goals
    go_wp2_with fail
    go_ret
    exact ⟨rfl, unhide H2⟩
set_option maxRecDepth 100000 in
theorem isFormed_3d (n t : ByteArray) (v u : Nat) (w : World) (hn : n.size ≤ 64) (ht : t.size ≤ 64) (h0 : t.toList.isEmpty = false) :
    Calls Try.prog 49 #[(F5.mk n 3 t v u).val] w fun e w' => e = .returned (.bool false) ∧ Fr (fun _ => False) w w' := by
  have a1 : ¬ (64 : Int) < (n.size : Int) := by omega
  have a2 : ¬ (64 : Int) < (t.size : Int) := by omega
  simp only [F5.val, F5.cs] at *
  go_enter Try.func49, Try.ntmps49
  go_wp2_with fail
  go_ret
  exact ⟨rfl, box1 w _⟩
set_option maxRecDepth 100000 in
theorem isFormed_k (n t : ByteArray) (k : Nat) (v u : Nat) (w : World) (hn : n.size ≤ 64) (ht : t.size ≤ 64) (h1 : ¬ k = 1) (h2 : ¬ k = 2) (h3 : ¬ k = 3) :
    Calls Try.prog 49 #[(F5.mk n k t v u).val] w fun e w' => e = .returned (.bool false) ∧ Fr (fun _ => False) w w' := by
  have a1 : ¬ (64 : Int) < (n.size : Int) := by omega
  have a2 : ¬ (64 : Int) < (t.size : Int) := by omega
  have b1 : ((k : Int) == 1) = false := by rw [beq_eq_false_iff_ne]; omega
  have b2 : ((k : Int) == 2) = false := by rw [beq_eq_false_iff_ne]; omega
  have b3 : ((k : Int) == 3) = false := by rw [beq_eq_false_iff_ne]; omega
  simp only [F5.val, F5.cs] at *
  go_enter Try.func49, Try.ntmps49
  go_wp2_with fail
  go_ret
  exact ⟨rfl, box1 w _⟩
set_option maxRecDepth 100000 in
theorem isFormed_n (n t : ByteArray) (k : Nat) (v u : Nat) (w : World) (hn : 64 < n.size) :
    Calls Try.prog 49 #[(F5.mk n k t v u).val] w fun e w' => e = .returned (.bool false) ∧ Fr (fun _ => False) w w' := by
  have a1 : (64 : Int) < (n.size : Int) := by omega
  simp only [F5.val, F5.cs] at *
  go_enter Try.func49, Try.ntmps49
  go_wp2_with fail
  go_ret
  exact ⟨rfl, box1 w _⟩
set_option maxRecDepth 100000 in
theorem isFormed_t (n t : ByteArray) (k : Nat) (v u : Nat) (w : World) (hn : n.size ≤ 64) (ht : 64 < t.size) :
    Calls Try.prog 49 #[(F5.mk n k t v u).val] w fun e w' => e = .returned (.bool false) ∧ Fr (fun _ => False) w w' := by
  have a1 : ¬ (64 : Int) < (n.size : Int) := by omega
  have a2 : (64 : Int) < (t.size : Int) := by omega
  simp only [F5.val, F5.cs] at *
  go_enter Try.func49, Try.ntmps49
  go_wp2_with fail
  go_ret
  exact ⟨rfl, box1 w _⟩
theorem emp (t : ByteArray) : t.toList.isEmpty = decide (t.size = 0) := by
  rw [ByteArray.toList_eq]
  cases t with
  | mk d =>
    cases d with
    | mk l => cases l <;> simp [ByteArray.size]
/-- isFormed. -/
theorem isFormed_any (f : F5) (w : World) (hv : f.v < 4294967296) (hu : f.u < 256) :
    Calls Try.prog 49 #[f.val] w fun e w' => e = .returned (.bool (fldB f)) ∧ Fr (fun _ => False) w w' := by
  obtain ⟨n, k, t, v, u⟩ := f
  simp only at hv hu
  by_cases h1 : n.size ≤ 64
  · by_cases h2 : t.size ≤ 64
    · have e0 : fldB ⟨n, k, t, v, u⟩ = (if k = 1 then decide (v = 0 ∧ u = 0) else if k = 2 then decide (t.size = 0) && canB v && decide (1 ≤ u ∧ u ≤ 21) else if k = 3 then decide (t.size = 0) && decide (v = 0 ∧ u = 0) else false) := by simp only [fldB, decide_eq_true h1, decide_eq_true h2, Bool.true_and]
      rw [e0]
      by_cases k1 : k = 1
      · subst k1
        rw [if_pos rfl]
        exact isFormed_1 n t v u w h1 h2
      · rw [if_neg k1]
        by_cases k2 : k = 2
        · subst k2
          rw [if_pos rfl]
          by_cases h0 : t.size = 0
          · obtain rfl := size0 t h0
            rw [decide_eq_true h0, Bool.true_and]
            cases hc : canB v
            · exact isFormed_2c n v u w h1 hv hc
            · rw [Bool.true_and]
              by_cases hu1 : 1 ≤ u
              · rw [show decide (1 ≤ u ∧ u ≤ 21) = decide (u ≤ 21) from decide_eq_decide.2 ⟨fun h => h.2, fun h => ⟨hu1, h⟩⟩]
                exact isFormed_2a n v u w h1 hv hc hu1 hu
              · obtain rfl : u = 0 := by omega
                exact isFormed_2b n v w h1 hv hc
          · rw [decide_eq_false h0, Bool.false_and, Bool.false_and]
            exact isFormed_2d n t v u w h1 h2 (by rw [emp, decide_eq_false h0])
        · rw [if_neg k2]
          by_cases k3 : k = 3
          · subst k3
            rw [if_pos rfl]
            by_cases h0 : t.size = 0
            · obtain rfl := size0 t h0
              rw [decide_eq_true h0, Bool.true_and]
              exact isFormed_3 n v u w h1
            · rw [decide_eq_false h0, Bool.false_and]
              exact isFormed_3d n t v u w h1 h2 (by rw [emp, decide_eq_false h0])
          · rw [if_neg k3]
            exact isFormed_k n t k v u w h1 h2 k1 k2 k3
    · rw [show fldB ⟨n, k, t, v, u⟩ = false by simp only [fldB, decide_eq_false h2, Bool.and_false, Bool.false_and]]
      exact isFormed_t n t k v u w h1 (by omega)
  · rw [show fldB ⟨n, k, t, v, u⟩ = false by simp only [fldB, decide_eq_false h1, Bool.false_and]]
    exact isFormed_n n t k v u w (by omega)
end Go.Proofs.Ytkiepcdncegniaa
