import Derived.Test.YtficeloegepdkaaPoo
namespace Go.Proofs.Ytficeloegepdkaa
open Go.RowKit

/-- The staff of the examples. -/
def kn : List P3 := [⟨1, 1, 7⟩, ⟨2, 2, 7⟩, ⟨3, 3, 7⟩, ⟨4, 3, 8⟩, ⟨5, 4, 0⟩, ⟨6, 5, 0⟩]
set_option maxHeartbeats 2000000 in
set_option maxRecDepth 100000 in
theorem known_any (w : World) : Calls Try.prog 7 #[] w fun e w' => ∃ ao, e = .returned (.slice ao 6 6) ∧ Stf w' (.slice ao 6 6) kn ∧ Fr (fun _ => False) w w' := by
  go_enter Try.func7, Try.ntmps7
  go_wp2_with fail
  go_ret
  refine ⟨_, rfl, .inr ⟨w.heap.size, 0, 6, rfl, ?_⟩, (Fr.refl _ _).alloc _⟩
  intro j hj
  have hj6 : j < 6 := hj
  simp only [World.cell?_alloc_at _ _ _ _ rfl]
  match j, hj6 with
  | 0, _ => exact ⟨rfl, rfl, rfl⟩
  | 1, _ => exact ⟨rfl, rfl, rfl⟩
  | 2, _ => exact ⟨rfl, rfl, rfl⟩
  | 3, _ => exact ⟨rfl, rfl, rfl⟩
  | 4, _ => exact ⟨rfl, rfl, rfl⟩
  | 5, _ => exact ⟨rfl, rfl, rfl⟩
abbrev SA (b : Nat) (w1 w' : World) : Prop := w'.cell? ⟨b, 0, none⟩ = some (.int .u32 7) ∧ w'.cell? ⟨b, 1, none⟩ = some (.int .u32 6) ∧ w'.cell? ⟨b, 2, none⟩ = some (.bool true) ∧ w'.cell? ⟨b, 3, none⟩ = some (.slice none 0 0) ∧ Fr (fun _ => False) w1 w'
theorem SA.step {b : Nat} {w1 W W' : World} (h : SA b w1 W) (hf : Fr (fun _ => False) W W') : SA b w1 W' := by
  have hl : b < W.heap.size := lt_of_cell h.1
  exact ⟨(hf.cell (p := ⟨b, 0, none⟩) hl (fun h => h)).trans h.1, (hf.cell (p := ⟨b, 1, none⟩) hl (fun h => h)).trans h.2.1, (hf.cell (p := ⟨b, 2, none⟩) hl (fun h => h)).trans h.2.2.1, (hf.cell (p := ⟨b, 3, none⟩) hl (fun h => h)).trans h.2.2.2.1, h.2.2.2.2.trans hf (fun _ _ h => h)⟩
theorem known_S {b : Nat} {w1 W : World} (h : SA b w1 W) : Calls Try.prog 7 #[] W fun e w' => ∃ ao, e = .returned (.slice ao 6 6) ∧ Stf w' (.slice ao 6 6) kn ∧ SA b w1 w' :=
  (known_any W).mono fun _ _ ⟨ao, e, hs, hf⟩ => ⟨ao, e, hs, h.step hf⟩
theorem valid_S {b : Nat} {w1 W : World} {v : Value} (h : SA b w1 W) (hk : Stf W v kn) : Calls Try.prog 19 #[v] W fun e w' => e = .returned (.bool true) ∧ SA b w1 w' :=
  (pvalid_any v kn W hk (by decide)).mono fun _ _ ⟨e, hf⟩ => ⟨e, h.step hf⟩
theorem create_S {b : Nat} {w1 W : World} {v : Value} (h : SA b w1 W) (hk : Stf W v kn) : Calls Try.prog 9 #[v, .int .u32 1, .int .u32 7, .int .u32 3] W fun e w' => e = .returned (.int .u8 1) ∧ SA b w1 w' :=
  (pcreate_any v kn 1 7 3 W hk (by decide)).mono fun _ _ ⟨e, hf⟩ => ⟨e, h.step hf⟩
theorem read_S {b : Nat} {w1 W : World} {v : Value} (h : SA b w1 W) (hk : Stf W v kn) (k c : Nat) (hkc : (k = 2 ∧ c = 6) ∨ (k = 4 ∧ c = 5) ∨ (k = 6 ∧ c = 0)) : Calls Try.prog 10 #[v, .agg #[.int .u32 7, .int .u32 6, .bool true, .slice none 0 0], .int .u32 (k : Nat)] W fun e w' => e = .returned (.int .u8 (c : Nat)) ∧ SA b w1 w' :=
  (pread_any v kn 7 6 true (.slice none 0 0) [] k W hk (by decide) (us_nil W) (by decide)).mono fun _ _ ⟨e, hf⟩ => ⟨by rcases hkc with ⟨rfl, rfl⟩ | ⟨rfl, rfl⟩ | ⟨rfl, rfl⟩ <;> exact e, h.step hf⟩
set_option maxHeartbeats 2000000 in
set_option maxRecDepth 100000 in
theorem awake10 (w : World) : Calls Try.prog 8 #[] w fun e w' => e = .returned (.bool true) ∧ Fr (fun _ => False) w w' := by
  go_enter Try.func8, Try.ntmps8
  go_wp2_with fail
  obtain ⟨w1, hw1⟩ : ∃ w1, w.alloc (.cells #[.int .u32 7, .int .u32 6, .bool true, .slice none 0 0] 29) = w1 := ⟨_, rfl⟩
  have hf1 : Fr (fun _ => False) w w1 := by rw [← hw1]; exact (Fr.refl _ _).alloc _
  have hb1 : w1.heap[w.heap.size]? = some (.cells #[.int .u32 7, .int .u32 6, .bool true, .slice none 0 0] 29) := by rw [← hw1]; exact Array.getElem?_push_size
  have hS : SA w.heap.size w1 w1 := ⟨by simp only [World.cell?, hb1]; rfl, by simp only [World.cell?, hb1]; rfl, by simp only [World.cell?, hb1]; rfl, by simp only [World.cell?, hb1]; rfl, Fr.refl _ _⟩
  have HF1 := hide hf1
  rw [hw1]
  clear hw1 hf1 hb1
  have T1 : True := trivial
  have T2 : True := trivial
  go_region_held3 (fun w' => w'.cell? ⟨w.heap.size, 0, none⟩ = some (.int .u32 7) ∧ w'.cell? ⟨w.heap.size, 1, none⟩ = some (.int .u32 6) ∧ w'.cell? ⟨w.heap.size, 2, none⟩ = some (.bool true) ∧ w'.cell? ⟨w.heap.size, 3, none⟩ = some (.slice none 0 0) ∧ Fr (fun _ => False) w1 w')
    (first | assumption | exact ⟨hS.1, hS.2.1, hS.2.2.1, hS.2.2.2.1, hS.2.2.2.2.drew⟩)
    (first
      | (go_at_call 7; refine (known_S (b := w.heap.size) (w1 := w1) (by assumption)).mono ?_; rintro e w' ⟨ao, rfl, hK, hS⟩)
      | (go_at_call 19; refine (valid_S (b := w.heap.size) (w1 := w1) (by assumption) hK).mono ?_; rintro e w' ⟨rfl, hS⟩)
      | (go_at_call 9; refine (create_S (b := w.heap.size) (w1 := w1) (by assumption) hK).mono ?_; rintro e w' ⟨rfl, hS⟩)
      | (go_at_call 10; clear T1; refine (read_S (b := w.heap.size) (w1 := w1) (by assumption) hK 2 6 (.inl ⟨rfl, rfl⟩)).mono ?_; rintro e w' ⟨rfl, hS⟩)
      | (go_at_call 10; clear T2; refine (read_S (b := w.heap.size) (w1 := w1) (by assumption) hK 4 5 (.inr (.inl ⟨rfl, rfl⟩))).mono ?_; rintro e w' ⟨rfl, hS⟩)
      | (go_at_call 10; refine (read_S (b := w.heap.size) (w1 := w1) (by assumption) hK 6 0 (.inr (.inr ⟨rfl, rfl⟩))).mono ?_; rintro e w' ⟨rfl, hS⟩))
  have HE := hide hS.2.2.2.2
  clear hS
  go_wp2_with fail
  go_ret
  exact ⟨rfl, (unhide HF1).trans (unhide HE) (fun _ _ h => h)⟩
end Go.Proofs.Ytficeloegepdkaa
