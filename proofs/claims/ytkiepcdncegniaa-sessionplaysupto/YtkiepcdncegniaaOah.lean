import Derived.Test.YtkiepcdncegniaaOag
namespace Go.Proofs.Ytkiepcdncegniaa
open Go.RowKit

/-- A request in its box. -/
theorem rbox (w W' : World) (r : RQ) (ty : TypeId) (cs : Array Value) (_hcs : r.v = .agg cs) (hf : Fr (fun _ => False) (w.alloc (.cells cs ty)) W') : W'.heap[w.heap.size]? = some (.cells cs ty) := by
  have h0 : (w.alloc (.cells cs ty)).heap[w.heap.size]? = some (.cells cs ty) := Array.getElem?_push_size
  rw [hf.block _ (lt_of_block h0) (fun h => h)]
  exact h0
set_option maxHeartbeats 2000000 in
set_option maxRecDepth 100000 in
theorem formed_1 (cl nu ac rc ve wa ow : Nat) (rs : ByteArray) (xo : Option Addr) (n xc : Nat) (l : List F5) (w : World) (hx : Fds w (.slice xo n xc) l) (hl : l.length ≤ 140737488355328) (hv : ∀ f ∈ l, f.v < 4294967296 ∧ f.u < 256) :
    Calls Try.prog 20 #[(RQ.mk cl nu ac 1 rc ve wa ow (.slice xo n xc) rs).v] w fun e w' => e = .returned (.bool ((RQ.mk cl nu ac 1 rc ve 0 0 (.slice none 0 0) rs).emp 0 && (decide (rs.size ≤ 64) && fdsB l false))) ∧ Fr (fun _ => False) w w' := by
  have HU := hide (fun W' => unused_1 cl nu ac rc ve wa ow rs xo n xc W')
  have HE := hide (fun W' => isEmpty_any cl nu ac 1 rc ve 0 0 rs none 0 0 W')
  have HA : Hid (∀ W', Fr (fun _ => False) w W' → Calls Try.prog 36 #[.slice xo n xc, .bool false] W' fun e w' => e = .returned (.bool (fdsB l false)) ∧ Fr (fun _ => False) W' w') := fun W' hf => areFormed_any _ l false W' (hx.fr hf) hl hv
  have HB : Hid (∀ W', Fr (fun _ => False) (w.alloc (.cells #[.int .u32 (cl : Nat), .int .u32 (nu : Nat), .int .u32 (ac : Nat), .int .u8 1, .int .u32 (rc : Nat), .int .u32 (ve : Nat), .int .u32 (wa : Nat), .int .u32 (ow : Nat), .slice xo n xc, .string rs] 34)) W' → W'.cell? ⟨w.heap.size, 3, none⟩ = some (.int .u8 1) ∧ W'.cell? ⟨w.heap.size, 5, none⟩ = some (.int .u32 (ve : Nat)) ∧ W'.cell? ⟨w.heap.size, 8, none⟩ = some (.slice xo n xc) ∧ W'.cell? ⟨w.heap.size, 9, none⟩ = some (.string rs)) := fun W' hf => by
    have hb := rbox w W' (RQ.mk cl nu ac 1 rc ve wa ow (.slice xo n xc) rs) 34 _ rfl hf
    refine ⟨?_, ?_, ?_, ?_⟩ <;> (simp only [World.cell?, hb]; rfl)
  generalize (RQ.mk cl nu ac 1 rc ve 0 0 (.slice none 0 0) rs).emp 0 = E at *
  generalize fdsB l false = A at *
  simp only [RQ.v] at *
  clear hx hl hv
  go_enter Try.func20, Try.ntmps20
  go_wp2_with fail
  refine ((unhide HU) _).mono ?_
  rintro e w2 ⟨rfl, hf2⟩
  have H2 := hide hf2
  clear hf2
  go_wp2_with fail
  refine ((unhide HE) _).mono ?_
  rintro e w3 ⟨rfl, hf3⟩
  obtain ⟨b3, b5, b8, b9⟩ := (unhide HB) w3 ((unhide H2).trans hf3 (fun _ _ h => h))
  have H3 := hide ((box1 w (.cells #[.int .u32 (cl : Nat), .int .u32 (nu : Nat), .int .u32 (ac : Nat), .int .u8 1, .int .u32 (rc : Nat), .int .u32 (ve : Nat), .int .u32 (wa : Nat), .int .u32 (ow : Nat), .slice xo n xc, .string rs] 34)).trans ((unhide H2).trans hf3 (fun _ _ h => h)) (fun _ _ h => h))
  clear hf3 H2 HU HE HB
  cases E
  · go_wp2_with fail
    go_ret
    exact ⟨rfl, unhide H3⟩
  · skip
    rcases Nat.lt_or_ge 64 rs.size with h64 | h64
    · have q64 : ¬ (rs.size : Int) ≤ 64 := by omega
      have d64 : decide ((rs.size : Int) ≤ 64) = false := decide_eq_false q64
      go_wp2_with fail
      go_ret
      exact ⟨by rw [decide_eq_false (show ¬ rs.size ≤ 64 by omega)]; rfl, unhide H3⟩
    · have q64 : (rs.size : Int) ≤ 64 := by omega
      go_wp2_with fail
      refine ((unhide HA) _ (unhide H3)).mono ?_
      rintro e w4 ⟨rfl, hf4⟩
      have H4 := hide ((unhide H3).trans hf4 (fun _ _ h => h))
      clear hf4
      go_wp2_with fail
      go_ret
      exact ⟨by rw [decide_eq_true (show rs.size ≤ 64 by omega)]; rfl, unhide H4⟩
set_option maxHeartbeats 2000000 in
set_option maxRecDepth 100000 in
theorem formed_2 (cl nu ac rc ve wa ow : Nat) (rs : ByteArray) (xo : Option Addr) (n xc : Nat) (l : List F5) (w : World) (hx : Fds w (.slice xo n xc) l) (hl : l.length ≤ 140737488355328) (hv : ∀ f ∈ l, f.v < 4294967296 ∧ f.u < 256) :
    Calls Try.prog 20 #[(RQ.mk cl nu ac 2 rc ve wa ow (.slice xo n xc) rs).v] w fun e w' => e = .returned (.bool ((RQ.mk cl nu ac 2 0 0 wa ow (.slice none 0 0) rs).emp 0 && (decide (rs.size ≤ 64) && fdsB l true))) ∧ Fr (fun _ => False) w w' := by
  have HU := hide (fun W' => unused_2 cl nu ac rc ve wa ow rs xo n xc W')
  have HE := hide (fun W' => isEmpty_any cl nu ac 2 0 0 wa ow rs none 0 0 W')
  have HA : Hid (∀ W', Fr (fun _ => False) w W' → Calls Try.prog 36 #[.slice xo n xc, .bool true] W' fun e w' => e = .returned (.bool (fdsB l true)) ∧ Fr (fun _ => False) W' w') := fun W' hf => areFormed_any _ l true W' (hx.fr hf) hl hv
  have HB : Hid (∀ W', Fr (fun _ => False) (w.alloc (.cells #[.int .u32 (cl : Nat), .int .u32 (nu : Nat), .int .u32 (ac : Nat), .int .u8 2, .int .u32 (rc : Nat), .int .u32 (ve : Nat), .int .u32 (wa : Nat), .int .u32 (ow : Nat), .slice xo n xc, .string rs] 34)) W' → W'.cell? ⟨w.heap.size, 3, none⟩ = some (.int .u8 2) ∧ W'.cell? ⟨w.heap.size, 5, none⟩ = some (.int .u32 (ve : Nat)) ∧ W'.cell? ⟨w.heap.size, 8, none⟩ = some (.slice xo n xc) ∧ W'.cell? ⟨w.heap.size, 9, none⟩ = some (.string rs)) := fun W' hf => by
    have hb := rbox w W' (RQ.mk cl nu ac 2 rc ve wa ow (.slice xo n xc) rs) 34 _ rfl hf
    refine ⟨?_, ?_, ?_, ?_⟩ <;> (simp only [World.cell?, hb]; rfl)
  generalize (RQ.mk cl nu ac 2 0 0 wa ow (.slice none 0 0) rs).emp 0 = E at *
  generalize fdsB l true = A at *
  simp only [RQ.v] at *
  clear hx hl hv
  go_enter Try.func20, Try.ntmps20
  go_wp2_with fail
  refine ((unhide HU) _).mono ?_
  rintro e w2 ⟨rfl, hf2⟩
  have H2 := hide hf2
  clear hf2
  go_wp2_with fail
  refine ((unhide HE) _).mono ?_
  rintro e w3 ⟨rfl, hf3⟩
  obtain ⟨b3, b5, b8, b9⟩ := (unhide HB) w3 ((unhide H2).trans hf3 (fun _ _ h => h))
  have H3 := hide ((box1 w (.cells #[.int .u32 (cl : Nat), .int .u32 (nu : Nat), .int .u32 (ac : Nat), .int .u8 2, .int .u32 (rc : Nat), .int .u32 (ve : Nat), .int .u32 (wa : Nat), .int .u32 (ow : Nat), .slice xo n xc, .string rs] 34)).trans ((unhide H2).trans hf3 (fun _ _ h => h)) (fun _ _ h => h))
  clear hf3 H2 HU HE HB
  cases E
  · go_wp2_with fail
    go_ret
    exact ⟨rfl, unhide H3⟩
  · skip
    rcases Nat.lt_or_ge 64 rs.size with h64 | h64
    · have q64 : ¬ (rs.size : Int) ≤ 64 := by omega
      have d64 : decide ((rs.size : Int) ≤ 64) = false := decide_eq_false q64
      go_wp2_with fail
      go_ret
      exact ⟨by rw [decide_eq_false (show ¬ rs.size ≤ 64 by omega)]; rfl, unhide H3⟩
    · have q64 : (rs.size : Int) ≤ 64 := by omega
      go_wp2_with fail
      refine ((unhide HA) _ (unhide H3)).mono ?_
      rintro e w4 ⟨rfl, hf4⟩
      have H4 := hide ((unhide H3).trans hf4 (fun _ _ h => h))
      clear hf4
      go_wp2_with fail
      go_ret
      exact ⟨by rw [decide_eq_true (show rs.size ≤ 64 by omega)]; rfl, unhide H4⟩
set_option maxHeartbeats 2000000 in
set_option maxRecDepth 100000 in
theorem formed_3 (cl nu ac rc ve wa ow : Nat) (rs : ByteArray) (xo : Option Addr) (n xc : Nat) (l : List F5) (w : World) (hx : Fds w (.slice xo n xc) l) (hl : l.length ≤ 140737488355328) (hv : ∀ f ∈ l, f.v < 4294967296 ∧ f.u < 256) :
    Calls Try.prog 20 #[(RQ.mk cl nu ac 3 rc ve wa ow (.slice xo n xc) rs).v] w fun e w' => e = .returned (.bool ((RQ.mk cl nu ac 3 0 0 wa ow (.slice xo n xc) rs).emp n && (decide (rs.size ≤ 64) && fdsB l false))) ∧ Fr (fun _ => False) w w' := by
  have HU := hide (fun W' => unused_3 cl nu ac rc ve wa ow rs xo n xc W')
  have HE := hide (fun W' => isEmpty_any cl nu ac 3 0 0 wa ow rs xo n xc W')
  have HA : Hid (∀ W', Fr (fun _ => False) w W' → Calls Try.prog 36 #[.slice xo n xc, .bool false] W' fun e w' => e = .returned (.bool (fdsB l false)) ∧ Fr (fun _ => False) W' w') := fun W' hf => areFormed_any _ l false W' (hx.fr hf) hl hv
  have HB : Hid (∀ W', Fr (fun _ => False) (w.alloc (.cells #[.int .u32 (cl : Nat), .int .u32 (nu : Nat), .int .u32 (ac : Nat), .int .u8 3, .int .u32 (rc : Nat), .int .u32 (ve : Nat), .int .u32 (wa : Nat), .int .u32 (ow : Nat), .slice xo n xc, .string rs] 34)) W' → W'.cell? ⟨w.heap.size, 3, none⟩ = some (.int .u8 3) ∧ W'.cell? ⟨w.heap.size, 5, none⟩ = some (.int .u32 (ve : Nat)) ∧ W'.cell? ⟨w.heap.size, 8, none⟩ = some (.slice xo n xc) ∧ W'.cell? ⟨w.heap.size, 9, none⟩ = some (.string rs)) := fun W' hf => by
    have hb := rbox w W' (RQ.mk cl nu ac 3 rc ve wa ow (.slice xo n xc) rs) 34 _ rfl hf
    refine ⟨?_, ?_, ?_, ?_⟩ <;> (simp only [World.cell?, hb]; rfl)
  generalize (RQ.mk cl nu ac 3 0 0 wa ow (.slice xo n xc) rs).emp n = E at *
  generalize fdsB l false = A at *
  simp only [RQ.v] at *
  clear hx hl hv
  go_enter Try.func20, Try.ntmps20
  go_wp2_with fail
  refine ((unhide HU) _).mono ?_
  rintro e w2 ⟨rfl, hf2⟩
  have H2 := hide hf2
  clear hf2
  go_wp2_with fail
  refine ((unhide HE) _).mono ?_
  rintro e w3 ⟨rfl, hf3⟩
  obtain ⟨b3, b5, b8, b9⟩ := (unhide HB) w3 ((unhide H2).trans hf3 (fun _ _ h => h))
  have H3 := hide ((box1 w (.cells #[.int .u32 (cl : Nat), .int .u32 (nu : Nat), .int .u32 (ac : Nat), .int .u8 3, .int .u32 (rc : Nat), .int .u32 (ve : Nat), .int .u32 (wa : Nat), .int .u32 (ow : Nat), .slice xo n xc, .string rs] 34)).trans ((unhide H2).trans hf3 (fun _ _ h => h)) (fun _ _ h => h))
  clear hf3 H2 HU HE HB
  cases E
  · go_wp2_with fail
    go_ret
    exact ⟨rfl, unhide H3⟩
  · skip
    rcases Nat.lt_or_ge 64 rs.size with h64 | h64
    · have q64 : ¬ (rs.size : Int) ≤ 64 := by omega
      have d64 : decide ((rs.size : Int) ≤ 64) = false := decide_eq_false q64
      go_wp2_with fail
      go_ret
      exact ⟨by rw [decide_eq_false (show ¬ rs.size ≤ 64 by omega)]; rfl, unhide H3⟩
    · have q64 : (rs.size : Int) ≤ 64 := by omega
      go_wp2_with fail
      refine ((unhide HA) _ (unhide H3)).mono ?_
      rintro e w4 ⟨rfl, hf4⟩
      have H4 := hide ((unhide H3).trans hf4 (fun _ _ h => h))
      clear hf4
      go_wp2_with fail
      go_ret
      exact ⟨by rw [decide_eq_true (show rs.size ≤ 64 by omega)]; rfl, unhide H4⟩
set_option maxHeartbeats 2000000 in
set_option maxRecDepth 100000 in
theorem formed_4 (cl nu ac rc ve wa ow : Nat) (rs : ByteArray) (xo : Option Addr) (n xc : Nat) (l : List F5) (w : World) (hx : Fds w (.slice xo n xc) l) (hl : l.length ≤ 140737488355328) (hv : ∀ f ∈ l, f.v < 4294967296 ∧ f.u < 256) :
    Calls Try.prog 20 #[(RQ.mk cl nu ac 4 rc ve wa ow (.slice xo n xc) rs).v] w fun e w' => e = .returned (.bool ((RQ.mk cl nu ac 4 0 0 wa ow (.slice xo n xc) rs).emp n && (decide (rs.size ≤ 64) && fdsB l false))) ∧ Fr (fun _ => False) w w' := by
  have HU := hide (fun W' => unused_4 cl nu ac rc ve wa ow rs xo n xc W')
  have HE := hide (fun W' => isEmpty_any cl nu ac 4 0 0 wa ow rs xo n xc W')
  have HA : Hid (∀ W', Fr (fun _ => False) w W' → Calls Try.prog 36 #[.slice xo n xc, .bool false] W' fun e w' => e = .returned (.bool (fdsB l false)) ∧ Fr (fun _ => False) W' w') := fun W' hf => areFormed_any _ l false W' (hx.fr hf) hl hv
  have HB : Hid (∀ W', Fr (fun _ => False) (w.alloc (.cells #[.int .u32 (cl : Nat), .int .u32 (nu : Nat), .int .u32 (ac : Nat), .int .u8 4, .int .u32 (rc : Nat), .int .u32 (ve : Nat), .int .u32 (wa : Nat), .int .u32 (ow : Nat), .slice xo n xc, .string rs] 34)) W' → W'.cell? ⟨w.heap.size, 3, none⟩ = some (.int .u8 4) ∧ W'.cell? ⟨w.heap.size, 5, none⟩ = some (.int .u32 (ve : Nat)) ∧ W'.cell? ⟨w.heap.size, 8, none⟩ = some (.slice xo n xc) ∧ W'.cell? ⟨w.heap.size, 9, none⟩ = some (.string rs)) := fun W' hf => by
    have hb := rbox w W' (RQ.mk cl nu ac 4 rc ve wa ow (.slice xo n xc) rs) 34 _ rfl hf
    refine ⟨?_, ?_, ?_, ?_⟩ <;> (simp only [World.cell?, hb]; rfl)
  generalize (RQ.mk cl nu ac 4 0 0 wa ow (.slice xo n xc) rs).emp n = E at *
  generalize fdsB l false = A at *
  simp only [RQ.v] at *
  clear hx hl hv
  go_enter Try.func20, Try.ntmps20
  go_wp2_with fail
  refine ((unhide HU) _).mono ?_
  rintro e w2 ⟨rfl, hf2⟩
  have H2 := hide hf2
  clear hf2
  go_wp2_with fail
  refine ((unhide HE) _).mono ?_
  rintro e w3 ⟨rfl, hf3⟩
  obtain ⟨b3, b5, b8, b9⟩ := (unhide HB) w3 ((unhide H2).trans hf3 (fun _ _ h => h))
  have H3 := hide ((box1 w (.cells #[.int .u32 (cl : Nat), .int .u32 (nu : Nat), .int .u32 (ac : Nat), .int .u8 4, .int .u32 (rc : Nat), .int .u32 (ve : Nat), .int .u32 (wa : Nat), .int .u32 (ow : Nat), .slice xo n xc, .string rs] 34)).trans ((unhide H2).trans hf3 (fun _ _ h => h)) (fun _ _ h => h))
  clear hf3 H2 HU HE HB
  cases E
  · go_wp2_with fail
    go_ret
    exact ⟨rfl, unhide H3⟩
  · skip
    rcases Nat.lt_or_ge 64 rs.size with h64 | h64
    · have q64 : ¬ (rs.size : Int) ≤ 64 := by omega
      have d64 : decide ((rs.size : Int) ≤ 64) = false := decide_eq_false q64
      go_wp2_with fail
      go_ret
      exact ⟨by rw [decide_eq_false (show ¬ rs.size ≤ 64 by omega)]; rfl, unhide H3⟩
    · have q64 : (rs.size : Int) ≤ 64 := by omega
      go_wp2_with fail
      refine ((unhide HA) _ (unhide H3)).mono ?_
      rintro e w4 ⟨rfl, hf4⟩
      have H4 := hide ((unhide H3).trans hf4 (fun _ _ h => h))
      clear hf4
      go_wp2_with fail
      go_ret
      exact ⟨by rw [decide_eq_true (show rs.size ≤ 64 by omega)]; rfl, unhide H4⟩
set_option maxHeartbeats 2000000 in
set_option maxRecDepth 100000 in
theorem formed_5 (cl nu ac rc ve wa ow : Nat) (rs : ByteArray) (xo : Option Addr) (n xc : Nat) (l : List F5) (w : World) (hx : Fds w (.slice xo n xc) l) (hl : l.length ≤ 140737488355328) (hv : ∀ f ∈ l, f.v < 4294967296 ∧ f.u < 256) :
    Calls Try.prog 20 #[(RQ.mk cl nu ac 5 rc ve wa ow (.slice xo n xc) rs).v] w fun e w' => e = .returned (.bool ((RQ.mk cl nu ac 5 0 ve wa ow (.slice xo n xc) rs).emp n && (decide (rs.size ≤ 64) && fdsB l false))) ∧ Fr (fun _ => False) w w' := by
  have HU := hide (fun W' => unused_5 cl nu ac rc ve wa ow rs xo n xc W')
  have HE := hide (fun W' => isEmpty_any cl nu ac 5 0 ve wa ow rs xo n xc W')
  have HA : Hid (∀ W', Fr (fun _ => False) w W' → Calls Try.prog 36 #[.slice xo n xc, .bool false] W' fun e w' => e = .returned (.bool (fdsB l false)) ∧ Fr (fun _ => False) W' w') := fun W' hf => areFormed_any _ l false W' (hx.fr hf) hl hv
  have HB : Hid (∀ W', Fr (fun _ => False) (w.alloc (.cells #[.int .u32 (cl : Nat), .int .u32 (nu : Nat), .int .u32 (ac : Nat), .int .u8 5, .int .u32 (rc : Nat), .int .u32 (ve : Nat), .int .u32 (wa : Nat), .int .u32 (ow : Nat), .slice xo n xc, .string rs] 34)) W' → W'.cell? ⟨w.heap.size, 3, none⟩ = some (.int .u8 5) ∧ W'.cell? ⟨w.heap.size, 5, none⟩ = some (.int .u32 (ve : Nat)) ∧ W'.cell? ⟨w.heap.size, 8, none⟩ = some (.slice xo n xc) ∧ W'.cell? ⟨w.heap.size, 9, none⟩ = some (.string rs)) := fun W' hf => by
    have hb := rbox w W' (RQ.mk cl nu ac 5 rc ve wa ow (.slice xo n xc) rs) 34 _ rfl hf
    refine ⟨?_, ?_, ?_, ?_⟩ <;> (simp only [World.cell?, hb]; rfl)
  generalize (RQ.mk cl nu ac 5 0 ve wa ow (.slice xo n xc) rs).emp n = E at *
  generalize fdsB l false = A at *
  simp only [RQ.v] at *
  clear hx hl hv
  go_enter Try.func20, Try.ntmps20
  go_wp2_with fail
  refine ((unhide HU) _).mono ?_
  rintro e w2 ⟨rfl, hf2⟩
  have H2 := hide hf2
  clear hf2
  go_wp2_with fail
  refine ((unhide HE) _).mono ?_
  rintro e w3 ⟨rfl, hf3⟩
  obtain ⟨b3, b5, b8, b9⟩ := (unhide HB) w3 ((unhide H2).trans hf3 (fun _ _ h => h))
  have H3 := hide ((box1 w (.cells #[.int .u32 (cl : Nat), .int .u32 (nu : Nat), .int .u32 (ac : Nat), .int .u8 5, .int .u32 (rc : Nat), .int .u32 (ve : Nat), .int .u32 (wa : Nat), .int .u32 (ow : Nat), .slice xo n xc, .string rs] 34)).trans ((unhide H2).trans hf3 (fun _ _ h => h)) (fun _ _ h => h))
  clear hf3 H2 HU HE HB
  cases E
  · go_wp2_with fail
    go_ret
    exact ⟨rfl, unhide H3⟩
  · skip
    rcases Nat.lt_or_ge 64 rs.size with h64 | h64
    · have q64 : ¬ (rs.size : Int) ≤ 64 := by omega
      have d64 : decide ((rs.size : Int) ≤ 64) = false := decide_eq_false q64
      go_wp2_with fail
      go_ret
      exact ⟨by rw [decide_eq_false (show ¬ rs.size ≤ 64 by omega)]; rfl, unhide H3⟩
    · have q64 : (rs.size : Int) ≤ 64 := by omega
      go_wp2_with fail
      refine ((unhide HA) _ (unhide H3)).mono ?_
      rintro e w4 ⟨rfl, hf4⟩
      have H4 := hide ((unhide H3).trans hf4 (fun _ _ h => h))
      clear hf4
      go_wp2_with fail
      go_ret
      exact ⟨by rw [decide_eq_true (show rs.size ≤ 64 by omega)]; rfl, unhide H4⟩
set_option maxHeartbeats 2000000 in
set_option maxRecDepth 100000 in
theorem formed_6 (cl nu ac rc ve wa ow : Nat) (rs : ByteArray) (xo : Option Addr) (n xc : Nat) (l : List F5) (w : World) (hx : Fds w (.slice xo n xc) l) (hl : l.length ≤ 140737488355328) (hv : ∀ f ∈ l, f.v < 4294967296 ∧ f.u < 256) :
    Calls Try.prog 20 #[(RQ.mk cl nu ac 6 rc ve wa ow (.slice xo n xc) rs).v] w fun e w' => e = .returned (.bool ((RQ.mk cl nu ac 6 0 0 wa ow (.slice xo n xc) rs).emp n && (decide (ve ≤ 1) && decide (rs.size ≤ 64) && fdsB l false))) ∧ Fr (fun _ => False) w w' := by
  have HU := hide (fun W' => unused_6 cl nu ac rc ve wa ow rs xo n xc W')
  have HE := hide (fun W' => isEmpty_any cl nu ac 6 0 0 wa ow rs xo n xc W')
  have HA : Hid (∀ W', Fr (fun _ => False) w W' → Calls Try.prog 36 #[.slice xo n xc, .bool false] W' fun e w' => e = .returned (.bool (fdsB l false)) ∧ Fr (fun _ => False) W' w') := fun W' hf => areFormed_any _ l false W' (hx.fr hf) hl hv
  have HB : Hid (∀ W', Fr (fun _ => False) (w.alloc (.cells #[.int .u32 (cl : Nat), .int .u32 (nu : Nat), .int .u32 (ac : Nat), .int .u8 6, .int .u32 (rc : Nat), .int .u32 (ve : Nat), .int .u32 (wa : Nat), .int .u32 (ow : Nat), .slice xo n xc, .string rs] 34)) W' → W'.cell? ⟨w.heap.size, 3, none⟩ = some (.int .u8 6) ∧ W'.cell? ⟨w.heap.size, 5, none⟩ = some (.int .u32 (ve : Nat)) ∧ W'.cell? ⟨w.heap.size, 8, none⟩ = some (.slice xo n xc) ∧ W'.cell? ⟨w.heap.size, 9, none⟩ = some (.string rs)) := fun W' hf => by
    have hb := rbox w W' (RQ.mk cl nu ac 6 rc ve wa ow (.slice xo n xc) rs) 34 _ rfl hf
    refine ⟨?_, ?_, ?_, ?_⟩ <;> (simp only [World.cell?, hb]; rfl)
  generalize (RQ.mk cl nu ac 6 0 0 wa ow (.slice xo n xc) rs).emp n = E at *
  generalize fdsB l false = A at *
  simp only [RQ.v] at *
  clear hx hl hv
  go_enter Try.func20, Try.ntmps20
  go_wp2_with fail
  refine ((unhide HU) _).mono ?_
  rintro e w2 ⟨rfl, hf2⟩
  have H2 := hide hf2
  clear hf2
  go_wp2_with fail
  refine ((unhide HE) _).mono ?_
  rintro e w3 ⟨rfl, hf3⟩
  obtain ⟨b3, b5, b8, b9⟩ := (unhide HB) w3 ((unhide H2).trans hf3 (fun _ _ h => h))
  have H3 := hide ((box1 w (.cells #[.int .u32 (cl : Nat), .int .u32 (nu : Nat), .int .u32 (ac : Nat), .int .u8 6, .int .u32 (rc : Nat), .int .u32 (ve : Nat), .int .u32 (wa : Nat), .int .u32 (ow : Nat), .slice xo n xc, .string rs] 34)).trans ((unhide H2).trans hf3 (fun _ _ h => h)) (fun _ _ h => h))
  clear hf3 H2 HU HE HB
  cases E
  · go_wp2_with fail
    go_ret
    exact ⟨rfl, unhide H3⟩
  · rcases Nat.lt_or_ge 1 ve with hve | hve
    · have qv : (1 : Int) < (ve : Int) := by omega
      have dv : decide (ve ≤ 1) = false := decide_eq_false (by omega)
      go_wp2_with fail
      go_ret
      exact ⟨by rw [dv]; rfl, unhide H3⟩
    · have qv : ¬ (1 : Int) < (ve : Int) := by omega
      have dvv : decide ((1 : Int) < (ve : Int)) = false := decide_eq_false qv
      rcases Nat.lt_or_ge 64 rs.size with h64 | h64
      · have q64 : ¬ (rs.size : Int) ≤ 64 := by omega
        have d64 : decide ((rs.size : Int) ≤ 64) = false := decide_eq_false q64
        go_wp2_with fail
        go_ret
        exact ⟨by rw [decide_eq_true hve, decide_eq_false (show ¬ rs.size ≤ 64 by omega)]; rfl, unhide H3⟩
      · have q64 : (rs.size : Int) ≤ 64 := by omega
        go_wp2_with fail
        refine ((unhide HA) _ (unhide H3)).mono ?_
        rintro e w4 ⟨rfl, hf4⟩
        have H4 := hide ((unhide H3).trans hf4 (fun _ _ h => h))
        clear hf4
        go_wp2_with fail
        go_ret
        exact ⟨by rw [decide_eq_true hve, decide_eq_true (show rs.size ≤ 64 by omega)]; rfl, unhide H4⟩
set_option maxHeartbeats 2000000 in
set_option maxRecDepth 100000 in
theorem formed_7 (cl nu ac rc ve wa ow : Nat) (rs : ByteArray) (xo : Option Addr) (n xc : Nat) (l : List F5) (w : World) (hx : Fds w (.slice xo n xc) l) (hl : l.length ≤ 140737488355328) (hv : ∀ f ∈ l, f.v < 4294967296 ∧ f.u < 256) :
    Calls Try.prog 20 #[(RQ.mk cl nu ac 7 rc ve wa ow (.slice xo n xc) rs).v] w fun e w' => e = .returned (.bool ((RQ.mk cl nu ac 7 0 ve wa ow (.slice xo n xc) ⟨#[]⟩).emp n && (decide (rs.size ≤ 64) && fdsB l false))) ∧ Fr (fun _ => False) w w' := by
  have HU := hide (fun W' => unused_7 cl nu ac rc ve wa ow rs xo n xc W')
  have HE := hide (fun W' => isEmpty_any cl nu ac 7 0 ve wa ow ⟨#[]⟩ xo n xc W')
  have HA : Hid (∀ W', Fr (fun _ => False) w W' → Calls Try.prog 36 #[.slice xo n xc, .bool false] W' fun e w' => e = .returned (.bool (fdsB l false)) ∧ Fr (fun _ => False) W' w') := fun W' hf => areFormed_any _ l false W' (hx.fr hf) hl hv
  have HB : Hid (∀ W', Fr (fun _ => False) (w.alloc (.cells #[.int .u32 (cl : Nat), .int .u32 (nu : Nat), .int .u32 (ac : Nat), .int .u8 7, .int .u32 (rc : Nat), .int .u32 (ve : Nat), .int .u32 (wa : Nat), .int .u32 (ow : Nat), .slice xo n xc, .string rs] 34)) W' → W'.cell? ⟨w.heap.size, 3, none⟩ = some (.int .u8 7) ∧ W'.cell? ⟨w.heap.size, 5, none⟩ = some (.int .u32 (ve : Nat)) ∧ W'.cell? ⟨w.heap.size, 8, none⟩ = some (.slice xo n xc) ∧ W'.cell? ⟨w.heap.size, 9, none⟩ = some (.string rs)) := fun W' hf => by
    have hb := rbox w W' (RQ.mk cl nu ac 7 rc ve wa ow (.slice xo n xc) rs) 34 _ rfl hf
    refine ⟨?_, ?_, ?_, ?_⟩ <;> (simp only [World.cell?, hb]; rfl)
  generalize (RQ.mk cl nu ac 7 0 ve wa ow (.slice xo n xc) ⟨#[]⟩).emp n = E at *
  generalize fdsB l false = A at *
  simp only [RQ.v] at *
  clear hx hl hv
  go_enter Try.func20, Try.ntmps20
  go_wp2_with fail
  refine ((unhide HU) _).mono ?_
  rintro e w2 ⟨rfl, hf2⟩
  have H2 := hide hf2
  clear hf2
  go_wp2_with fail
  refine ((unhide HE) _).mono ?_
  rintro e w3 ⟨rfl, hf3⟩
  obtain ⟨b3, b5, b8, b9⟩ := (unhide HB) w3 ((unhide H2).trans hf3 (fun _ _ h => h))
  have H3 := hide ((box1 w (.cells #[.int .u32 (cl : Nat), .int .u32 (nu : Nat), .int .u32 (ac : Nat), .int .u8 7, .int .u32 (rc : Nat), .int .u32 (ve : Nat), .int .u32 (wa : Nat), .int .u32 (ow : Nat), .slice xo n xc, .string rs] 34)).trans ((unhide H2).trans hf3 (fun _ _ h => h)) (fun _ _ h => h))
  clear hf3 H2 HU HE HB
  cases E
  · go_wp2_with fail
    go_ret
    exact ⟨rfl, unhide H3⟩
  · skip
    rcases Nat.lt_or_ge 64 rs.size with h64 | h64
    · have q64 : ¬ (rs.size : Int) ≤ 64 := by omega
      have d64 : decide ((rs.size : Int) ≤ 64) = false := decide_eq_false q64
      go_wp2_with fail
      go_ret
      exact ⟨by rw [decide_eq_false (show ¬ rs.size ≤ 64 by omega)]; rfl, unhide H3⟩
    · have q64 : (rs.size : Int) ≤ 64 := by omega
      go_wp2_with fail
      refine ((unhide HA) _ (unhide H3)).mono ?_
      rintro e w4 ⟨rfl, hf4⟩
      have H4 := hide ((unhide H3).trans hf4 (fun _ _ h => h))
      clear hf4
      go_wp2_with fail
      go_ret
      exact ⟨by rw [decide_eq_true (show rs.size ≤ 64 by omega)]; rfl, unhide H4⟩
end Go.Proofs.Ytkiepcdncegniaa
