import Derived.Test.YthccbfgjekdiiaaDoorPk2
import Derived.Test.YthccbfgjekdiiaaDoorPk1
namespace Go.Proofs.YthccbfgjekdiiaaDoor
open Go.RowKit

set_option maxRecDepth 100000 in
set_option maxHeartbeats 1000000 in
theorem grow_q_in (wi K dg : Nat) (hw1 : 1 ≤ wi) (hw32 : wi ≤ 32) (I : Int) (tb eb : Nat) (dc : Nat) (us : List Value) (es : List (List Nat)) (w0 w : World) (h : TS w0 w wi tb eb (some ⟨dg, 0, none⟩) dc us es) (hK : K ≤ es.length) (eo po : Option Addr) (EN ec PN pc : Nat) :
    Calls Tryd.prog 16 #[.int .i64 wi, .pointer (some ⟨tb, 0, none⟩), .pointer (some ⟨eb, 0, none⟩), .agg #[.int .i64 5, .int .i64 I, .int .i64 K, .slice eo EN ec, .slice po PN pc]] w fun e w' => e = .returned (.bool true) ∧ Fr (fun _ => False) w w' := by
  have hnum := h.num
  have hcap := h.cap
  have hF1 : Fr (fun _ => False) w (w.alloc (.cells #[.int .i64 5, .int .i64 I, .int .i64 K, .slice eo EN ec, .slice po PN pc] 43)) := (Fr.refl _ _).alloc _
  have hX := fun w' (hf : Fr (fun _ => False) (w.alloc (.cells #[.int .i64 5, .int .i64 I, .int .i64 K, .slice eo EN ec, .slice po PN pc] 43)) w') => (box5s w _ _ _ _ _ _ _ rfl).1.fr0 hf
  unfold X5 at hX
  have hbx : (w.alloc (.cells #[.int .i64 5, .int .i64 I, .int .i64 K, .slice eo EN ec, .slice po PN pc] 43)).cell? ⟨eb, 0, none⟩ = some (.slice (some ⟨dg, 0, none⟩) es.length dc) := (h.fr0 hF1).box
  have hmay := fun w' => may_yes wi w' (by omega) (by omega)
  have hwant := fun w' (hf : Fr (fun _ => False) w w') => gproofU wi I (.slice (some ⟨dg, 0, none⟩) K dc) (us.take K) (es.take K) w' (h.gr.fr0 hf) ((h.fr0 hf).pcs.take K hK) (fun e he => h.len e (List.mem_of_mem_take he)) (by rw [List.length_take]; omega)
  have hget := fun w' (hf : Fr (fun _ => False) w w') => tproofI (h.fr0 hf) I K (by omega)
  rw [Int.toNat_natCast] at hget
  have hok := plQ_ok wi I (es.take K)
  generalize plQ wi I (es.take K) = PS at *
  generalize pcQ wi I (es.take K) = C at *
  have hPl : PS.length ≤ 8000000 := Nat.le_trans hok.2 (by rw [List.length_take]; omega)
  have HC := hide (And.intro hX (And.intro hmay (And.intro hwant (And.intro hget (And.intro hok.1 hPl)))))
  clear hX hmay hwant hget hok hPl
  have q0 : (0 : Int) ≤ (K : Int) := by omega
  have q1 : (K : Int) ≤ (es.length : Int) := by omega
  have q2 : (K : Int) ≤ (dc : Int) := by omega
  clear h
  generalize es.length = N at *
  go_enter Tryd.func16, Tryd.ntmps16
  go_wp2_with fail
  refine ((unhide HC).2.1 _).mono ?_
  rintro e wA ⟨rfl, rfl⟩
  go_wp2_with fail
  refine ((unhide HC).2.2.1 _ hF1).mono ?_
  rintro e w1 ⟨yo, yc, ts, rfl, hP1, hf1⟩
  obtain ⟨k0, k1, k2, k3, k4⟩ := (unhide HC).1 _ hf1
  have H1 := hide (And.intro hP1 (hF1.trans hf1 (fun _ _ h => h)))
  have HB1 := hide hf1
  clear hP1 hf1 hbx hF1
  generalize hPN : PS.length = PL at *
  have HPN := hide hPN
  clear hPN
  go_wp2_with fail
  refine ((unhide HC).2.2.2.1 _ (unhide H1).2).mono ?_
  rintro e w2 ⟨ao, cp, vs, rfl, hO2⟩
  obtain ⟨k0', k1', k2', k3', k4'⟩ := (unhide HC).1 _ ((unhide HB1).trans hO2.own.fr (fun _ _ h => h))
  have H2 := hide hO2
  clear hO2 k0 k1 k2 k3 k4
  go_wp2_with fail
  refine ((unhide HC).2.2.2.1 _ ((unhide H1).2.trans (unhide H2).own.fr (fun _ _ h => h))).mono ?_
  rintro e w3 ⟨bo, bc, us3, rfl, hO3⟩
  have H3 := hide hO3
  clear hO3 k0' k1' k2' k3' k4'
  go_wp2_with fail
  refine (held_T (unhide H2) (unhide H3) (unhide H1).1 C (unhide HC).2.2.2.2.1 (by rw [unhide HPN]; exact (unhide HC).2.2.2.2.2)).mono ?_
  rintro e w4 ⟨rfl, hF4⟩
  have H4 := hide ((unhide H1).2.trans hF4 (fun _ _ h => h))
  clear hF4
  go_wp2_with fail
  go_ret
  exact ⟨rfl, unhide H4⟩
set_option maxRecDepth 100000 in
set_option maxHeartbeats 1000000 in
theorem grow_q_in0 (wi : Nat) (hw1 : 1 ≤ wi) (hw32 : wi ≤ 32) (I : Int) (tb eb : Nat) (us : List Value) (w0 w : World) (h : TS w0 w wi tb eb none 0 us ([] : List (List Nat)))  (eo po : Option Addr) (EN ec PN pc : Nat) :
    Calls Tryd.prog 16 #[.int .i64 wi, .pointer (some ⟨tb, 0, none⟩), .pointer (some ⟨eb, 0, none⟩), .agg #[.int .i64 5, .int .i64 I, .int .i64 0, .slice eo EN ec, .slice po PN pc]] w fun e w' => e = .returned (.bool true) ∧ Fr (fun _ => False) w w' := by
  have hnum := h.num
  have hcap := h.cap
  have hF1 : Fr (fun _ => False) w (w.alloc (.cells #[.int .i64 5, .int .i64 I, .int .i64 0, .slice eo EN ec, .slice po PN pc] 43)) := (Fr.refl _ _).alloc _
  have hX := fun w' (hf : Fr (fun _ => False) (w.alloc (.cells #[.int .i64 5, .int .i64 I, .int .i64 0, .slice eo EN ec, .slice po PN pc] 43)) w') => (box5s w _ _ _ _ _ _ _ rfl).1.fr0 hf
  unfold X5 at hX
  have hbx : (w.alloc (.cells #[.int .i64 5, .int .i64 I, .int .i64 0, .slice eo EN ec, .slice po PN pc] 43)).cell? ⟨eb, 0, none⟩ = some (.slice none 0 0) := (h.fr0 hF1).box
  have hmay := fun w' => may_yes wi w' (by omega) (by omega)
  have hwant := fun w' (hf : Fr (fun _ => False) w w') => gproofU wi I (.slice none 0 0) [] [] w' (h.gr.fr0 hf) (pcs_nil _) (fun _ he => by cases he) (by simp)
  have hget := fun w' (hf : Fr (fun _ => False) w w') => tproofI (h.fr0 hf) I 0 (by simp; omega)
  rw [show (0 : Int).toNat = 0 from rfl, List.take_nil] at hget
  have hok := plQ_ok wi I []
  generalize plQ wi I [] = PS at *
  generalize pcQ wi I [] = C at *
  have hPl : PS.length ≤ 8000000 := Nat.le_trans hok.2 (by simp)
  have HC := hide (And.intro hX (And.intro hmay (And.intro hwant (And.intro hget (And.intro hok.1 hPl)))))
  clear hX hmay hwant hget hok hPl
  clear h
  go_enter Tryd.func16, Tryd.ntmps16
  go_wp2_with fail
  refine ((unhide HC).2.1 _).mono ?_
  rintro e wA ⟨rfl, rfl⟩
  go_wp2_with fail
  refine ((unhide HC).2.2.1 _ hF1).mono ?_
  rintro e w1 ⟨yo, yc, ts, rfl, hP1, hf1⟩
  obtain ⟨k0, k1, k2, k3, k4⟩ := (unhide HC).1 _ hf1
  have H1 := hide (And.intro hP1 (hF1.trans hf1 (fun _ _ h => h)))
  have HB1 := hide hf1
  clear hP1 hf1 hbx hF1
  generalize hPN : PS.length = PL at *
  have HPN := hide hPN
  clear hPN
  go_wp2_with fail
  refine ((unhide HC).2.2.2.1 _ (unhide H1).2).mono ?_
  rintro e w2 ⟨ao, cp, vs, rfl, hO2⟩
  obtain ⟨k0', k1', k2', k3', k4'⟩ := (unhide HC).1 _ ((unhide HB1).trans hO2.own.fr (fun _ _ h => h))
  have H2 := hide hO2
  clear hO2 k0 k1 k2 k3 k4
  go_wp2_with fail
  refine ((unhide HC).2.2.2.1 _ ((unhide H1).2.trans (unhide H2).own.fr (fun _ _ h => h))).mono ?_
  rintro e w3 ⟨bo, bc, us3, rfl, hO3⟩
  have H3 := hide hO3
  clear hO3 k0' k1' k2' k3' k4'
  go_wp2_with fail
  refine (held_T (unhide H2) (unhide H3) (unhide H1).1 C (unhide HC).2.2.2.2.1 (by rw [unhide HPN]; exact (unhide HC).2.2.2.2.2)).mono ?_
  rintro e w4 ⟨rfl, hF4⟩
  have H4 := hide ((unhide H1).2.trans hF4 (fun _ _ h => h))
  clear hF4
  go_wp2_with fail
  go_ret
  exact ⟨rfl, unhide H4⟩
set_option maxRecDepth 100000 in
set_option maxHeartbeats 1000000 in
theorem grow_q_nm (j k : Int) (hj : ¬ (1 ≤ j ∧ j ≤ 32)) (I : Int) (tb eb : Nat) (dO : Option Addr) (dc : Nat) (us : List Value) (es : List (List Nat)) (w0 w : World) (h : TS w0 w j tb eb dO dc us es)  (eo po : Option Addr) (EN ec PN pc : Nat) :
    Calls Tryd.prog 16 #[.int .i64 j, .pointer (some ⟨tb, 0, none⟩), .pointer (some ⟨eb, 0, none⟩), .agg #[.int .i64 5, .int .i64 I, .int .i64 k, .slice eo EN ec, .slice po PN pc]] w fun e w' => e = .returned (.bool true) ∧ Fr (fun _ => False) w w' := by
  have hnum := h.num
  have hcap := h.cap
  have hF1 : Fr (fun _ => False) w (w.alloc (.cells #[.int .i64 5, .int .i64 I, .int .i64 k, .slice eo EN ec, .slice po PN pc] 43)) := (Fr.refl _ _).alloc _
  have hX := fun w' (hf : Fr (fun _ => False) (w.alloc (.cells #[.int .i64 5, .int .i64 I, .int .i64 k, .slice eo EN ec, .slice po PN pc] 43)) w') => (box5s w _ _ _ _ _ _ _ rfl).1.fr0 hf
  unfold X5 at hX
  have hbx : (w.alloc (.cells #[.int .i64 5, .int .i64 I, .int .i64 k, .slice eo EN ec, .slice po PN pc] 43)).cell? ⟨eb, 0, none⟩ = some (.slice dO es.length dc) := (h.fr0 hF1).box
  have hmay := fun w' => may_no j w' (by omega)
  have hwant := fun w' (hf : Fr (fun _ => False) w w') => gproofU j I (.slice none 0 0) [] [] w' (h.gr.fr0 hf) (pcs_nil _) (fun _ he => by cases he) (by simp)
  have hget := fun w' (hf : Fr (fun _ => False) w w') => (tproof_no tb es.length j I k w' (h.fr0 hf).cs.1 (h.fr0 hf).cs.2 (.inl (by omega)))
  have HC := hide (And.intro hX (And.intro hmay (And.intro hwant hget)))
  clear hX hmay hwant hget
  clear h
  generalize es.length = N at *
  go_enter Tryd.func16, Tryd.ntmps16
  go_wp2_with fail
  refine ((unhide HC).2.1 _).mono ?_
  rintro e wA ⟨rfl, rfl⟩
  go_wp2_with fail
  refine ((unhide HC).2.2.1 _ hF1).mono ?_
  rintro e w1 ⟨yo, yc, ts, rfl, hP1, hf1⟩
  obtain ⟨k0, k1, k2, k3, k4⟩ := (unhide HC).1 _ hf1
  have H1 := hide (And.intro hP1 (hF1.trans hf1 (fun _ _ h => h)))
  have HB1 := hide hf1
  clear hP1 hf1 hbx hF1
  generalize hPN : List.length _ = PL at *
  clear hPN
  go_wp2_with fail
  refine ((unhide HC).2.2.2 _ (unhide H1).2).mono ?_
  rintro e w2 ⟨rfl, rfl⟩
  go_wp2_with fail
  refine ((unhide HC).2.2.2 _ (unhide H1).2).mono ?_
  rintro e w3 ⟨rfl, rfl⟩
  go_wp2_with fail
  refine (held_T (OL.nil _) (OL.nil _) (pcs_nil _) 1 (fun _ h => by cases h) (by simp)).mono ?_
  rintro e w4 ⟨rfl, hF4⟩
  have H4 := hide ((unhide H1).2.trans hF4 (fun _ _ h => h))
  clear hF4
  go_wp2_with fail
  go_ret
  exact ⟨rfl, unhide H4⟩
set_option maxRecDepth 100000 in
set_option maxHeartbeats 1000000 in
theorem grow_q_lo (wi : Nat) (k : Int) (hw1 : 1 ≤ wi) (hw32 : wi ≤ 32) (hk : k < 0) (I : Int) (tb eb : Nat) (dO : Option Addr) (dc : Nat) (us : List Value) (es : List (List Nat)) (w0 w : World) (h : TS w0 w wi tb eb dO dc us es)  (eo po : Option Addr) (EN ec PN pc : Nat) :
    Calls Tryd.prog 16 #[.int .i64 wi, .pointer (some ⟨tb, 0, none⟩), .pointer (some ⟨eb, 0, none⟩), .agg #[.int .i64 5, .int .i64 I, .int .i64 k, .slice eo EN ec, .slice po PN pc]] w fun e w' => e = .returned (.bool true) ∧ Fr (fun _ => False) w w' := by
  have hnum := h.num
  have hcap := h.cap
  have hF1 : Fr (fun _ => False) w (w.alloc (.cells #[.int .i64 5, .int .i64 I, .int .i64 k, .slice eo EN ec, .slice po PN pc] 43)) := (Fr.refl _ _).alloc _
  have hX := fun w' (hf : Fr (fun _ => False) (w.alloc (.cells #[.int .i64 5, .int .i64 I, .int .i64 k, .slice eo EN ec, .slice po PN pc] 43)) w') => (box5s w _ _ _ _ _ _ _ rfl).1.fr0 hf
  unfold X5 at hX
  have hbx : (w.alloc (.cells #[.int .i64 5, .int .i64 I, .int .i64 k, .slice eo EN ec, .slice po PN pc] 43)).cell? ⟨eb, 0, none⟩ = some (.slice dO es.length dc) := (h.fr0 hF1).box
  have hmay := fun w' => may_yes wi w' (by omega) (by omega)
  have hwant := fun w' (hf : Fr (fun _ => False) w w') => gproofU wi I (.slice none 0 0) [] [] w' (h.gr.fr0 hf) (pcs_nil _) (fun _ he => by cases he) (by simp)
  have hget := fun w' (hf : Fr (fun _ => False) w w') => (tproof_no tb es.length wi I k w' (h.fr0 hf).cs.1 (h.fr0 hf).cs.2 (.inl (by omega)))
  have HC := hide (And.intro hX (And.intro hmay (And.intro hwant hget)))
  clear hX hmay hwant hget
  clear h
  generalize es.length = N at *
  go_enter Tryd.func16, Tryd.ntmps16
  go_wp2_with fail
  refine ((unhide HC).2.1 _).mono ?_
  rintro e wA ⟨rfl, rfl⟩
  go_wp2_with fail
  refine ((unhide HC).2.2.1 _ hF1).mono ?_
  rintro e w1 ⟨yo, yc, ts, rfl, hP1, hf1⟩
  obtain ⟨k0, k1, k2, k3, k4⟩ := (unhide HC).1 _ hf1
  have H1 := hide (And.intro hP1 (hF1.trans hf1 (fun _ _ h => h)))
  have HB1 := hide hf1
  clear hP1 hf1 hbx hF1
  generalize hPN : List.length _ = PL at *
  clear hPN
  go_wp2_with fail
  refine ((unhide HC).2.2.2 _ (unhide H1).2).mono ?_
  rintro e w2 ⟨rfl, rfl⟩
  go_wp2_with fail
  refine ((unhide HC).2.2.2 _ (unhide H1).2).mono ?_
  rintro e w3 ⟨rfl, rfl⟩
  go_wp2_with fail
  refine (held_T (OL.nil _) (OL.nil _) (pcs_nil _) 1 (fun _ h => by cases h) (by simp)).mono ?_
  rintro e w4 ⟨rfl, hF4⟩
  have H4 := hide ((unhide H1).2.trans hF4 (fun _ _ h => h))
  clear hF4
  go_wp2_with fail
  go_ret
  exact ⟨rfl, unhide H4⟩
set_option maxRecDepth 100000 in
set_option maxHeartbeats 1000000 in
theorem grow_q_hi (wi : Nat) (k : Int) (hw1 : 1 ≤ wi) (hw32 : wi ≤ 32) (I : Int) (tb eb : Nat) (dO : Option Addr) (dc : Nat) (us : List Value) (es : List (List Nat)) (w0 w : World) (h : TS w0 w wi tb eb dO dc us es) (hk : (es.length : Int) < k) (eo po : Option Addr) (EN ec PN pc : Nat) :
    Calls Tryd.prog 16 #[.int .i64 wi, .pointer (some ⟨tb, 0, none⟩), .pointer (some ⟨eb, 0, none⟩), .agg #[.int .i64 5, .int .i64 I, .int .i64 k, .slice eo EN ec, .slice po PN pc]] w fun e w' => e = .returned (.bool true) ∧ Fr (fun _ => False) w w' := by
  have hnum := h.num
  have hcap := h.cap
  have hF1 : Fr (fun _ => False) w (w.alloc (.cells #[.int .i64 5, .int .i64 I, .int .i64 k, .slice eo EN ec, .slice po PN pc] 43)) := (Fr.refl _ _).alloc _
  have hX := fun w' (hf : Fr (fun _ => False) (w.alloc (.cells #[.int .i64 5, .int .i64 I, .int .i64 k, .slice eo EN ec, .slice po PN pc] 43)) w') => (box5s w _ _ _ _ _ _ _ rfl).1.fr0 hf
  unfold X5 at hX
  have hbx : (w.alloc (.cells #[.int .i64 5, .int .i64 I, .int .i64 k, .slice eo EN ec, .slice po PN pc] 43)).cell? ⟨eb, 0, none⟩ = some (.slice dO es.length dc) := (h.fr0 hF1).box
  have hmay := fun w' => may_yes wi w' (by omega) (by omega)
  have hwant := fun w' (hf : Fr (fun _ => False) w w') => gproofU wi I (.slice none 0 0) [] [] w' (h.gr.fr0 hf) (pcs_nil _) (fun _ he => by cases he) (by simp)
  have hget := fun w' (hf : Fr (fun _ => False) w w') => (tproof_no tb es.length wi I k w' (h.fr0 hf).cs.1 (h.fr0 hf).cs.2 (.inl (by omega)))
  have HC := hide (And.intro hX (And.intro hmay (And.intro hwant hget)))
  clear hX hmay hwant hget
  have q0 : ¬ k < 0 := by omega
  have q1 : ¬ k ≤ (es.length : Int) := by omega
  have q3 : decide (k ≤ (es.length : Int)) = false := decide_eq_false q1
  clear h
  generalize es.length = N at *
  go_enter Tryd.func16, Tryd.ntmps16
  go_wp2_with fail
  refine ((unhide HC).2.1 _).mono ?_
  rintro e wA ⟨rfl, rfl⟩
  go_wp2_with fail
  refine ((unhide HC).2.2.1 _ hF1).mono ?_
  rintro e w1 ⟨yo, yc, ts, rfl, hP1, hf1⟩
  obtain ⟨k0, k1, k2, k3, k4⟩ := (unhide HC).1 _ hf1
  have H1 := hide (And.intro hP1 (hF1.trans hf1 (fun _ _ h => h)))
  have HB1 := hide hf1
  clear hP1 hf1 hbx hF1
  generalize hPN : List.length _ = PL at *
  clear hPN
  go_wp2_with fail
  refine ((unhide HC).2.2.2 _ (unhide H1).2).mono ?_
  rintro e w2 ⟨rfl, rfl⟩
  go_wp2_with fail
  refine ((unhide HC).2.2.2 _ (unhide H1).2).mono ?_
  rintro e w3 ⟨rfl, rfl⟩
  go_wp2_with fail
  refine (held_T (OL.nil _) (OL.nil _) (pcs_nil _) 1 (fun _ h => by cases h) (by simp)).mono ?_
  rintro e w4 ⟨rfl, hF4⟩
  have H4 := hide ((unhide H1).2.trans hF4 (fun _ _ h => h))
  clear hF4
  go_wp2_with fail
  go_ret
  exact ⟨rfl, unhide H4⟩
end Go.Proofs.YthccbfgjekdiiaaDoor

namespace Go.Proofs.YthccbfgjekdiiaaDoor
open Go.RowKit

set_option maxRecDepth 100000 in
set_option maxHeartbeats 1000000 in
theorem grow_m_in (wi K dg : Nat) (hw1 : 1 ≤ wi) (hw32 : wi ≤ 32) (I : Int) (tb eb : Nat) (dc : Nat) (us : List Value) (es : List (List Nat)) (w0 w : World) (h : TS w0 w wi tb eb (some ⟨dg, 0, none⟩) dc us es) (hK : K ≤ es.length) (eo po : Option Addr) (EN ec PN pc : Nat) (zs : List Int) (hy : Ints w (.slice po PN pc) zs) (hyl : zs.length ≤ 4000000) (hyb : ∀ z ∈ zs, -9223372036854775808 ≤ z) :
    Calls Tryd.prog 16 #[.int .i64 wi, .pointer (some ⟨tb, 0, none⟩), .pointer (some ⟨eb, 0, none⟩), .agg #[.int .i64 6, .int .i64 I, .int .i64 K, .slice eo EN ec, .slice po PN pc]] w fun e w' => e = .returned (.bool true) ∧ Fr (fun _ => False) w w' := by
  have hnum := h.num
  have hcap := h.cap
  have hF1 : Fr (fun _ => False) w (w.alloc (.cells #[.int .i64 6, .int .i64 I, .int .i64 K, .slice eo EN ec, .slice po PN pc] 43)) := (Fr.refl _ _).alloc _
  have hX := fun w' (hf : Fr (fun _ => False) (w.alloc (.cells #[.int .i64 6, .int .i64 I, .int .i64 K, .slice eo EN ec, .slice po PN pc] 43)) w') => (box5s w _ _ _ _ _ _ _ rfl).1.fr0 hf
  unfold X5 at hX
  have hbx : (w.alloc (.cells #[.int .i64 6, .int .i64 I, .int .i64 K, .slice eo EN ec, .slice po PN pc] 43)).cell? ⟨eb, 0, none⟩ = some (.slice (some ⟨dg, 0, none⟩) es.length dc) := (h.fr0 hF1).box
  have hmay := fun w' => may_yes wi w' (by omega) (by omega)
  have hwant := fun w' (hf : Fr (fun _ => False) w w') => gmanyU wi (.slice (some ⟨dg, 0, none⟩) K dc) _ (us.take K) (es.take K) zs w' (h.gr.fr0 hf) ((h.fr0 hf).pcs.take K hK) (fun e he => h.len e (List.mem_of_mem_take he)) (by rw [List.length_take]; omega) (hy.fr0 hf) hyl hyb
  have hget := fun w' (hf : Fr (fun _ => False) w w') => tmanyI (h.fr0 hf) K (by omega) _ zs (hy.fr0 hf) hyl hyb
  rw [Int.toNat_natCast] at hget
  have hok := plM_ok wi (es.take K) zs
  generalize plM wi (es.take K) zs = PS at *
  generalize pcM wi (es.take K) zs = C at *
  have hPl : PS.length ≤ 8000000 := Nat.le_trans hok.2 (by rw [List.length_take]; omega)
  have HC := hide (And.intro hX (And.intro hmay (And.intro hwant (And.intro hget (And.intro hok.1 hPl)))))
  clear hX hmay hwant hget hok hPl
  have q0 : (0 : Int) ≤ (K : Int) := by omega
  have q1 : (K : Int) ≤ (es.length : Int) := by omega
  have q2 : (K : Int) ≤ (dc : Int) := by omega
  clear h hy hyl hyb
  generalize es.length = N at *
  go_enter Tryd.func16, Tryd.ntmps16
  go_wp2_with fail
  refine ((unhide HC).2.1 _).mono ?_
  rintro e wA ⟨rfl, rfl⟩
  go_wp2_with fail
  refine ((unhide HC).2.2.1 _ hF1).mono ?_
  rintro e w1 ⟨yo, yc, ts, rfl, hP1, hf1⟩
  obtain ⟨k0, k1, k2, k3, k4⟩ := (unhide HC).1 _ hf1
  have H1 := hide (And.intro hP1 (hF1.trans hf1 (fun _ _ h => h)))
  have HB1 := hide hf1
  clear hP1 hf1 hbx hF1
  generalize hPN : PS.length = PL at *
  have HPN := hide hPN
  clear hPN
  go_wp2_with fail
  refine ((unhide HC).2.2.2.1 _ (unhide H1).2).mono ?_
  rintro e w2 ⟨ao, cp, vs, rfl, hO2⟩
  obtain ⟨k0', k1', k2', k3', k4'⟩ := (unhide HC).1 _ ((unhide HB1).trans hO2.own.fr (fun _ _ h => h))
  have H2 := hide hO2
  clear hO2 k0 k1 k2 k3 k4
  go_wp2_with fail
  refine ((unhide HC).2.2.2.1 _ ((unhide H1).2.trans (unhide H2).own.fr (fun _ _ h => h))).mono ?_
  rintro e w3 ⟨bo, bc, us3, rfl, hO3⟩
  have H3 := hide hO3
  clear hO3 k0' k1' k2' k3' k4'
  go_wp2_with fail
  refine (held_T (unhide H2) (unhide H3) (unhide H1).1 C (unhide HC).2.2.2.2.1 (by rw [unhide HPN]; exact (unhide HC).2.2.2.2.2)).mono ?_
  rintro e w4 ⟨rfl, hF4⟩
  have H4 := hide ((unhide H1).2.trans hF4 (fun _ _ h => h))
  clear hF4
  go_wp2_with fail
  go_ret
  exact ⟨rfl, unhide H4⟩
set_option maxRecDepth 100000 in
set_option maxHeartbeats 1000000 in
theorem grow_m_in0 (wi : Nat) (hw1 : 1 ≤ wi) (hw32 : wi ≤ 32) (I : Int) (tb eb : Nat) (us : List Value) (w0 w : World) (h : TS w0 w wi tb eb none 0 us ([] : List (List Nat)))  (eo po : Option Addr) (EN ec PN pc : Nat) (zs : List Int) (hy : Ints w (.slice po PN pc) zs) (hyl : zs.length ≤ 4000000) (hyb : ∀ z ∈ zs, -9223372036854775808 ≤ z) :
    Calls Tryd.prog 16 #[.int .i64 wi, .pointer (some ⟨tb, 0, none⟩), .pointer (some ⟨eb, 0, none⟩), .agg #[.int .i64 6, .int .i64 I, .int .i64 0, .slice eo EN ec, .slice po PN pc]] w fun e w' => e = .returned (.bool true) ∧ Fr (fun _ => False) w w' := by
  have hnum := h.num
  have hcap := h.cap
  have hF1 : Fr (fun _ => False) w (w.alloc (.cells #[.int .i64 6, .int .i64 I, .int .i64 0, .slice eo EN ec, .slice po PN pc] 43)) := (Fr.refl _ _).alloc _
  have hX := fun w' (hf : Fr (fun _ => False) (w.alloc (.cells #[.int .i64 6, .int .i64 I, .int .i64 0, .slice eo EN ec, .slice po PN pc] 43)) w') => (box5s w _ _ _ _ _ _ _ rfl).1.fr0 hf
  unfold X5 at hX
  have hbx : (w.alloc (.cells #[.int .i64 6, .int .i64 I, .int .i64 0, .slice eo EN ec, .slice po PN pc] 43)).cell? ⟨eb, 0, none⟩ = some (.slice none 0 0) := (h.fr0 hF1).box
  have hmay := fun w' => may_yes wi w' (by omega) (by omega)
  have hwant := fun w' (hf : Fr (fun _ => False) w w') => gmanyU wi (.slice none 0 0) _ [] [] zs w' (h.gr.fr0 hf) (pcs_nil _) (fun _ he => by cases he) (by simp) (hy.fr0 hf) hyl hyb
  have hget := fun w' (hf : Fr (fun _ => False) w w') => tmanyI (h.fr0 hf) 0 (by simp; omega) _ zs (hy.fr0 hf) hyl hyb
  rw [show (0 : Int).toNat = 0 from rfl, List.take_nil] at hget
  have hok := plM_ok wi [] zs
  generalize plM wi [] zs = PS at *
  generalize pcM wi [] zs = C at *
  have hPl : PS.length ≤ 8000000 := Nat.le_trans hok.2 (by simp)
  have HC := hide (And.intro hX (And.intro hmay (And.intro hwant (And.intro hget (And.intro hok.1 hPl)))))
  clear hX hmay hwant hget hok hPl
  clear h hy hyl hyb
  go_enter Tryd.func16, Tryd.ntmps16
  go_wp2_with fail
  refine ((unhide HC).2.1 _).mono ?_
  rintro e wA ⟨rfl, rfl⟩
  go_wp2_with fail
  refine ((unhide HC).2.2.1 _ hF1).mono ?_
  rintro e w1 ⟨yo, yc, ts, rfl, hP1, hf1⟩
  obtain ⟨k0, k1, k2, k3, k4⟩ := (unhide HC).1 _ hf1
  have H1 := hide (And.intro hP1 (hF1.trans hf1 (fun _ _ h => h)))
  have HB1 := hide hf1
  clear hP1 hf1 hbx hF1
  generalize hPN : PS.length = PL at *
  have HPN := hide hPN
  clear hPN
  go_wp2_with fail
  refine ((unhide HC).2.2.2.1 _ (unhide H1).2).mono ?_
  rintro e w2 ⟨ao, cp, vs, rfl, hO2⟩
  obtain ⟨k0', k1', k2', k3', k4'⟩ := (unhide HC).1 _ ((unhide HB1).trans hO2.own.fr (fun _ _ h => h))
  have H2 := hide hO2
  clear hO2 k0 k1 k2 k3 k4
  go_wp2_with fail
  refine ((unhide HC).2.2.2.1 _ ((unhide H1).2.trans (unhide H2).own.fr (fun _ _ h => h))).mono ?_
  rintro e w3 ⟨bo, bc, us3, rfl, hO3⟩
  have H3 := hide hO3
  clear hO3 k0' k1' k2' k3' k4'
  go_wp2_with fail
  refine (held_T (unhide H2) (unhide H3) (unhide H1).1 C (unhide HC).2.2.2.2.1 (by rw [unhide HPN]; exact (unhide HC).2.2.2.2.2)).mono ?_
  rintro e w4 ⟨rfl, hF4⟩
  have H4 := hide ((unhide H1).2.trans hF4 (fun _ _ h => h))
  clear hF4
  go_wp2_with fail
  go_ret
  exact ⟨rfl, unhide H4⟩
set_option maxRecDepth 100000 in
set_option maxHeartbeats 1000000 in
theorem grow_m_nm (j k : Int) (hj : ¬ (1 ≤ j ∧ j ≤ 32)) (I : Int) (tb eb : Nat) (dO : Option Addr) (dc : Nat) (us : List Value) (es : List (List Nat)) (w0 w : World) (h : TS w0 w j tb eb dO dc us es)  (hkb : k < 9223372036854775808) (eo po : Option Addr) (EN ec PN pc : Nat) (zs : List Int) (hy : Ints w (.slice po PN pc) zs) (hyl : zs.length ≤ 4000000) (hyb : ∀ z ∈ zs, -9223372036854775808 ≤ z) :
    Calls Tryd.prog 16 #[.int .i64 j, .pointer (some ⟨tb, 0, none⟩), .pointer (some ⟨eb, 0, none⟩), .agg #[.int .i64 6, .int .i64 I, .int .i64 k, .slice eo EN ec, .slice po PN pc]] w fun e w' => e = .returned (.bool true) ∧ Fr (fun _ => False) w w' := by
  have hnum := h.num
  have hcap := h.cap
  have hF1 : Fr (fun _ => False) w (w.alloc (.cells #[.int .i64 6, .int .i64 I, .int .i64 k, .slice eo EN ec, .slice po PN pc] 43)) := (Fr.refl _ _).alloc _
  have hX := fun w' (hf : Fr (fun _ => False) (w.alloc (.cells #[.int .i64 6, .int .i64 I, .int .i64 k, .slice eo EN ec, .slice po PN pc] 43)) w') => (box5s w _ _ _ _ _ _ _ rfl).1.fr0 hf
  unfold X5 at hX
  have hbx : (w.alloc (.cells #[.int .i64 6, .int .i64 I, .int .i64 k, .slice eo EN ec, .slice po PN pc] 43)).cell? ⟨eb, 0, none⟩ = some (.slice dO es.length dc) := (h.fr0 hF1).box
  have hmay := fun w' => may_no j w' (by omega)
  have hwant := fun w' (hf : Fr (fun _ => False) w w') => gmanyU j (.slice none 0 0) _ [] [] zs w' (h.gr.fr0 hf) (pcs_nil _) (fun _ he => by cases he) (by simp) (hy.fr0 hf) hyl hyb
  have hget := fun w' (hf : Fr (fun _ => False) w w') => (tmany_no tb es.length j k _ zs w' (h.fr0 hf).cs.1 (h.fr0 hf).cs.2 (hy.fr0 hf) (by omega) hyb hkb (.inl (by omega)))
  have HC := hide (And.intro hX (And.intro hmay (And.intro hwant hget)))
  clear hX hmay hwant hget
  clear h hy hyl hyb
  generalize es.length = N at *
  go_enter Tryd.func16, Tryd.ntmps16
  go_wp2_with fail
  refine ((unhide HC).2.1 _).mono ?_
  rintro e wA ⟨rfl, rfl⟩
  go_wp2_with fail
  refine ((unhide HC).2.2.1 _ hF1).mono ?_
  rintro e w1 ⟨yo, yc, ts, rfl, hP1, hf1⟩
  obtain ⟨k0, k1, k2, k3, k4⟩ := (unhide HC).1 _ hf1
  have H1 := hide (And.intro hP1 (hF1.trans hf1 (fun _ _ h => h)))
  have HB1 := hide hf1
  clear hP1 hf1 hbx hF1
  generalize hPN : List.length _ = PL at *
  clear hPN
  go_wp2_with fail
  refine ((unhide HC).2.2.2 _ (unhide H1).2).mono ?_
  rintro e w2 ⟨rfl, rfl⟩
  go_wp2_with fail
  refine ((unhide HC).2.2.2 _ (unhide H1).2).mono ?_
  rintro e w3 ⟨rfl, rfl⟩
  go_wp2_with fail
  refine (held_T (OL.nil _) (OL.nil _) (pcs_nil _) 1 (fun _ h => by cases h) (by simp)).mono ?_
  rintro e w4 ⟨rfl, hF4⟩
  have H4 := hide ((unhide H1).2.trans hF4 (fun _ _ h => h))
  clear hF4
  go_wp2_with fail
  go_ret
  exact ⟨rfl, unhide H4⟩
set_option maxRecDepth 100000 in
set_option maxHeartbeats 1000000 in
theorem grow_m_lo (wi : Nat) (k : Int) (hw1 : 1 ≤ wi) (hw32 : wi ≤ 32) (hk : k < 0) (I : Int) (tb eb : Nat) (dO : Option Addr) (dc : Nat) (us : List Value) (es : List (List Nat)) (w0 w : World) (h : TS w0 w wi tb eb dO dc us es)  (hkb : k < 9223372036854775808) (eo po : Option Addr) (EN ec PN pc : Nat) (zs : List Int) (hy : Ints w (.slice po PN pc) zs) (hyl : zs.length ≤ 4000000) (hyb : ∀ z ∈ zs, -9223372036854775808 ≤ z) :
    Calls Tryd.prog 16 #[.int .i64 wi, .pointer (some ⟨tb, 0, none⟩), .pointer (some ⟨eb, 0, none⟩), .agg #[.int .i64 6, .int .i64 I, .int .i64 k, .slice eo EN ec, .slice po PN pc]] w fun e w' => e = .returned (.bool true) ∧ Fr (fun _ => False) w w' := by
  have hnum := h.num
  have hcap := h.cap
  have hF1 : Fr (fun _ => False) w (w.alloc (.cells #[.int .i64 6, .int .i64 I, .int .i64 k, .slice eo EN ec, .slice po PN pc] 43)) := (Fr.refl _ _).alloc _
  have hX := fun w' (hf : Fr (fun _ => False) (w.alloc (.cells #[.int .i64 6, .int .i64 I, .int .i64 k, .slice eo EN ec, .slice po PN pc] 43)) w') => (box5s w _ _ _ _ _ _ _ rfl).1.fr0 hf
  unfold X5 at hX
  have hbx : (w.alloc (.cells #[.int .i64 6, .int .i64 I, .int .i64 k, .slice eo EN ec, .slice po PN pc] 43)).cell? ⟨eb, 0, none⟩ = some (.slice dO es.length dc) := (h.fr0 hF1).box
  have hmay := fun w' => may_yes wi w' (by omega) (by omega)
  have hwant := fun w' (hf : Fr (fun _ => False) w w') => gmanyU wi (.slice none 0 0) _ [] [] zs w' (h.gr.fr0 hf) (pcs_nil _) (fun _ he => by cases he) (by simp) (hy.fr0 hf) hyl hyb
  have hget := fun w' (hf : Fr (fun _ => False) w w') => (tmany_no tb es.length wi k _ zs w' (h.fr0 hf).cs.1 (h.fr0 hf).cs.2 (hy.fr0 hf) (by omega) hyb hkb (.inl (by omega)))
  have HC := hide (And.intro hX (And.intro hmay (And.intro hwant hget)))
  clear hX hmay hwant hget
  clear h hy hyl hyb
  generalize es.length = N at *
  go_enter Tryd.func16, Tryd.ntmps16
  go_wp2_with fail
  refine ((unhide HC).2.1 _).mono ?_
  rintro e wA ⟨rfl, rfl⟩
  go_wp2_with fail
  refine ((unhide HC).2.2.1 _ hF1).mono ?_
  rintro e w1 ⟨yo, yc, ts, rfl, hP1, hf1⟩
  obtain ⟨k0, k1, k2, k3, k4⟩ := (unhide HC).1 _ hf1
  have H1 := hide (And.intro hP1 (hF1.trans hf1 (fun _ _ h => h)))
  have HB1 := hide hf1
  clear hP1 hf1 hbx hF1
  generalize hPN : List.length _ = PL at *
  clear hPN
  go_wp2_with fail
  refine ((unhide HC).2.2.2 _ (unhide H1).2).mono ?_
  rintro e w2 ⟨rfl, rfl⟩
  go_wp2_with fail
  refine ((unhide HC).2.2.2 _ (unhide H1).2).mono ?_
  rintro e w3 ⟨rfl, rfl⟩
  go_wp2_with fail
  refine (held_T (OL.nil _) (OL.nil _) (pcs_nil _) 1 (fun _ h => by cases h) (by simp)).mono ?_
  rintro e w4 ⟨rfl, hF4⟩
  have H4 := hide ((unhide H1).2.trans hF4 (fun _ _ h => h))
  clear hF4
  go_wp2_with fail
  go_ret
  exact ⟨rfl, unhide H4⟩
set_option maxRecDepth 100000 in
set_option maxHeartbeats 1000000 in
theorem grow_m_hi (wi : Nat) (k : Int) (hw1 : 1 ≤ wi) (hw32 : wi ≤ 32) (I : Int) (tb eb : Nat) (dO : Option Addr) (dc : Nat) (us : List Value) (es : List (List Nat)) (w0 w : World) (h : TS w0 w wi tb eb dO dc us es) (hk : (es.length : Int) < k) (hkb : k < 9223372036854775808) (eo po : Option Addr) (EN ec PN pc : Nat) (zs : List Int) (hy : Ints w (.slice po PN pc) zs) (hyl : zs.length ≤ 4000000) (hyb : ∀ z ∈ zs, -9223372036854775808 ≤ z) :
    Calls Tryd.prog 16 #[.int .i64 wi, .pointer (some ⟨tb, 0, none⟩), .pointer (some ⟨eb, 0, none⟩), .agg #[.int .i64 6, .int .i64 I, .int .i64 k, .slice eo EN ec, .slice po PN pc]] w fun e w' => e = .returned (.bool true) ∧ Fr (fun _ => False) w w' := by
  have hnum := h.num
  have hcap := h.cap
  have hF1 : Fr (fun _ => False) w (w.alloc (.cells #[.int .i64 6, .int .i64 I, .int .i64 k, .slice eo EN ec, .slice po PN pc] 43)) := (Fr.refl _ _).alloc _
  have hX := fun w' (hf : Fr (fun _ => False) (w.alloc (.cells #[.int .i64 6, .int .i64 I, .int .i64 k, .slice eo EN ec, .slice po PN pc] 43)) w') => (box5s w _ _ _ _ _ _ _ rfl).1.fr0 hf
  unfold X5 at hX
  have hbx : (w.alloc (.cells #[.int .i64 6, .int .i64 I, .int .i64 k, .slice eo EN ec, .slice po PN pc] 43)).cell? ⟨eb, 0, none⟩ = some (.slice dO es.length dc) := (h.fr0 hF1).box
  have hmay := fun w' => may_yes wi w' (by omega) (by omega)
  have hwant := fun w' (hf : Fr (fun _ => False) w w') => gmanyU wi (.slice none 0 0) _ [] [] zs w' (h.gr.fr0 hf) (pcs_nil _) (fun _ he => by cases he) (by simp) (hy.fr0 hf) hyl hyb
  have hget := fun w' (hf : Fr (fun _ => False) w w') => (tmany_no tb es.length wi k _ zs w' (h.fr0 hf).cs.1 (h.fr0 hf).cs.2 (hy.fr0 hf) (by omega) hyb hkb (.inl (by omega)))
  have HC := hide (And.intro hX (And.intro hmay (And.intro hwant hget)))
  clear hX hmay hwant hget
  have q0 : ¬ k < 0 := by omega
  have q1 : ¬ k ≤ (es.length : Int) := by omega
  have q3 : decide (k ≤ (es.length : Int)) = false := decide_eq_false q1
  clear h hy hyl hyb
  generalize es.length = N at *
  go_enter Tryd.func16, Tryd.ntmps16
  go_wp2_with fail
  refine ((unhide HC).2.1 _).mono ?_
  rintro e wA ⟨rfl, rfl⟩
  go_wp2_with fail
  refine ((unhide HC).2.2.1 _ hF1).mono ?_
  rintro e w1 ⟨yo, yc, ts, rfl, hP1, hf1⟩
  obtain ⟨k0, k1, k2, k3, k4⟩ := (unhide HC).1 _ hf1
  have H1 := hide (And.intro hP1 (hF1.trans hf1 (fun _ _ h => h)))
  have HB1 := hide hf1
  clear hP1 hf1 hbx hF1
  generalize hPN : List.length _ = PL at *
  clear hPN
  go_wp2_with fail
  refine ((unhide HC).2.2.2 _ (unhide H1).2).mono ?_
  rintro e w2 ⟨rfl, rfl⟩
  go_wp2_with fail
  refine ((unhide HC).2.2.2 _ (unhide H1).2).mono ?_
  rintro e w3 ⟨rfl, rfl⟩
  go_wp2_with fail
  refine (held_T (OL.nil _) (OL.nil _) (pcs_nil _) 1 (fun _ h => by cases h) (by simp)).mono ?_
  rintro e w4 ⟨rfl, hF4⟩
  have H4 := hide ((unhide H1).2.trans hF4 (fun _ _ h => h))
  clear hF4
  go_wp2_with fail
  go_ret
  exact ⟨rfl, unhide H4⟩
end Go.Proofs.YthccbfgjekdiiaaDoor

namespace Go.Proofs.YthccbfgjekdiiaaDoor
open Go.RowKit

def OfP (P : Nat → Prop) (i : Int) (ps : List (List Nat)) (x : Value) (w : World) : Prop :=
  Calls Tryd.prog 68 #[.int .i64 i, x] w fun e w' => ∃ yo yc, e = .returned (.slice yo (mth i ps).length yc) ∧ Sl w' (.slice yo (mth i ps).length yc) (mth i ps) ∧ Fr (fun _ => False) w w' ∧ Bk (.slice yo (mth i ps).length yc) (fun g => P g ∨ w.heap.size ≤ g)
set_option maxRecDepth 100000 in
theorem ofP_nil (P : Nat → Prop) (i : Int) (x : Value) (vs : List Value) (w : World) (hr : GR w) (hp : Pcs w x vs []) : OfP P i [] x w := by
  unfold OfP
  obtain ⟨xo, xc, rfl⟩ := hp.form
  obtain ⟨R, hR⟩ : ∃ R, mth i [] = R := ⟨_, rfl⟩
  have hsum : ∀ w, GR w → Calls Tryd.prog 89 #[.int .i64 i, .slice none 0 0] w fun e w' => ∃ zo zc, e = .returned (.slice zo R.length zc) ∧ OB w w' zo zc R := fun w h => by
    rw [← hR, mth_nil]
    exact gsum_T i _ [] w h (.inl ⟨rfl, rfl⟩) (fun _ h => by cases h) (by simp)
  have hb : ∀ v ∈ R, v < 256 := by rw [← hR, mth_nil]; exact sm_lt i _
  rw [hR]
  have HG := hide (And.intro hsum (And.intro hr hb))
  clear hsum hr hb hR hp
  simp only [List.length_nil]
  go_enter Tryd.func68, Tryd.ntmps68
  go_wp2_with fail
  refine ((unhide HG).1 w (unhide HG).2.1).mono ?_
  rintro e w1 ⟨zo, zc, rfl, hO⟩
  have hbk : Bk (.slice zo R.length zc) (fun g => P g ∨ w.heap.size ≤ g) := fun g o n c e => by
    simp only [Value.slice.injEq] at e
    obtain ⟨rfl, _⟩ := e
    exact .inr (World.ownsRow.lt hO.own g rfl).1
  have H1 := hide (And.intro (hO.sl (unhide HG).2.2) (And.intro hO.fr hbk))
  clear hbk
  clear hO
  go_wp2_with fail
  go_ret
  exact ⟨zo, zc, rfl, (unhide H1).1, (unhide H1).2.1, (unhide H1).2.2⟩
set_option maxRecDepth 100000 in
theorem ofP_one (P : Nat → Prop) (i : Int) (p : List Nat) (x : Value) (vs : List Value) (w : World) (hp : Pcs w x vs [p]) (hq : ∀ u ∈ vs, Bk u (fun g => P g)) : OfP P i [p] x w := by
  unfold OfP
  obtain ⟨xo, xc, rfl⟩ := hp.form
  obtain ⟨g, o, v, rfl, hcell, _⟩ := hp.cell (Fr.refl _ _) 0 (by simp)
  have hvl : 0 < vs.length := by rw [hp.len]; simp
  have hsl : Sl w v p ∧ v ∈ vs := by
    have h0 := hp.at_
    rcases h0 with ⟨e, rfl⟩ | ⟨a, c, e, rfl⟩ | ⟨g', o', c, e, _, hc⟩
    · simp at hvl
    · simp at hvl
    · simp only [Value.slice.injEq, Option.some.injEq, Addr.mk.injEq, and_true] at e
      obtain ⟨⟨rfl, rfl⟩, _⟩ := e
      have h1 := hc 0 _ (List.getElem?_eq_getElem hvl)
      rw [h1] at hcell
      have h2 := Option.some.inj hcell
      exact ⟨hp.sl 0 v p (by rw [List.getElem?_eq_getElem hvl, h2]) rfl, by rw [← h2]; exact List.getElem_mem hvl⟩
  rw [mth_one]
  have hbq := hq v hsl.2
  replace hsl := hsl.1
  obtain ⟨vo, vc, rfl⟩ := hsl.form
  rw [Nat.add_zero] at hcell
  have H := hide (And.intro hsl hbq)
  clear hsl hp hvl hbq hq
  simp only [List.length_singleton]
  generalize p.length = P at *
  go_enter Tryd.func68, Tryd.ntmps68
  go_wp2_with fail
  go_ret
  exact ⟨vo, vc, rfl, (unhide H).1, Fr.refl _ _, fun g o n c e => .inl ((unhide H).2 g o n c e)⟩
set_option maxRecDepth 100000 in
set_option maxHeartbeats 1000000 in
theorem ofP_any (P : Nat → Prop) (i : Int) (ps : List (List Nat)) (x : Value) (vs : List Value) (w : World) (hl8 : ps.length ≤ 8000000) (hr : GR w) (hp : Pcs w x vs ps) (hcx : Cp x) (hB : ∀ p ∈ ps, p.length ≤ 4000000) (hq : ∀ u ∈ vs, Bk u (fun g => P g)) : OfP P i ps x w := by
  by_cases h2 : ps.length < 2
  · match ps, h2 with
    | [], _ => exact ofP_nil P i x vs w hr hp
    | [p], _ => exact ofP_one P i p x vs w hp hq
  · clear hq
    obtain ⟨xo, xc, rfl⟩ := hp.form
    obtain ⟨g, o, v, rfl, -⟩ := hp.cell (Fr.refl _ _) 0 (by omega)
    have hk1 := hf_lt ps.length (by omega)
    have hk2 := hf_pos ps.length
    have hle : vs.length = ps.length := hp.len
    have hcapx : ps.length ≤ xc := hcx _ _ _ rfl
    have cp1 : Cp (.slice (some ⟨g, o, none⟩) (hf ps.length) xc) := fun _ _ _ e => by cases e; omega
    have cp2 : Cp (.slice (some ⟨g, o + hf ps.length, none⟩) (ps.length - hf ps.length) (xc - hf ps.length)) := fun _ _ _ e => by cases e; omega
    have hmt := mth_two i ps (by omega)
    have hP1 := hp.take (hf ps.length) (by omega)
    have hP2 := hp.drop (hf ps.length) hk1
    have hB1 : ∀ p ∈ ps.take (hf ps.length), p.length ≤ 4000000 := fun p h => hB p (List.mem_of_mem_take h)
    have hB2 : ∀ p ∈ ps.drop (hf ps.length), p.length ≤ 4000000 := fun p h => hB p (List.mem_of_mem_drop h)
    have hl1 : (ps.take (hf ps.length)).length = hf ps.length := by rw [List.length_take]; omega
    have hl2 : (ps.drop (hf ps.length)).length = ps.length - hf ps.length := by rw [List.length_drop]
    have c1 : ∀ w', Fr (fun _ => False) w w' → OfSays i (ps.take (hf ps.length)) (.slice (some ⟨g, o, none⟩) (hf ps.length) xc) w' := fun w' hfr => of_any i _ _ _ _ w' (Nat.le_refl _) (by omega) (hr.fr0 hfr) (hP1.fr0 hfr) cp1 hB1
    have c2 : ∀ w', Fr (fun _ => False) w w' → OfSays i (ps.drop (hf ps.length)) (.slice (some ⟨g, o + hf ps.length, none⟩) (ps.length - hf ps.length) (xc - hf ps.length)) w' := fun w' hfr => of_any i _ _ _ _ w' (Nat.le_refl _) (by omega) (hr.fr0 hfr) (hP2.fr0 hfr) cp2 hB2
    have m1 := mth_lt i _ (ps.take (hf ps.length)) (Nat.le_refl _) hP1.byt
    have m2 := mth_lt i _ (ps.drop (hf ps.length)) (Nat.le_refl _) hP2.byt
    have n1 := mth_len i 4000000 (by decide) _ hB1
    have n2 := mth_len i 4000000 (by decide) _ hB2
    have hha := half_any ps.length w (by omega) (by omega)
    unfold OfSays at c1 c2
    unfold OfP
    rw [hmt]
    generalize mth i (ps.take (hf ps.length)) = M1 at *
    generalize mth i (ps.drop (hf ps.length)) = M2 at *
    obtain ⟨R, hR⟩ : ∃ R, nd i M1 M2 = R := ⟨_, rfl⟩
    rw [hR]
    have hbR : ∀ v ∈ R, v < 256 := by rw [← hR]; exact nd_lt i _ _
    have hnode : ∀ x y w', GR w' → Src w' x M1 → Src w' y M2 → Calls Tryd.prog 91 #[.int .i64 i, x, y] w' fun e w'' => ∃ yo yc, e = .returned (.slice yo R.length yc) ∧ OB w' w'' yo yc R := fun x y w' h1 h3 h4 => by
      rw [← hR]; exact gnode_any i x y M1 M2 w' h1 h3 h4 m1 m2 n1 n2
    have HG := hide (And.intro hr (And.intro hP1 (And.intro hP2 (And.intro c1 (And.intro c2 (And.intro hnode (And.intro hbR hha)))))))
    clear hr hP1 hP2 c1 c2 hnode hbR hha m1 m2 n1 n2 hmt hR hB hB1 hB2 hp hl1 hl2 cp1 cp2 hcx
    generalize hf ps.length = K at *
    have q1 : (K : Int) ≤ (ps.length : Int) := by omega
    have q2 : (K : Int) ≤ (xc : Int) := by omega
    have q3 : ((ps.length : Int) == 0) = false := beq_false_of_ne (by omega)
    have q4 : ((ps.length : Int) == 1) = false := beq_false_of_ne (by omega)
    generalize ps.length = N at *
    go_enter Tryd.func68, Tryd.ntmps68
    go_wp2_with fail
    refine (unhide HG).2.2.2.2.2.2.2.mono ?_
    rintro e w0 ⟨rfl, rfl⟩
    go_wp2_with fail
    have T1 : True := trivial
    have q5 : ¬ xc = K := by omega
    have q6 : ¬ K = xc := by omega
    go_region_held3 (fun _ => True) (trivial) (first
      | (go_at_call 68; clear T1; refine ((unhide HG).2.2.2.1 _ ((Fr.refl _ _).drew)).mono ?_; rintro e wA ⟨yA, cA, rfl, sA, fA⟩)
      | (go_at_call 68; refine ((unhide HG).2.2.2.2.1 _ (((Fr.refl _ _).drew).trans fA (fun _ _ h => h))).mono ?_; rintro e wB ⟨yB, cB, rfl, sB, fB⟩)
      | (go_at_call 91; refine ((unhide HG).2.2.2.2.2.1 _ _ wB (((unhide HG).1.fr0 (((Fr.refl _ _).drew).trans fA (fun _ _ h => h))).fr0 fB) (sA.s.fr0 fB) sB.s).mono ?_; rintro e wC ⟨zo, zc, rfl, oC⟩))
    have hFC : Fr (fun _ => False) w0 wC := ((((Fr.refl (fun _ => False) w0).drew).trans fA (fun _ _ h => h)).trans fB (fun _ _ h => h)).trans oC.fr (fun _ _ h => h)
    have hbk : Bk (.slice zo R.length zc) (fun g => P g ∨ w0.heap.size ≤ g) := fun g o n c e => by
      simp only [Value.slice.injEq] at e
      obtain ⟨rfl, _⟩ := e
      have h1 := (World.ownsRow.lt oC.own g rfl).1
      have h2 : w0.heap.size ≤ wB.heap.size := ((((Fr.refl (fun _ => False) w0).drew).trans fA (fun _ _ h => h)).trans fB (fun _ _ h => h)).size
      exact .inr (by omega)
    have HE := hide (And.intro (oC.sl (unhide HG).2.2.2.2.2.2.1) (And.intro hFC hbk))
    clear hFC hbk
    go_wp2_with fail
    go_ret
    exact ⟨zo, zc, rfl, (unhide HE).1, (unhide HE).2.1, (unhide HE).2.2⟩
set_option maxRecDepth 100000 in
set_option maxHeartbeats 1000000 in
/-- The ref's Leaves. -/
theorem gleavesN_any (i : Int) (x : Value) (vs : List Value) (es : List (List Nat)) (w : World) (hr : GR w) (hp : Pcs w x vs es) (hB : ∀ e ∈ es, e.length ≤ 4000000) (hn : es.length ≤ 8000000) :
    Calls Tryd.prog 41 #[.int .i64 i, x] w fun e' w' => ∃ ao cp us, e' = .returned (.slice ao es.length cp) ∧ Pcs w' (.slice ao es.length cp) us (es.map (lf i)) ∧ Fr (fun _ => False) w w' ∧ es.length ≤ cp ∧ ∀ u ∈ us, Bk u (fun g => w.heap.size ≤ g) := by
  obtain ⟨xo, xc, rfl⟩ := hp.form
  have HG := hide (And.intro hr (And.intro hp (And.intro hB hn)))
  clear hr hp hB hn
  generalize hN : es.length = N at *
  go_enter Tryd.func41, Tryd.ntmps41
  go_wp2_with fail
  go_loopw [5, 6] (fun v iv wr => ∃ (k : Nat) (ao : Option Addr) (cp : Nat) (us : List Value), k ≤ N ∧ iv = .int .i64 (k : Nat) ∧ v = .slice ao k cp ∧ us.length = k ∧ LV w wr ao cp us ((es.take k).map (lf i)) ∧ ∀ u ∈ us, Bk u (fun g => w.heap.size ≤ g)) (fun _ iv _ => N - (intOf iv).toNat)
  case atStart => exact ⟨0, none, 0, [], Nat.zero_le _, rfl, rfl, rfl, LV.nil w, fun _ h => by cases h⟩
  case round =>
    obtain ⟨k, ao, cp, us, hk, rfl, rfl, hus, hI, hub⟩ := hrel
    have HU := hide hub
    clear hub
    have hN8 := (unhide HG).2.2.2
    by_cases hlt : k < N
    · have hlt' : (k : Int) < (N : Int) := by omega
      have hke : k < es.length := by omega
      have hF := hI.own.fr
      obtain ⟨g, o, v, rfl, hcell, hsrc, hcap, hltv, _⟩ := (unhide HG).2.1.cell hF k hke
      have hb1 := (unhide HG).2.2.1 es[k] (List.getElem_mem hke)
      have hbb := (unhide HG).2.1.byt es[k] (List.getElem_mem hke)
      have hgl := gleaf_any i v es[k] _ ((unhide HG).1.fr0 hF) hsrc hbb hb1
      have htk : (es.take (k + 1)).map (lf i) = (es.take k).map (lf i) ++ [lf i es[k]] := by
        rw [List.take_add_one, List.getElem?_eq_getElem hke, Option.toList_some, List.map_append]; rfl
      have hl32 := sm32 i (0 :: es[k])
      have hlb := lf_lt i es[k]
      obtain ⟨R, hR⟩ : ∃ R, lf i es[k] = R := ⟨_, rfl⟩
      rw [hR] at hgl htk hlb
      obtain ⟨vo, vc, rfl⟩ := hsrc.form
      have HI := hide (And.intro hI (And.intro hgl (And.intro htk hlb)))
      clear hI hgl htk hl32 hlb hR hF hsrc hcap hltv hb1 hbb
      generalize es[k].length = EL at *
      go_wp2_with fail
      refine (unhide HI).2.1.mono ?_
      rintro e' w1 ⟨yo, yc, rfl, hO⟩
      obtain ⟨ao', cp', w2, hr2, hL2⟩ := (unhide HI).1.step R yo yc hO (unhide HI).2.2.2 (by omega)
      rw [← (unhide HI).2.2.1] at hL2
      rw [hus] at hr2
      have hu2 : ∀ u ∈ us ++ [.slice yo R.length yc], Bk u (fun g => w.heap.size ≤ g) := fun u hu => by
        rcases List.mem_append.1 hu with h1 | h1
        · exact unhide HU u h1
        · rw [List.mem_singleton.1 h1]
          intro g o n c e
          have h2 := (World.ownsRow.lt hO.own g (by cases e; rfl)).1
          have h3 := (unhide HI).1.own.fr.size
          omega
      have HL := hide (And.intro hL2 (And.intro hr2 hu2))
      clear hL2 hr2 hu2 hO
      generalize R.length = RL at *
      go_wp2_with (at_builtin; refine wpList_app rfl _ _ 22 22 rfl _ _ _ rfl rfl (unhide HL).2.1 ?_)
      exact ⟨⟨k + 1, ao', cp', _, by omega, by go_num, rfl, by rw [List.length_append, hus]; rfl, (unhide HL).1, (unhide HL).2.2⟩, by simp [intOf]; omega⟩
    · have hkN : k = N := by omega
      have hlt' : ¬ (k : Int) < (N : Int) := by omega
      have htk : es.take k = es := List.take_of_length_le (by omega)
      rw [htk] at hI
      have hpc := hI.pcs
      rw [hus] at hpc
      have hcp : k ≤ cp := by
        rcases hI.own.own.2 with ⟨e, e2⟩ | ⟨g, cap, cur, e, _, _, h3, _⟩
        · omega
        · simp only [Value.slice.injEq, true_and] at e
          rw [e.2, ← hus]; exact h3
      have HI := hide (And.intro hpc (And.intro hI.own.fr (And.intro hcp hkN)))
      clear hI hpc hkN htk hcp
      go_wp2_with fail
      go_ret
      obtain ⟨h1, h2, h4, h3⟩ := unhide HI
      subst h3
      exact ⟨ao, cp, rfl, us, h1, h2, h4, unhide HU⟩
end Go.Proofs.YthccbfgjekdiiaaDoor

namespace Go.Proofs.YthccbfgjekdiiaaDoor
open Go.RowKit

/-- A hash grown by nine, and the last of them written. -/
theorem OL.pastS {w wr : World} {ao : Option Addr} {cp : Nat} {vs : List Value} {ps : List (List Nat)} (h : OL w wr ao cp vs ps) (i n c : Nat) (S : Nat → Prop) (bo : Option Addr) (p : List Nat) (hv : vs[i]? = some (.slice bo n c)) (hp : ps[i]? = some p) (hn : p.length = n) (hnb : n ≤ 1000000) (hH : ∀ v ∈ vs, ∀ g, v.ownBlock = some g → S g) :
    ∃ g cap' w2, (Builtin.append_ #[25, 25] 25 #[.slice bo n c, .slice (some ⟨wr.heap.size, 0, none⟩) 9 9]).run Tryd.prog (wr.alloc (.cells lit9 5)) = .ok (.slice (some ⟨g, 0, none⟩) (n + 9) cap') w2 ∧ (∃ u, w2.cell? ⟨g, n + 8, none⟩ = some u) ∧ w2.frozen? ⟨g, n + 8, none⟩ = false ∧
      OL w (w2.setCell ⟨g, n + 8, none⟩ (.int .u8 97)) ao cp vs ps ∧ Fr (fun k => S k) wr (w2.setCell ⟨g, n + 8, none⟩ (.int .u8 97)) := by
  subst hn
  obtain ⟨bo', c', e, hO⟩ := h.row i _ p hv hp
  simp only [Value.slice.injEq, true_and] at e
  obtain ⟨rfl, rfl⟩ := e
  obtain ⟨i0, hi, hz0, hz1, hz2⟩ := info_parts Tryd.infoU8
  have hFa : Fr (fun _ => False) wr (wr.alloc (.cells lit9 5)) := (Fr.refl _ _).alloc _
  have hOa : (wr.alloc (.cells lit9 5)).ownsRow w.heap.size 5 1 (.slice bo p.length c) p.length (cellsOf p) := hO.fr0 hFa
  have hbo : ∀ q, (Value.slice bo p.length c).ownBlock = some q → S q ∧ w.heap.size ≤ q ∧ q < wr.heap.size := fun q hq => ⟨hH _ (List.mem_of_getElem? hv) q hq, (World.ownsRow.lt hO q hq).1, (World.ownsRow.lt hO q hq).2⟩
  obtain ⟨g, cap', w2, hr, hown, hg, hat⟩ := app_past (wr.alloc (.cells lit9 5)) w.heap.size 25 5 p.length c 9 i0 (.int .u8 0) 1 Tryd.underlying25 hi hz0 hz1 hz2 rfl bo (cellsOf p) hOa wr.heap.size 9 lit9.toList rfl (fun j u hu => by
    rw [World.cell?_alloc_at _ _ _ _ rfl]; simpa using hu) (fun u hu => by simp [lit9] at hu; subst hu; rfl) (by decide) (by omega) (by omega) (by have := h.own.fr.size; simp; omega)
  have hsz : w.heap.size ≤ wr.heap.size := h.own.fr.size
  have hcell : w2.cell? ⟨g, p.length + 8, none⟩ = _ := hown.cellAt (p.length + 8) (by omega)
  obtain ⟨u, hu⟩ : ∃ u, (cellsOf p ++ lit9.toList)[p.length + 8]? = some u := ⟨_, List.getElem?_eq_getElem (by rw [List.length_append, cellsOf_length]; simp [lit9])⟩
  have hst := (World.ownsRow.stored hown (p.length + 8) (.int .u8 97)).1
  have hgl : g < w2.heap.size := (hown.lt g rfl).2
  have hgb : w.heap.size ≤ g := (hown.lt g rfl).1
  have hF2 : Fr (fun k => (Value.slice bo p.length c).ownBlock = some k) wr w2 := ((Fr.refl _ _).alloc _).grown hg (fun q hq => .inl hq)
  refine ⟨g, cap', w2, hr, ⟨u, hcell.trans hu⟩, hown.frozenAt _, ?_, ?_⟩
  · rcases hat with ⟨rfl, rfl⟩ | ⟨hgn, hbl⟩
    · have hne : ∀ q, (Value.slice ao vs.length cp).ownBlock = some q → q ≠ g := fun q hq e => own_ne h.own.own hO q hq (by rw [e]; rfl)
      have hkeep : ∀ q, q < wr.heap.size → q ≠ g → (w2.setCell ⟨g, p.length + 8, none⟩ (.int .u8 97)).heap[q]? = wr.heap[q]? := fun q hq hqg => by
        rw [heap_setCell_other _ _ _ _ hqg]
        exact hF2.block q hq (fun e => hqg (by simp only [Value.ownBlock, Option.some.injEq] at e; exact e.symm))
      refine ⟨⟨ownsRow_of_block h.own.own (fun q hq => hkeep q (h.own.own.lt q hq).2 (hne q hq)), ?_⟩, h.len, fun j v p' hv' hp' => ?_, h.apart, h.byt⟩
      · exact (h.own.fr.trans hF2 (fun k hk e => by have := (hbo k e).2.1; omega)).setCell (.inr hgb) _
      · by_cases hji : j = i
        · subst hji
          rw [hv] at hv'
          rw [hp] at hp'
          cases hv'
          cases hp'
          refine ⟨_, _, rfl, ?_⟩
          have := own_pre hst (n := p.length) (by omega)
          have e2 : ((cellsOf p ++ lit9.toList).set (p.length + 8) (.int .u8 97)).take p.length = cellsOf p := by
            rw [List.set_append_right _ _ (by rw [cellsOf_length]; omega), List.take_left' (cellsOf_length p)]
          rw [e2] at this
          exact this
        · obtain ⟨bo2, c2, e, hO2⟩ := h.row j v p' hv' hp'
          exact ⟨bo2, c2, e, ownsRow_of_block hO2 (fun q hq => hkeep q (World.ownsRow.lt hO2 q hq).2 (h.apart j i v _ q g hji hv' hv (by rw [e]; exact hq) rfl))⟩
    · have hge : wr.heap.size ≤ g := by rw [hgn]; simp
      refine h.blocks ((h.own.fr.trans hF2 (fun k hk e => by have := (hbo k e).2.1; omega)).setCell (.inr hgb) _) (fun q hq => ?_)
      rw [heap_setCell_other _ _ _ _ (by simp only; omega), hbl q (by simp; omega)]
      exact Below.heap_alloc _ _ _ hq
  · have hF3 : Fr (fun k => S k) wr w2 := hF2.mono (fun q _ e => (hbo q e).1)
    refine hF3.setCell ?_ _
    rcases hat with ⟨rfl, rfl⟩ | ⟨hgn, hbl⟩
    · exact .inl (hbo g rfl).1
    · right
      show wr.heap.size ≤ g
      rw [hgn]; simp
/-- The list grown by five, and the last of them written. -/
theorem OL.past2S {w wr : World} {ao : Option Addr} {cp : Nat} {vs : List Value} {ps : List (List Nat)} (h : OL w wr ao cp vs ps) (S : Nat → Prop) (N : Nat) (hN : vs.length = N) (hnb : N ≤ 16000000) (hH : ∀ g, (Value.slice ao vs.length cp).ownBlock = some g → S g) :
    ∃ g cap' w2, (Builtin.append_ #[22, 22] 22 #[.slice ao N cp, .slice (some ⟨wr.heap.size, 0, none⟩) 5 5]).run Tryd.prog (wr.alloc (.cells lit5 25)) = .ok (.slice (some ⟨g, 0, none⟩) (N + 5) cap') w2 ∧ (∃ u, w2.cell? ⟨g, N + 4, none⟩ = some u) ∧ w2.frozen? ⟨g, N + 4, none⟩ = false ∧ g < w2.heap.size ∧
      ∀ o za zn zc, OL w ((w2.alloc o).setCell ⟨g, N + 4, none⟩ (.slice za zn zc)) ao cp vs ps ∧ Fr (fun k => S k) wr ((w2.alloc o).setCell ⟨g, N + 4, none⟩ (.slice za zn zc)) := by
  subst hN
  obtain ⟨i0, hi, hz0, hz1, hz2⟩ := info_parts Tryd.infoSl
  have hFa : Fr (fun _ => False) wr (wr.alloc (.cells lit5 25)) := (Fr.refl _ _).alloc _
  have hOa := (h.fr0 hFa).own.own
  have hbo : ∀ q, (Value.slice ao vs.length cp).ownBlock = some q → S q ∧ w.heap.size ≤ q ∧ q < wr.heap.size := fun q hq => ⟨hH q hq, (h.own.own.lt q hq).1, (h.own.own.lt q hq).2⟩
  obtain ⟨g, cap', w2, hr, hown, hg, hat⟩ := app_past (wr.alloc (.cells lit5 25)) w.heap.size 22 25 vs.length cp 5 i0 (.slice none 0 0) 24 Tryd.underlying22 hi hz0 hz1 hz2 rfl ao vs hOa wr.heap.size 5 lit5.toList rfl (fun j u hu => by
    rw [World.cell?_alloc_at _ _ _ _ rfl]; simpa using hu) (fun u hu => by simp [lit5] at hu; subst hu; rfl) (by decide) (by omega) (by omega) (by have := h.own.fr.size; simp; omega)
  have hsz : w.heap.size ≤ wr.heap.size := h.own.fr.size
  have hcell : w2.cell? ⟨g, vs.length + 4, none⟩ = _ := hown.cellAt (vs.length + 4) (by omega)
  obtain ⟨u, hu⟩ : ∃ u, (vs ++ lit5.toList)[vs.length + 4]? = some u := ⟨_, List.getElem?_eq_getElem (by rw [List.length_append]; simp [lit5])⟩
  have hgl : g < w2.heap.size := (hown.lt g rfl).2
  have hgb : w.heap.size ≤ g := (hown.lt g rfl).1
  have hF2 : Fr (fun k => (Value.slice ao vs.length cp).ownBlock = some k) wr w2 := ((Fr.refl _ _).alloc _).grown hg (fun q hq => .inl hq)
  refine ⟨g, cap', w2, hr, ⟨u, hcell.trans hu⟩, hown.frozenAt _, hgl, fun o za zn zc => ⟨?_, ?_⟩⟩
  · have hst := (World.ownsRow.stored (hown.alloc o) (vs.length + 4) (.slice za zn zc)).1
    have hF2o := hF2.alloc o
    rcases hat with ⟨rfl, rfl⟩ | ⟨hgn, hbl⟩
    · have hkeep : ∀ q, q < wr.heap.size → q ≠ g → ((w2.alloc o).setCell ⟨g, vs.length + 4, none⟩ (.slice za zn zc)).heap[q]? = wr.heap[q]? := fun q hq hqg => by
        rw [heap_setCell_other _ _ _ _ hqg]
        exact hF2o.block q hq (fun e => hqg (by simp only [Value.ownBlock, Option.some.injEq] at e; exact e.symm))
      refine ⟨⟨?_, (h.own.fr.trans hF2o (fun k hk e => by have := (hbo k e).2.1; omega)).setCell (.inr hgb) _⟩, h.len, fun j v p' hv' hp' => ?_, h.apart, h.byt⟩
      · have := own_pre hst (n := vs.length) (by omega)
        have e2 : ((vs ++ lit5.toList).set (vs.length + 4) (.slice za zn zc)).take vs.length = vs := by
          rw [List.set_append_right _ _ (by omega), List.take_left' rfl]
        rw [e2] at this
        exact this
      · obtain ⟨bo2, c2, e, hO2⟩ := h.row j v p' hv' hp'
        exact ⟨bo2, c2, e, ownsRow_of_block hO2 (fun q hq => hkeep q (World.ownsRow.lt hO2 q hq).2 (fun e2 => own_ne h.own.own hO2 g rfl (by rw [← e2]; exact hq)))⟩
    · have hge : wr.heap.size ≤ g := by rw [hgn]; simp
      refine h.blocks ((h.own.fr.trans hF2o (fun k hk e => by have := (hbo k e).2.1; omega)).setCell (.inr hgb) _) (fun q hq => ?_)
      have hw2 := hg.size
      rw [heap_setCell_other _ _ _ _ (by simp only; omega), Below.heap_alloc _ _ _ (by simp at hw2; omega), hbl q (by simp; omega)]
      exact Below.heap_alloc _ _ _ hq
  · have hF3 : Fr (fun k => S k) wr (w2.alloc o) := (hF2.mono (fun q _ e => (hbo q e).1)).alloc o
    refine hF3.setCell ?_ _
    rcases hat with ⟨rfl, rfl⟩ | ⟨hgn, hbl⟩
    · exact .inl (hbo g rfl).1
    · right
      show wr.heap.size ≤ g
      rw [hgn]; simp
set_option maxRecDepth 100000 in
set_option maxHeartbeats 1000000 in
theorem spoil_anyS {w wr : World} {ao : Option Addr} {cp : Nat} {vs : List Value} {ps : List (List Nat)} (h : OL w wr ao cp vs ps) (S : Nat → Prop) (hB : ∀ p ∈ ps, p.length ≤ 1000) (hn : vs.length ≤ 8000000) (hH : ∀ v ∈ vs, ∀ g, v.ownBlock = some g → S g) (hH2 : ∀ g, (Value.slice ao vs.length cp).ownBlock = some g → S g) :
    Calls Tryd.prog 71 #[.slice ao vs.length cp] wr fun e w' => e = .returned (.tuple #[]) ∧ ∃ qs, OL w w' ao cp vs qs ∧ Mkd qs vs.length ∧ Fr (fun k => S k) wr w' := by
  have HG := hide (And.intro h (And.intro hB (And.intro hn (And.intro hH hH2))))
  clear h hB hn hH hH2
  generalize hN : vs.length = N at *
  go_enter Tryd.func71, Tryd.ntmps71
  go_wp2_with fail
  go_loopw [2] (fun iv wq => ∃ (k : Nat) (qs : List (List Nat)), k ≤ N ∧ iv = .int .i64 (k : Nat) ∧ OL w wq ao cp vs qs ∧ (∀ p ∈ qs, p.length ≤ 1000) ∧ Mkd qs k ∧ Fr (fun k => S k) wr wq) (fun iv _ => N - (intOf iv).toNat)
  case atStart => exact ⟨0, ps, Nat.zero_le _, rfl, (unhide HG).1, (unhide HG).2.1, fun i q hi => by omega, Fr.refl _ _⟩
  case round =>
    obtain ⟨k, qs, hk, rfl, hO, hB, hM, hF⟩ := hrel
    rename World => wq
    have hN8 := (unhide HG).2.2.1
    have hql : qs.length = N := by rw [← hO.len, hN]
    by_cases hlt : k < N
    · have hlt' : (k : Int) < (N : Int) := by omega
      have hkq : k < qs.length := by omega
      obtain ⟨V, hV⟩ : ∃ V, (99 + k) % 256 = V := ⟨_, rfl⟩
      have hV256 : V < 256 := by omega
      have r1 : IntKind.i64.wrap (99 + (k : Int)) = 99 + (k : Int) := by rw [IntKind.wrap_i64]; omega
      have r2 : IntKind.u8.wrap (99 + (k : Int)) = (V : Int) := by rw [IntKind.wrap_u8]; omega
      have hqb := hB qs[k] (List.getElem_mem hkq)
      obtain ⟨L, hL⟩ : ∃ L, qs[k].length = L := ⟨_, rfl⟩
      have HI := hide (And.intro hO (And.intro hB (And.intro hM (And.intro hF (And.intro hL hV)))))
      clear hO hB hM hF hV
      go_wp2_with fail
      go_loopw [3] (fun jv wz => ∃ (j : Nat) (r : List Nat), j ≤ L ∧ jv = .int .i64 (j : Nat) ∧ r.length = L ∧ (∀ t u, t < j → r[t]? = some u → u = V) ∧ OL w wz ao cp vs (qs.set k r) ∧ Fr (fun k => S k) wr wz) (fun jv _ => L - (intOf jv).toNat)
      case atStart => exact ⟨0, qs[k], Nat.zero_le _, rfl, hL, fun t u ht => by omega, by rw [List.set_getElem_self]; exact (unhide HI).1, (unhide HI).2.2.2.1⟩
      case round =>
        obtain ⟨j, r, hj, rfl, hrl, hrm, hO, hF⟩ := hrel
        rename World => wz
        obtain ⟨g, o, bo, c, rfl, -, hv, hcell, hOw⟩ := hO.at_ k (by rw [List.length_set]; exact hkq)
        simp only [List.getElem_set_self] at hv hcell hOw
        rw [hrl] at hv hcell
        by_cases hjl : j < L
        · have hjl' : (j : Int) < (L : Int) := by omega
          obtain ⟨gb, rfl⟩ : ∃ gb, bo = some ⟨gb, 0, none⟩ := by
            rcases hOw.2 with ⟨_, e⟩ | ⟨g', cap, cur, e, _⟩
            · omega
            · simp only [Value.slice.injEq] at e
              exact ⟨g', e.1⟩
          have hrb : ∀ v ∈ r, v < 256 := hO.byt r (List.mem_of_getElem? (List.getElem?_set_self hkq))
          have hcb := hOw.cell j (by omega) hrb
          have hfz := hOw.fz j
          have hO2 := hO.setB k j gb c V r (by rw [hrl]; exact hv) (List.getElem?_set_self hkq) hV256
          rw [List.set_set] at hO2
          have hgH : S gb := (unhide HG).2.2.2.1 _ (List.mem_of_getElem? hv) gb rfl
          have hF2 := hF.setCell (p := ⟨gb, j, none⟩) (.inl hgH) (.int .u8 (V : Int))
          have hr2 : (r.set j V).length = L := by rw [List.length_set]; exact hrl
          have hrm2 : ∀ t u, t < j + 1 → (r.set j V)[t]? = some u → u = V := fun t u ht hu => by
            by_cases e : j = t
            · subst e
              rw [List.getElem?_set_self (by omega)] at hu
              exact (Option.some.inj hu).symm
            · rw [List.getElem?_set_ne e] at hu
              exact hrm t u (by omega) hu
          have HN := hide (And.intro hO2 (And.intro hF2 (And.intro hr2 hrm2)))
          clear hO2 hF2 hr2 hrm2 hO hF hOw hrm hrb hgH
          have w3 : IntKind.i64.wrap ((j : Int) + 1) = (j : Int) + 1 := by rw [IntKind.wrap_i64]; omega
          go_wp2_with fail
          exact ⟨⟨j + 1, r.set j V, by omega, by go_num, (unhide HN).2.2.1, (unhide HN).2.2.2, (unhide HN).1, (unhide HN).2.1⟩, by simp [intOf]; omega⟩
        · have hjL : j = L := by omega
          have hjl' : ¬ (j : Int) < (L : Int) := by omega
          obtain ⟨g9, cap9, w9, hr9, ⟨u9, hu9⟩, hz9, hO9, hF9⟩ := hO.pastS k L c S bo r hv (List.getElem?_set_self hkq) hrl (by omega) (unhide HG).2.2.2.1
          have hF9' := hF.trans hF9 (fun _ _ h => h)
          have hB9 : ∀ p ∈ qs.set k r, p.length ≤ 1000 := fun p hp => by
            rcases List.mem_or_eq_of_mem_set hp with h1 | h1
            · exact (unhide HI).2.1 p h1
            · subst h1; omega
          have hM9 : Mkd (qs.set k r) (k + 1) := fun i q hi hq u hu => by
            by_cases e : k = i
            · subst e
              rw [List.getElem?_set_self hkq] at hq
              cases hq
              obtain ⟨t, ht, rfl⟩ := List.getElem_of_mem hu
              rw [(unhide HI).2.2.2.2.2]
              exact hrm t _ (by omega) (List.getElem?_eq_getElem ht)
            · rw [List.getElem?_set_ne e] at hq
              exact (unhide HI).2.2.1 i q (by omega) hq u hu
          have HN := hide (And.intro hO9 (And.intro hF9' (And.intro hB9 hM9)))
          have HR9 := hide hr9
          clear hO9 hF9 hF9' hB9 hM9 hO hF hOw hrm hr9 hjL
          have w3 : IntKind.i64.wrap ((k : Int) + 1) = (k : Int) + 1 := by rw [IntKind.wrap_i64]; omega
          have w4 : IntKind.i64.wrap ((L : Int) + 9 - 1) = (L : Int) + 8 := by rw [IntKind.wrap_i64]; omega
          go_wp2_with (at_builtin; refine wpList_app rfl (.tmp 33) (.tmp 34) 25 25 rfl _ _ _ rfl rfl (unhide HR9) ?_)
          exact ⟨⟨k + 1, qs.set k r, by omega, by go_num, (unhide HN).1, (unhide HN).2.2.1, (unhide HN).2.2.2, (unhide HN).2.1⟩, by simp [intOf]; omega⟩
    · have hkN : k = N := by omega
      have hlt' : ¬ (k : Int) < (N : Int) := by omega
      obtain ⟨g9, cap9, w9, hr9, ⟨u9, hu9⟩, hz9, hg9, hO9⟩ := hO.past2S S N hN (by omega) (by rw [hN]; exact (unhide HG).2.2.2.2)
      have h10 := hO9 (.cells #[.int .u8 1] 5) (some ⟨w9.heap.size, 0, none⟩) 1 1
      have e10 : (w9.alloc (.cells #[.int .u8 1] 5)).setCell ⟨g9, N + 4, none⟩ (.slice (some ⟨w9.heap.size, 0, none⟩) 1 1) = (w9.setCell ⟨g9, N + 4, none⟩ (.slice (some ⟨w9.heap.size, 0, none⟩) 1 1)).alloc (.cells #[.int .u8 1] 5) := by simp [hg9, go_sem]
      rw [e10] at h10
      clear e10
      have hF10 := hF.trans h10.2 (fun _ _ h => h)
      have HN := hide (And.intro h10.1 (And.intro hF10 (And.intro hM hkN)))
      have HR9 := hide hr9
      clear hO9 h10 hF10 hO hF hM hr9 hkN
      have w4 : IntKind.i64.wrap ((N : Int) + 5 - 1) = (N : Int) + 4 := by rw [IntKind.wrap_i64]; omega
      go_wp2_with (at_builtin; refine wpList_app rfl (.tmp 41) (.tmp 42) 22 22 rfl _ _ _ rfl rfl (unhide HR9) ?_)
      go_end0
      exact ⟨rfl, qs, (unhide HN).1, by rw [← (unhide HN).2.2.2]; exact (unhide HN).2.2.1, (unhide HN).2.1⟩
theorem Pcs.frD {w w' : World} {x : Value} {vs : List Value} {ps : List (List Nat)} {S : Nat → Prop} (h : Pcs w x vs ps) (hf : Fr S w w') (hx : ∀ g o n c, x = .slice (some ⟨g, o, none⟩) n c → ¬ S g) (hv : ∀ u ∈ vs, ∀ g o n c, u = .slice (some ⟨g, o, none⟩) n c → ¬ S g) : Pcs w' x vs ps := by
  refine ⟨h.len, ?_, fun j v p hj hp => ?_, h.byt⟩
  · rcases h.at_ with h0 | h0 | ⟨g, o, c, e, h1, h2⟩
    · exact .inl h0
    · exact .inr (.inl h0)
    · exact .inr (.inr ⟨g, o, c, e, Nat.lt_of_lt_of_le h1 hf.size, fun j v hj => (hf.cell (p := ⟨g, o + j, none⟩) h1 (hx g o _ c e)).trans (h2 j v hj)⟩)
  · obtain ⟨q1, q2, q3⟩ := h.src j v p hj hp
    exact ⟨q1.frD hf (.inr (fun g o n c e => hv v (List.mem_of_getElem? hj) g o n c e)), q2, q3.imp id (fun hh g o n c e => Nat.lt_of_lt_of_le (hh g o n c e) hf.size)⟩
end Go.Proofs.YthccbfgjekdiiaaDoor

namespace Go.Proofs.YthccbfgjekdiiaaDoor
open Go.RowKit

set_option maxRecDepth 100000 in
set_option maxHeartbeats 1000000 in
/-- held, of what lies apart. -/
theorem held_S {w2 w4 : World} {ao : Option Addr} {cp : Nat} {vs us ts : List Value} {ps : List (List Nat)} {y z : Value} (S : Nat → Prop) (ha : OL w2 w4 ao cp vs ps) (hb : Pcs w4 y us ps) (hz : Pcs w4 z ts ps) (c : Int) (hB : ∀ p ∈ ps, p.length ≤ 1000) (hn : ps.length ≤ 8000000)
    (hS1 : ∀ v ∈ vs, ∀ g, v.ownBlock = some g → S g) (hS2 : ∀ g, (Value.slice ao vs.length cp).ownBlock = some g → S g)
    (hy : ∀ g o n c, y = .slice (some ⟨g, o, none⟩) n c → ¬ S g) (hyu : ∀ u ∈ us, ∀ g o n c, u = .slice (some ⟨g, o, none⟩) n c → ¬ S g)
    (hzz : ∀ g o n c, z = .slice (some ⟨g, o, none⟩) n c → ¬ S g) (hzu : ∀ u ∈ ts, ∀ g o n c, u = .slice (some ⟨g, o, none⟩) n c → ¬ S g) :
    Calls Tryd.prog 42 #[.slice ao vs.length cp, .int .i64 c, y, .int .i64 c, z, .int .i64 c] w4 fun e w' => e = .returned (.bool true) ∧ Fr (fun _ => False) w2 w' := by
  have hB2 : ∀ p ∈ ps, p.length ≤ 1000000 := fun p hp => by have := hB p hp; omega
  have h1 := fun w' (hf : Fr (fun _ => False) w4 w') => msame_T _ _ vs ts ps w' (ha.fr0 hf).pcs (hz.fr0 hf) hB2 (by omega)
  have h2 := fun w' (hf : Fr (fun _ => False) w4 w') => msame_T _ _ us ts ps w' (hb.fr0 hf) (hz.fr0 hf) hB2 (by omega)
  have hsp := fun w' (hf : Fr (fun _ => False) w4 w') => spoil_anyS (ha.fr0 hf) S hB (by rw [ha.len]; exact hn) hS1 hS2
  have hap : ∀ w' qs, OL w2 w' ao cp vs qs → Mkd qs vs.length → Calls Tryd.prog 72 #[.slice ao vs.length cp] w' fun e w'' => e = .returned (.bool true) ∧ w'' = w' := fun w' qs hq hm => by
    refine apart_T _ vs qs w' hq.pcs (by rw [← hq.len]; exact hm) (fun q hqm => ?_) (by rw [← hq.len, ha.len]; omega)
    obtain ⟨j, hj, rfl⟩ := List.getElem_of_mem hqm
    have hjv : j < vs.length := by rw [hq.len]; exact hj
    have hjp : j < ps.length := by rw [← ha.len]; exact hjv
    obtain ⟨b1, c1, e1, _⟩ := hq.row j vs[j] qs[j] (List.getElem?_eq_getElem hjv) (List.getElem?_eq_getElem hj)
    obtain ⟨b2, c2, e2, _⟩ := ha.row j vs[j] ps[j] (List.getElem?_eq_getElem hjv) (List.getElem?_eq_getElem hjp)
    rw [e1] at e2
    simp only [Value.slice.injEq] at e2
    rw [e2.2.1]
    exact hB2 _ (List.getElem_mem _)
  have h3 := fun w' w'' (hf : Fr (fun _ => False) w4 w') (hf2 : Fr S w' w'') => msame_T _ _ us ts ps w'' ((hb.fr0 hf).frD hf2 hy hyu) ((hz.fr0 hf).frD hf2 hzz hzu) hB2 (by omega)
  have HC := hide (And.intro h1 (And.intro h2 (And.intro hsp (And.intro hap h3))))
  obtain ⟨zo, zc, rfl⟩ := hz.form
  obtain ⟨yo, yc, rfl⟩ := hb.form
  clear h1 h2 hsp hap h3 hB2 hB hn ha hb hz hy hyu hzz hzu hS1 hS2
  generalize vs.length = VL at *
  generalize us.length = UL at *
  generalize ps.length = PL at *
  go_enter Tryd.func42, Tryd.ntmps42
  go_wp2_with fail
  refine ((unhide HC).1 w4 (Fr.refl _ _)).mono ?_
  rintro e w5 ⟨rfl, hF⟩
  have H5 := hide hF
  clear hF
  go_wp2_with fail
  refine ((unhide HC).2.1 w5 (unhide H5)).mono ?_
  rintro e w6 ⟨rfl, hF⟩
  have H6 := hide ((unhide H5).trans hF (fun _ _ h => h))
  clear hF
  go_wp2_with fail
  refine ((unhide HC).2.2.1 w6 (unhide H6)).mono ?_
  rintro e w7 ⟨rfl, qs, hq, hm, hF⟩
  have H7 := hide (And.intro hq (And.intro hm hF))
  clear hq hm hF
  go_wp2_with fail
  refine ((unhide HC).2.2.2.1 w7 qs (unhide H7).1 (unhide H7).2.1).mono ?_
  rintro e w8 ⟨rfl, rfl⟩
  go_wp2_with fail
  refine ((unhide HC).2.2.2.2 w6 w8 (unhide H6) (unhide H7).2.2).mono ?_
  rintro e w9 ⟨rfl, hF⟩
  have H9 := hide ((unhide H7).1.own.fr.trans hF (fun _ _ h => h))
  clear hF
  go_wp2_with fail
  go_ret
  exact ⟨rfl, unhide H9⟩
end Go.Proofs.YthccbfgjekdiiaaDoor

namespace Go.Proofs.YthccbfgjekdiiaaDoor
open Go.RowKit

set_option maxRecDepth 100000 in
/-- The ref's Root. -/
theorem grootN_any (i : Int) (x : Value) (vs : List Value) (es : List (List Nat)) (w : World) (hr : GR w) (hp : Pcs w x vs es) (hB : ∀ e ∈ es, e.length ≤ 4000000) (hn : es.length ≤ 8000000) (h1 : 1 ≤ i) (h2 : i ≤ 32) :
    Calls Tryd.prog 44 #[.int .i64 i, x] w fun e w' => ∃ yo yc, e = .returned (.slice yo (mth i (es.map (lf i))).length yc) ∧ Sl w' (.slice yo (mth i (es.map (lf i))).length yc) (mth i (es.map (lf i))) ∧ Fr (fun _ => False) w w' ∧ Bk (.slice yo (mth i (es.map (lf i))).length yc) (fun g => w.heap.size ≤ g) := by
  have hl : (es.map (lf i)).length = es.length := List.length_map _
  have hB2 : ∀ p ∈ es.map (lf i), p.length ≤ 4000000 := fun p hp => by
    obtain ⟨e, _, rfl⟩ := List.mem_map.1 hp
    exact Nat.le_trans (sm32 i _) (by decide)
  have hof : ∀ x vs w', GR w' → Pcs w' x vs (es.map (lf i)) → Cp x → (∀ u ∈ vs, Bk u (fun g => w.heap.size ≤ g)) → OfP (fun g => w.heap.size ≤ g) i (es.map (lf i)) x w' := fun x vs w' h3 h4 h5 h6 => ofP_any _ i _ x vs w' (by omega) h3 h4 h5 hB2 h6
  have hlv := gleavesN_any i x vs es w hr hp hB hn
  unfold OfP at hof
  obtain ⟨xo, xc, rfl⟩ := hp.form
  have HG := hide (And.intro hr (And.intro hof hlv))
  clear hr hp hB hn hof hlv hB2 hl
  generalize es.map (lf i) = LS at *
  generalize mth i LS = R at *
  generalize es.length = N at *
  go_enter Tryd.func44, Tryd.ntmps44
  go_wp2_with fail
  refine (may_yes i w h1 h2).mono ?_
  rintro e w0 ⟨rfl, rfl⟩
  go_wp2_with fail
  refine (unhide HG).2.2.mono ?_
  rintro e w1 ⟨ao, cp, us, rfl, hP, hF, hcp, hub⟩
  have hc : Cp (.slice ao N cp) := fun _ _ _ e => by cases e; exact hcp
  clear hcp
  have H1 := hide (And.intro hP (And.intro hF (And.intro hc hub)))
  clear hP hF hc hub
  go_wp2_with fail
  refine ((unhide HG).2.1 _ us w1 ((unhide HG).1.fr0 (unhide H1).2.1) (unhide H1).1 (unhide H1).2.2.1 (unhide H1).2.2.2).mono ?_
  rintro e w2 ⟨yo, yc, rfl, hS, hF, hK⟩
  have hK2 : Bk (.slice yo R.length yc) (fun g => w0.heap.size ≤ g) := fun g o n c e => by
    rcases hK g o n c e with h | h
    · exact h
    · exact Nat.le_trans (unhide H1).2.1.size h
  have H2 := hide (And.intro hS (And.intro ((unhide H1).2.1.trans hF (fun _ _ h => h)) hK2))
  clear hS hF hK hK2
  go_wp2_with fail
  go_ret
  exact ⟨yo, yc, rfl, (unhide H2).1, (unhide H2).2.1, (unhide H2).2.2⟩
set_option maxRecDepth 100000 in
set_option maxHeartbeats 1000000 in
theorem grow_r_in (wi K dg : Nat) (hw1 : 1 ≤ wi) (hw32 : wi ≤ 32) (I : Int) (tb eb : Nat) (dc : Nat) (us : List Value) (es : List (List Nat)) (w0 w : World) (h : TS w0 w wi tb eb (some ⟨dg, 0, none⟩) dc us es) (hK : K ≤ es.length) (eo po : Option Addr) (EN ec PN pc : Nat) :
    Calls Tryd.prog 16 #[.int .i64 wi, .pointer (some ⟨tb, 0, none⟩), .pointer (some ⟨eb, 0, none⟩), .agg #[.int .i64 3, .int .i64 I, .int .i64 K, .slice eo EN ec, .slice po PN pc]] w fun e w' => e = .returned (.bool true) ∧ Fr (fun _ => False) w w' := by
  have hnum := h.num
  have hcap := h.cap
  have hF1 : Fr (fun _ => False) w (w.alloc (.cells #[.int .i64 3, .int .i64 I, .int .i64 K, .slice eo EN ec, .slice po PN pc] 43)) := (Fr.refl _ _).alloc _
  have hbx : (w.alloc (.cells #[.int .i64 3, .int .i64 I, .int .i64 K, .slice eo EN ec, .slice po PN pc] 43)).cell? ⟨eb, 0, none⟩ = some (.slice (some ⟨dg, 0, none⟩) es.length dc) := (h.fr0 hF1).box
  have hmay := fun w' => may_yes wi w' (by omega) (by omega)
  have hlm : (es.map (lf (wi : Int))).length = es.length := List.length_map _
  have hget := fun w' (hf : Fr (fun _ => False) w w') => troot_in tb wi hw1 hw32 _ K w' ((h.fr0 hf).tk hw1 hw32) (by omega)
  have hML : blk (es.map (lf (wi : Int))) 0 K = (es.take K).map (lf wi) := by rw [blk, List.drop_zero, List.map_take]
  rw [hML] at hget
  have hwant := fun w' (hf : Fr (fun _ => False) w w') => grootN_any wi (.slice (some ⟨dg, 0, none⟩) K dc) (us.take K) (es.take K) w' (h.gr.fr0 hf) ((h.fr0 hf).pcs.take K hK) (fun e he => h.len e (List.mem_of_mem_take he)) (by rw [List.length_take]; omega) (by omega) (by omega)
  have hMl : (mth (wi : Int) ((es.take K).map (lf wi))).length = wi := mth_wid wi hw1 hw32 _ (map_lf_len wi hw1 hw32 _)
  have hMb : ∀ v ∈ mth (wi : Int) ((es.take K).map (lf wi)), v < 256 := mth_lt _ _ _ (Nat.le_refl _) (fun p hp => by
    obtain ⟨e, _, rfl⟩ := List.mem_map.1 hp
    exact lf_lt _ _)
  rw [hMl] at hwant
  generalize mth (wi : Int) ((es.take K).map (lf wi)) = M at *
  have HC := hide (And.intro hmay (And.intro hget (And.intro hwant (And.intro hMl hMb))))
  clear hmay hget hwant hMl hMb hML hlm
  have q0 : (0 : Int) ≤ (K : Int) := by omega
  have q1 : (K : Int) ≤ (es.length : Int) := by omega
  have q2 : (K : Int) ≤ (dc : Int) := by omega
  clear h
  generalize es.length = N at *
  go_enter Tryd.func16, Tryd.ntmps16
  go_wp2_with fail
  refine ((unhide HC).1 _).mono ?_
  rintro e wA ⟨rfl, rfl⟩
  go_wp2_with fail
  refine ((unhide HC).2.1 _ hF1).mono ?_
  rintro e w1 ⟨ao, ac, rfl, hO1⟩
  have H1 := hide (And.intro hO1 (hF1.trans hO1.fr (fun _ _ h => h)))
  clear hO1
  go_wp2_with fail
  refine ((unhide HC).2.1 _ (unhide H1).2).mono ?_
  rintro e w2 ⟨bo, bc, rfl, hO2⟩
  have H2 := hide (And.intro hO2 ((unhide H1).2.trans hO2.fr (fun _ _ h => h)))
  clear hO2 hbx hF1
  obtain ⟨WA, hWA⟩ : ∃ WA, w2.alloc (.cells #[.slice ao wi ac] 25) = WA := ⟨_, rfl⟩
  obtain ⟨WB, hWB⟩ : ∃ WB, WA.alloc (.cells #[.slice bo wi bc] 25) = WB := ⟨_, rfl⟩
  have hsA : WA.heap.size = w2.heap.size + 1 := by rw [← hWA]; simp
  have hsB : WB.heap.size = w2.heap.size + 2 := by rw [← hWB]; simp [hsA]
  have hF2A : Fr (fun _ => False) w2 WA := by rw [← hWA]; exact (Fr.refl _ _).alloc _
  have hFAB : Fr (fun _ => False) WA WB := by rw [← hWB]; exact (Fr.refl _ _).alloc _
  have hLa := (ol_lit1 ((unhide H1).1.fr0 (unhide H2).1.fr) (unhide HC).2.2.2.2 wi (unhide HC).2.2.2.1 WA hWA).fr0 hFAB
  have hLb := ol_lit1 ((unhide H2).1.fr0 hF2A) (unhide HC).2.2.2.2 wi (unhide HC).2.2.2.1 WB hWB
  rw [hsA] at hLb
  have hwB : Fr (fun _ => False) w WB := (unhide H2).2.trans (hF2A.trans hFAB (fun _ _ h => h)) (fun _ _ h => h)
  have hag : ∀ g, (Value.slice ao wi ac).ownBlock = some g → g < w1.heap.size := fun g hg => (World.ownsRow.lt (unhide H1).1.own g (by rw [(unhide HC).2.2.2.1]; exact hg)).2
  have hbg : ∀ g o n c, (Value.slice bo wi bc) = .slice (some ⟨g, o, none⟩) n c → w1.heap.size ≤ g ∧ g < w2.heap.size := fun g o n c e => World.ownsRow.lt (unhide H2).1.own g (by cases e; rfl)
  have h12 : w1.heap.size ≤ w2.heap.size := (unhide H2).1.fr.size
  have hF01 := (unhide H1).1.fr
  have H3 := hide (And.intro hLa (And.intro hLb (And.intro hwB (And.intro hag (And.intro hbg (And.intro h12 hsB))))))
  clear hLa hLb hwB hag hbg h12 hF2A hFAB hF01
  go_wp2_with fail
  try rw [hWA, hWB]
  refine ((unhide HC).2.2.1 _ (unhide H3).2.2.1).mono ?_
  rintro e w3 ⟨yo, yc, rfl, hS3, hF3, hK3⟩
  obtain ⟨WC, hWC⟩ : ∃ WC, w3.alloc (.cells #[.slice yo wi yc] 25) = WC := ⟨_, rfl⟩
  have hFC : Fr (fun _ => False) w3 WC := by rw [← hWC]; exact (Fr.refl _ _).alloc _
  have hS3' : Sl w3 (.slice yo M.length yc) M := by rw [(unhide HC).2.2.2.1]; exact hS3
  have hLc := (LV.lit (Fr.refl _ w3) hS3' WC (by rw [(unhide HC).2.2.2.1]; exact hWC)).pcs
  rw [(unhide HC).2.2.2.1] at hLc
  have hs3 : WB.heap.size ≤ w3.heap.size := hF3.size
  have hfBC := hF3.trans hFC (fun _ _ h => h)
  have H4 := hide (And.intro ((unhide H3).1.fr0 hfBC) (And.intro ((unhide H3).2.1.fr0 hfBC).pcs (And.intro hLc (And.intro hK3 (And.intro hs3 ((unhide H3).2.2.1.trans hfBC (fun _ _ h => h)))))))
  clear hS3 hF3 hK3 hFC hS3' hLc hs3 hfBC
  go_wp2_with fail
  try rw [hWC]
  refine (held_S (fun g => (Value.slice ao wi ac).ownBlock = some g ∨ g = w2.heap.size) (unhide H4).1 (unhide H4).2.1 (unhide H4).2.2.1 0 (fun p hp => by rw [List.mem_singleton.1 hp, (unhide HC).2.2.2.1]; omega) (by simp) (fun v hv g hg => by rw [List.mem_singleton.1 hv] at hg; exact .inl hg) (fun g hg => .inr (by simp only [Value.ownBlock, Option.some.injEq] at hg; exact hg.symm)) (fun g o n c e hS => ?_) (fun u hu g o n c e hS => ?_) (fun g o n c e hS => ?_) (fun u hu g o n c e hS => ?_)).mono ?_
  · cases e
    rcases hS with hS | hS
    · have := (unhide H3).2.2.2.1 _ hS; have := (unhide H3).2.2.2.2.2.1; omega
    · omega
  · rw [List.mem_singleton.1 hu] at e
    have h1 := (unhide H3).2.2.2.2.1 g o n c e
    rcases hS with hS | hS
    · have := (unhide H3).2.2.2.1 _ hS; omega
    · omega
  · cases e
    have h3 := (unhide H4).2.2.2.2.1
    rcases hS with hS | hS
    · have := (unhide H3).2.2.2.1 _ hS; have := (unhide H3).2.2.2.2.2.1; omega
    · omega
  · rw [List.mem_singleton.1 hu] at e
    have h1 := (unhide H4).2.2.2.1 g o n c e
    rcases hS with hS | hS
    · have := (unhide H3).2.2.2.1 _ hS; have := (unhide H3).2.2.2.2.2.1; omega
    · omega
  rintro e w5 ⟨rfl, hF5⟩
  have H5 := hide (((Fr.refl _ w).alloc _).trans hF5 (fun _ _ h => h))
  clear hF5
  go_wp2_with fail
  go_ret
  exact ⟨rfl, unhide H5⟩
set_option maxRecDepth 100000 in
set_option maxHeartbeats 1000000 in
theorem grow_r_in0 (wi : Nat) (hw1 : 1 ≤ wi) (hw32 : wi ≤ 32) (I : Int) (tb eb : Nat) (us : List Value) (w0 w : World) (h : TS w0 w wi tb eb none 0 us ([] : List (List Nat)))  (eo po : Option Addr) (EN ec PN pc : Nat) :
    Calls Tryd.prog 16 #[.int .i64 wi, .pointer (some ⟨tb, 0, none⟩), .pointer (some ⟨eb, 0, none⟩), .agg #[.int .i64 3, .int .i64 I, .int .i64 0, .slice eo EN ec, .slice po PN pc]] w fun e w' => e = .returned (.bool true) ∧ Fr (fun _ => False) w w' := by
  have hnum := h.num
  have hcap := h.cap
  have hF1 : Fr (fun _ => False) w (w.alloc (.cells #[.int .i64 3, .int .i64 I, .int .i64 0, .slice eo EN ec, .slice po PN pc] 43)) := (Fr.refl _ _).alloc _
  have hbx : (w.alloc (.cells #[.int .i64 3, .int .i64 I, .int .i64 0, .slice eo EN ec, .slice po PN pc] 43)).cell? ⟨eb, 0, none⟩ = some (.slice none 0 0) := (h.fr0 hF1).box
  have hmay := fun w' => may_yes wi w' (by omega) (by omega)
  have hlm : (([] : List (List Nat)).map (lf (wi : Int))).length = 0 := List.length_map _
  have hget := fun w' (hf : Fr (fun _ => False) w w') => troot_in tb wi hw1 hw32 _ 0 w' ((h.fr0 hf).tk hw1 hw32) (by simp)
  have hML : blk (([] : List (List Nat)).map (lf (wi : Int))) 0 0 = ([] : List (List Nat)).map (lf wi) := rfl
  rw [hML] at hget
  have hwant := fun w' (hf : Fr (fun _ => False) w w') => grootN_any wi (.slice none 0 0) [] ([] : List (List Nat)) w' (h.gr.fr0 hf) (pcs_nil _) (fun _ he => by cases he) (by simp) (by omega) (by omega)
  have hMl : (mth (wi : Int) (([] : List (List Nat)).map (lf wi))).length = wi := mth_wid wi hw1 hw32 _ (map_lf_len wi hw1 hw32 _)
  have hMb : ∀ v ∈ mth (wi : Int) (([] : List (List Nat)).map (lf wi)), v < 256 := mth_lt _ _ _ (Nat.le_refl _) (fun p hp => by
    obtain ⟨e, _, rfl⟩ := List.mem_map.1 hp
    exact lf_lt _ _)
  rw [hMl] at hwant
  generalize mth (wi : Int) (([] : List (List Nat)).map (lf wi)) = M at *
  have HC := hide (And.intro hmay (And.intro hget (And.intro hwant (And.intro hMl hMb))))
  clear hmay hget hwant hMl hMb hML hlm
  clear h
  go_enter Tryd.func16, Tryd.ntmps16
  go_wp2_with fail
  refine ((unhide HC).1 _).mono ?_
  rintro e wA ⟨rfl, rfl⟩
  go_wp2_with fail
  refine ((unhide HC).2.1 _ hF1).mono ?_
  rintro e w1 ⟨ao, ac, rfl, hO1⟩
  have H1 := hide (And.intro hO1 (hF1.trans hO1.fr (fun _ _ h => h)))
  clear hO1
  go_wp2_with fail
  refine ((unhide HC).2.1 _ (unhide H1).2).mono ?_
  rintro e w2 ⟨bo, bc, rfl, hO2⟩
  have H2 := hide (And.intro hO2 ((unhide H1).2.trans hO2.fr (fun _ _ h => h)))
  clear hO2 hbx hF1
  obtain ⟨WA, hWA⟩ : ∃ WA, w2.alloc (.cells #[.slice ao wi ac] 25) = WA := ⟨_, rfl⟩
  obtain ⟨WB, hWB⟩ : ∃ WB, WA.alloc (.cells #[.slice bo wi bc] 25) = WB := ⟨_, rfl⟩
  have hsA : WA.heap.size = w2.heap.size + 1 := by rw [← hWA]; simp
  have hsB : WB.heap.size = w2.heap.size + 2 := by rw [← hWB]; simp [hsA]
  have hF2A : Fr (fun _ => False) w2 WA := by rw [← hWA]; exact (Fr.refl _ _).alloc _
  have hFAB : Fr (fun _ => False) WA WB := by rw [← hWB]; exact (Fr.refl _ _).alloc _
  have hLa := (ol_lit1 ((unhide H1).1.fr0 (unhide H2).1.fr) (unhide HC).2.2.2.2 wi (unhide HC).2.2.2.1 WA hWA).fr0 hFAB
  have hLb := ol_lit1 ((unhide H2).1.fr0 hF2A) (unhide HC).2.2.2.2 wi (unhide HC).2.2.2.1 WB hWB
  rw [hsA] at hLb
  have hwB : Fr (fun _ => False) w WB := (unhide H2).2.trans (hF2A.trans hFAB (fun _ _ h => h)) (fun _ _ h => h)
  have hag : ∀ g, (Value.slice ao wi ac).ownBlock = some g → g < w1.heap.size := fun g hg => (World.ownsRow.lt (unhide H1).1.own g (by rw [(unhide HC).2.2.2.1]; exact hg)).2
  have hbg : ∀ g o n c, (Value.slice bo wi bc) = .slice (some ⟨g, o, none⟩) n c → w1.heap.size ≤ g ∧ g < w2.heap.size := fun g o n c e => World.ownsRow.lt (unhide H2).1.own g (by cases e; rfl)
  have h12 : w1.heap.size ≤ w2.heap.size := (unhide H2).1.fr.size
  have hF01 := (unhide H1).1.fr
  have H3 := hide (And.intro hLa (And.intro hLb (And.intro hwB (And.intro hag (And.intro hbg (And.intro h12 hsB))))))
  clear hLa hLb hwB hag hbg h12 hF2A hFAB hF01
  go_wp2_with fail
  try rw [hWA, hWB]
  refine ((unhide HC).2.2.1 _ (unhide H3).2.2.1).mono ?_
  rintro e w3 ⟨yo, yc, rfl, hS3, hF3, hK3⟩
  obtain ⟨WC, hWC⟩ : ∃ WC, w3.alloc (.cells #[.slice yo wi yc] 25) = WC := ⟨_, rfl⟩
  have hFC : Fr (fun _ => False) w3 WC := by rw [← hWC]; exact (Fr.refl _ _).alloc _
  have hS3' : Sl w3 (.slice yo M.length yc) M := by rw [(unhide HC).2.2.2.1]; exact hS3
  have hLc := (LV.lit (Fr.refl _ w3) hS3' WC (by rw [(unhide HC).2.2.2.1]; exact hWC)).pcs
  rw [(unhide HC).2.2.2.1] at hLc
  have hs3 : WB.heap.size ≤ w3.heap.size := hF3.size
  have hfBC := hF3.trans hFC (fun _ _ h => h)
  have H4 := hide (And.intro ((unhide H3).1.fr0 hfBC) (And.intro ((unhide H3).2.1.fr0 hfBC).pcs (And.intro hLc (And.intro hK3 (And.intro hs3 ((unhide H3).2.2.1.trans hfBC (fun _ _ h => h)))))))
  clear hS3 hF3 hK3 hFC hS3' hLc hs3 hfBC
  go_wp2_with fail
  try rw [hWC]
  refine (held_S (fun g => (Value.slice ao wi ac).ownBlock = some g ∨ g = w2.heap.size) (unhide H4).1 (unhide H4).2.1 (unhide H4).2.2.1 0 (fun p hp => by rw [List.mem_singleton.1 hp, (unhide HC).2.2.2.1]; omega) (by simp) (fun v hv g hg => by rw [List.mem_singleton.1 hv] at hg; exact .inl hg) (fun g hg => .inr (by simp only [Value.ownBlock, Option.some.injEq] at hg; exact hg.symm)) (fun g o n c e hS => ?_) (fun u hu g o n c e hS => ?_) (fun g o n c e hS => ?_) (fun u hu g o n c e hS => ?_)).mono ?_
  · cases e
    rcases hS with hS | hS
    · have := (unhide H3).2.2.2.1 _ hS; have := (unhide H3).2.2.2.2.2.1; omega
    · omega
  · rw [List.mem_singleton.1 hu] at e
    have h1 := (unhide H3).2.2.2.2.1 g o n c e
    rcases hS with hS | hS
    · have := (unhide H3).2.2.2.1 _ hS; omega
    · omega
  · cases e
    have h3 := (unhide H4).2.2.2.2.1
    rcases hS with hS | hS
    · have := (unhide H3).2.2.2.1 _ hS; have := (unhide H3).2.2.2.2.2.1; omega
    · omega
  · rw [List.mem_singleton.1 hu] at e
    have h1 := (unhide H4).2.2.2.1 g o n c e
    rcases hS with hS | hS
    · have := (unhide H3).2.2.2.1 _ hS; have := (unhide H3).2.2.2.2.2.1; omega
    · omega
  rintro e w5 ⟨rfl, hF5⟩
  have H5 := hide (((Fr.refl _ w).alloc _).trans hF5 (fun _ _ h => h))
  clear hF5
  go_wp2_with fail
  go_ret
  exact ⟨rfl, unhide H5⟩
set_option maxRecDepth 100000 in
set_option maxHeartbeats 1000000 in
theorem grow_r_nm (j k : Int) (hj : ¬ (1 ≤ j ∧ j ≤ 32)) (I : Int) (tb eb : Nat) (dO : Option Addr) (dc : Nat) (us : List Value) (es : List (List Nat)) (w0 w : World) (h : TS w0 w j tb eb dO dc us es)  (eo po : Option Addr) (EN ec PN pc : Nat) :
    Calls Tryd.prog 16 #[.int .i64 j, .pointer (some ⟨tb, 0, none⟩), .pointer (some ⟨eb, 0, none⟩), .agg #[.int .i64 3, .int .i64 I, .int .i64 k, .slice eo EN ec, .slice po PN pc]] w fun e w' => e = .returned (.bool true) ∧ Fr (fun _ => False) w w' := by
  have hnum := h.num
  have hcap := h.cap
  have hF1 : Fr (fun _ => False) w (w.alloc (.cells #[.int .i64 3, .int .i64 I, .int .i64 k, .slice eo EN ec, .slice po PN pc] 43)) := (Fr.refl _ _).alloc _
  have hbx : (w.alloc (.cells #[.int .i64 3, .int .i64 I, .int .i64 k, .slice eo EN ec, .slice po PN pc] 43)).cell? ⟨eb, 0, none⟩ = some (.slice dO es.length dc) := (h.fr0 hF1).box
  have hmay := fun w' => may_no j w' (by omega)
  have hget := fun w' (hf : Fr (fun _ => False) w w') => troot_no tb es.length j k w' (h.fr0 hf).cs.1 (h.fr0 hf).cs.2 (by omega)
  have HC := hide (And.intro hmay hget)
  clear hmay hget
  clear h
  generalize es.length = N at *
  go_enter Tryd.func16, Tryd.ntmps16
  go_wp2_with fail
  refine ((unhide HC).1 _).mono ?_
  rintro e wA ⟨rfl, rfl⟩
  go_wp2_with fail
  refine ((unhide HC).2 _ hF1).mono ?_
  rintro e w1 ⟨rfl, rfl⟩
  go_wp2_with fail
  refine ((unhide HC).2 _ hF1).mono ?_
  rintro e w2 ⟨rfl, rfl⟩
  go_wp2_with fail
  go_ret
  exact ⟨rfl, hF1⟩
set_option maxRecDepth 100000 in
set_option maxHeartbeats 1000000 in
theorem grow_r_lo (wi : Nat) (k : Int) (hw1 : 1 ≤ wi) (hw32 : wi ≤ 32) (hk : k < 0) (I : Int) (tb eb : Nat) (dO : Option Addr) (dc : Nat) (us : List Value) (es : List (List Nat)) (w0 w : World) (h : TS w0 w wi tb eb dO dc us es)  (eo po : Option Addr) (EN ec PN pc : Nat) :
    Calls Tryd.prog 16 #[.int .i64 wi, .pointer (some ⟨tb, 0, none⟩), .pointer (some ⟨eb, 0, none⟩), .agg #[.int .i64 3, .int .i64 I, .int .i64 k, .slice eo EN ec, .slice po PN pc]] w fun e w' => e = .returned (.bool true) ∧ Fr (fun _ => False) w w' := by
  have hnum := h.num
  have hcap := h.cap
  have hF1 : Fr (fun _ => False) w (w.alloc (.cells #[.int .i64 3, .int .i64 I, .int .i64 k, .slice eo EN ec, .slice po PN pc] 43)) := (Fr.refl _ _).alloc _
  have hbx : (w.alloc (.cells #[.int .i64 3, .int .i64 I, .int .i64 k, .slice eo EN ec, .slice po PN pc] 43)).cell? ⟨eb, 0, none⟩ = some (.slice dO es.length dc) := (h.fr0 hF1).box
  have hmay := fun w' => may_yes wi w' (by omega) (by omega)
  have hget := fun w' (hf : Fr (fun _ => False) w w') => troot_no tb es.length wi k w' (h.fr0 hf).cs.1 (h.fr0 hf).cs.2 (by omega)
  have HC := hide (And.intro hmay hget)
  clear hmay hget
  clear h
  generalize es.length = N at *
  go_enter Tryd.func16, Tryd.ntmps16
  go_wp2_with fail
  refine ((unhide HC).1 _).mono ?_
  rintro e wA ⟨rfl, rfl⟩
  go_wp2_with fail
  refine ((unhide HC).2 _ hF1).mono ?_
  rintro e w1 ⟨rfl, rfl⟩
  go_wp2_with fail
  refine ((unhide HC).2 _ hF1).mono ?_
  rintro e w2 ⟨rfl, rfl⟩
  go_wp2_with fail
  go_ret
  exact ⟨rfl, hF1⟩
set_option maxRecDepth 100000 in
set_option maxHeartbeats 1000000 in
theorem grow_r_hi (wi : Nat) (k : Int) (hw1 : 1 ≤ wi) (hw32 : wi ≤ 32) (I : Int) (tb eb : Nat) (dO : Option Addr) (dc : Nat) (us : List Value) (es : List (List Nat)) (w0 w : World) (h : TS w0 w wi tb eb dO dc us es) (hk : (es.length : Int) < k) (eo po : Option Addr) (EN ec PN pc : Nat) :
    Calls Tryd.prog 16 #[.int .i64 wi, .pointer (some ⟨tb, 0, none⟩), .pointer (some ⟨eb, 0, none⟩), .agg #[.int .i64 3, .int .i64 I, .int .i64 k, .slice eo EN ec, .slice po PN pc]] w fun e w' => e = .returned (.bool true) ∧ Fr (fun _ => False) w w' := by
  have hnum := h.num
  have hcap := h.cap
  have hF1 : Fr (fun _ => False) w (w.alloc (.cells #[.int .i64 3, .int .i64 I, .int .i64 k, .slice eo EN ec, .slice po PN pc] 43)) := (Fr.refl _ _).alloc _
  have hbx : (w.alloc (.cells #[.int .i64 3, .int .i64 I, .int .i64 k, .slice eo EN ec, .slice po PN pc] 43)).cell? ⟨eb, 0, none⟩ = some (.slice dO es.length dc) := (h.fr0 hF1).box
  have hmay := fun w' => may_yes wi w' (by omega) (by omega)
  have hget := fun w' (hf : Fr (fun _ => False) w w') => troot_no tb es.length wi k w' (h.fr0 hf).cs.1 (h.fr0 hf).cs.2 (by omega)
  have HC := hide (And.intro hmay hget)
  clear hmay hget
  have q0 : ¬ k < 0 := by omega
  have q1 : ¬ k ≤ (es.length : Int) := by omega
  have q3 : decide (k ≤ (es.length : Int)) = false := decide_eq_false q1
  clear h
  generalize es.length = N at *
  go_enter Tryd.func16, Tryd.ntmps16
  go_wp2_with fail
  refine ((unhide HC).1 _).mono ?_
  rintro e wA ⟨rfl, rfl⟩
  go_wp2_with fail
  refine ((unhide HC).2 _ hF1).mono ?_
  rintro e w1 ⟨rfl, rfl⟩
  go_wp2_with fail
  refine ((unhide HC).2 _ hF1).mono ?_
  rintro e w2 ⟨rfl, rfl⟩
  go_wp2_with fail
  go_ret
  exact ⟨rfl, hF1⟩
end Go.Proofs.YthccbfgjekdiiaaDoor

namespace Go.Proofs.YthccbfgjekdiiaaDoor
open Go.RowKit

set_option maxRecDepth 100000 in
/-- Tree.Len. -/
theorem tlen4 (tb n : Nat) (w : World) (c1 : w.cell? ⟨tb, 1, none⟩ = some (.int .i64 n)) : Calls Tryd.prog 17 #[.pointer (some ⟨tb, 0, none⟩)] w fun e w' => e = .returned (.int .i64 n) ∧ w' = w := by
  go_enter Tryd.func17, Tryd.ntmps17
  go_wp2_with fail
  go_ret
  exact ⟨rfl, rfl⟩
set_option maxRecDepth 100000 in
set_option maxHeartbeats 1000000 in
theorem grow_l_in (wi K dg : Nat) (hw1 : 1 ≤ wi) (hw32 : wi ≤ 32) (I : Int) (tb eb : Nat) (dc : Nat) (us : List Value) (es : List (List Nat)) (w0 w : World) (h : TS w0 w wi tb eb (some ⟨dg, 0, none⟩) dc us es) (hK : K ≤ es.length) (eo po : Option Addr) (EN ec PN pc : Nat) :
    Calls Tryd.prog 16 #[.int .i64 wi, .pointer (some ⟨tb, 0, none⟩), .pointer (some ⟨eb, 0, none⟩), .agg #[.int .i64 1, .int .i64 I, .int .i64 K, .slice eo EN ec, .slice po PN pc]] w fun e w' => e = .returned (.bool true) ∧ Fr (fun _ => False) w w' := by
  have hnum := h.num
  have hcap := h.cap
  have hF1 : Fr (fun _ => False) w (w.alloc (.cells #[.int .i64 1, .int .i64 I, .int .i64 K, .slice eo EN ec, .slice po PN pc] 43)) := (Fr.refl _ _).alloc _
  have hbx : (w.alloc (.cells #[.int .i64 1, .int .i64 I, .int .i64 K, .slice eo EN ec, .slice po PN pc] 43)).cell? ⟨eb, 0, none⟩ = some (.slice (some ⟨dg, 0, none⟩) es.length dc) := (h.fr0 hF1).box
  have hmay := fun w' => may_yes wi w' (by omega) (by omega)
  have hlen := fun w' (hf : Fr (fun _ => False) w w') => tlen4 tb es.length w' (h.fr0 hf).cs.2
  have HC := hide (And.intro hmay hlen)
  clear hmay hlen
  have q0 : (0 : Int) ≤ (K : Int) := by omega
  have q1 : (K : Int) ≤ (es.length : Int) := by omega
  have q2 : (K : Int) ≤ (dc : Int) := by omega
  clear h
  generalize es.length = N at *
  go_enter Tryd.func16, Tryd.ntmps16
  go_wp2_with fail
  refine ((unhide HC).1 _).mono ?_
  rintro e wA ⟨rfl, rfl⟩
  go_wp2_with fail
  refine ((unhide HC).2 _ hF1).mono ?_
  rintro e w1 ⟨rfl, rfl⟩
  go_wp2_with fail
  go_ret
  exact ⟨rfl, hF1⟩
set_option maxRecDepth 100000 in
set_option maxHeartbeats 1000000 in
theorem grow_l_in0 (wi : Nat) (hw1 : 1 ≤ wi) (hw32 : wi ≤ 32) (I : Int) (tb eb : Nat) (us : List Value) (w0 w : World) (h : TS w0 w wi tb eb none 0 us ([] : List (List Nat)))  (eo po : Option Addr) (EN ec PN pc : Nat) :
    Calls Tryd.prog 16 #[.int .i64 wi, .pointer (some ⟨tb, 0, none⟩), .pointer (some ⟨eb, 0, none⟩), .agg #[.int .i64 1, .int .i64 I, .int .i64 0, .slice eo EN ec, .slice po PN pc]] w fun e w' => e = .returned (.bool true) ∧ Fr (fun _ => False) w w' := by
  have hnum := h.num
  have hcap := h.cap
  have hF1 : Fr (fun _ => False) w (w.alloc (.cells #[.int .i64 1, .int .i64 I, .int .i64 0, .slice eo EN ec, .slice po PN pc] 43)) := (Fr.refl _ _).alloc _
  have hbx : (w.alloc (.cells #[.int .i64 1, .int .i64 I, .int .i64 0, .slice eo EN ec, .slice po PN pc] 43)).cell? ⟨eb, 0, none⟩ = some (.slice none 0 0) := (h.fr0 hF1).box
  have hmay := fun w' => may_yes wi w' (by omega) (by omega)
  have hlen := fun w' (hf : Fr (fun _ => False) w w') => tlen4 tb 0 w' (h.fr0 hf).cs.2
  have HC := hide (And.intro hmay hlen)
  clear hmay hlen
  clear h
  go_enter Tryd.func16, Tryd.ntmps16
  go_wp2_with fail
  refine ((unhide HC).1 _).mono ?_
  rintro e wA ⟨rfl, rfl⟩
  go_wp2_with fail
  refine ((unhide HC).2 _ hF1).mono ?_
  rintro e w1 ⟨rfl, rfl⟩
  go_wp2_with fail
  go_ret
  exact ⟨rfl, hF1⟩
set_option maxRecDepth 100000 in
set_option maxHeartbeats 1000000 in
theorem grow_l_nm (j k : Int) (hj : ¬ (1 ≤ j ∧ j ≤ 32)) (I : Int) (tb eb : Nat) (dO : Option Addr) (dc : Nat) (us : List Value) (es : List (List Nat)) (w0 w : World) (h : TS w0 w j tb eb dO dc us es)  (eo po : Option Addr) (EN ec PN pc : Nat) :
    Calls Tryd.prog 16 #[.int .i64 j, .pointer (some ⟨tb, 0, none⟩), .pointer (some ⟨eb, 0, none⟩), .agg #[.int .i64 1, .int .i64 I, .int .i64 k, .slice eo EN ec, .slice po PN pc]] w fun e w' => e = .returned (.bool true) ∧ Fr (fun _ => False) w w' := by
  have hnum := h.num
  have hcap := h.cap
  have hF1 : Fr (fun _ => False) w (w.alloc (.cells #[.int .i64 1, .int .i64 I, .int .i64 k, .slice eo EN ec, .slice po PN pc] 43)) := (Fr.refl _ _).alloc _
  have hbx : (w.alloc (.cells #[.int .i64 1, .int .i64 I, .int .i64 k, .slice eo EN ec, .slice po PN pc] 43)).cell? ⟨eb, 0, none⟩ = some (.slice dO es.length dc) := (h.fr0 hF1).box
  have hmay := fun w' => may_no j w' (by omega)
  have hlen := fun w' (hf : Fr (fun _ => False) w w') => tlen4 tb es.length w' (h.fr0 hf).cs.2
  have HC := hide (And.intro hmay hlen)
  clear hmay hlen
  clear h
  generalize es.length = N at *
  go_enter Tryd.func16, Tryd.ntmps16
  go_wp2_with fail
  refine ((unhide HC).1 _).mono ?_
  rintro e wA ⟨rfl, rfl⟩
  go_wp2_with fail
  refine ((unhide HC).2 _ hF1).mono ?_
  rintro e w1 ⟨rfl, rfl⟩
  go_wp2_with fail
  go_ret
  exact ⟨rfl, hF1⟩
set_option maxRecDepth 100000 in
set_option maxHeartbeats 1000000 in
theorem grow_l_lo (wi : Nat) (k : Int) (hw1 : 1 ≤ wi) (hw32 : wi ≤ 32) (hk : k < 0) (I : Int) (tb eb : Nat) (dO : Option Addr) (dc : Nat) (us : List Value) (es : List (List Nat)) (w0 w : World) (h : TS w0 w wi tb eb dO dc us es)  (eo po : Option Addr) (EN ec PN pc : Nat) :
    Calls Tryd.prog 16 #[.int .i64 wi, .pointer (some ⟨tb, 0, none⟩), .pointer (some ⟨eb, 0, none⟩), .agg #[.int .i64 1, .int .i64 I, .int .i64 k, .slice eo EN ec, .slice po PN pc]] w fun e w' => e = .returned (.bool true) ∧ Fr (fun _ => False) w w' := by
  have hnum := h.num
  have hcap := h.cap
  have hF1 : Fr (fun _ => False) w (w.alloc (.cells #[.int .i64 1, .int .i64 I, .int .i64 k, .slice eo EN ec, .slice po PN pc] 43)) := (Fr.refl _ _).alloc _
  have hbx : (w.alloc (.cells #[.int .i64 1, .int .i64 I, .int .i64 k, .slice eo EN ec, .slice po PN pc] 43)).cell? ⟨eb, 0, none⟩ = some (.slice dO es.length dc) := (h.fr0 hF1).box
  have hmay := fun w' => may_yes wi w' (by omega) (by omega)
  have hlen := fun w' (hf : Fr (fun _ => False) w w') => tlen4 tb es.length w' (h.fr0 hf).cs.2
  have HC := hide (And.intro hmay hlen)
  clear hmay hlen
  clear h
  generalize es.length = N at *
  go_enter Tryd.func16, Tryd.ntmps16
  go_wp2_with fail
  refine ((unhide HC).1 _).mono ?_
  rintro e wA ⟨rfl, rfl⟩
  go_wp2_with fail
  refine ((unhide HC).2 _ hF1).mono ?_
  rintro e w1 ⟨rfl, rfl⟩
  go_wp2_with fail
  go_ret
  exact ⟨rfl, hF1⟩
set_option maxRecDepth 100000 in
set_option maxHeartbeats 1000000 in
theorem grow_l_hi (wi : Nat) (k : Int) (hw1 : 1 ≤ wi) (hw32 : wi ≤ 32) (I : Int) (tb eb : Nat) (dO : Option Addr) (dc : Nat) (us : List Value) (es : List (List Nat)) (w0 w : World) (h : TS w0 w wi tb eb dO dc us es) (hk : (es.length : Int) < k) (eo po : Option Addr) (EN ec PN pc : Nat) :
    Calls Tryd.prog 16 #[.int .i64 wi, .pointer (some ⟨tb, 0, none⟩), .pointer (some ⟨eb, 0, none⟩), .agg #[.int .i64 1, .int .i64 I, .int .i64 k, .slice eo EN ec, .slice po PN pc]] w fun e w' => e = .returned (.bool true) ∧ Fr (fun _ => False) w w' := by
  have hnum := h.num
  have hcap := h.cap
  have hF1 : Fr (fun _ => False) w (w.alloc (.cells #[.int .i64 1, .int .i64 I, .int .i64 k, .slice eo EN ec, .slice po PN pc] 43)) := (Fr.refl _ _).alloc _
  have hbx : (w.alloc (.cells #[.int .i64 1, .int .i64 I, .int .i64 k, .slice eo EN ec, .slice po PN pc] 43)).cell? ⟨eb, 0, none⟩ = some (.slice dO es.length dc) := (h.fr0 hF1).box
  have hmay := fun w' => may_yes wi w' (by omega) (by omega)
  have hlen := fun w' (hf : Fr (fun _ => False) w w') => tlen4 tb es.length w' (h.fr0 hf).cs.2
  have HC := hide (And.intro hmay hlen)
  clear hmay hlen
  have q0 : ¬ k < 0 := by omega
  have q1 : ¬ k ≤ (es.length : Int) := by omega
  have q3 : decide (k ≤ (es.length : Int)) = false := decide_eq_false q1
  clear h
  generalize es.length = N at *
  go_enter Tryd.func16, Tryd.ntmps16
  go_wp2_with fail
  refine ((unhide HC).1 _).mono ?_
  rintro e wA ⟨rfl, rfl⟩
  go_wp2_with fail
  refine ((unhide HC).2 _ hF1).mono ?_
  rintro e w1 ⟨rfl, rfl⟩
  go_wp2_with fail
  go_ret
  exact ⟨rfl, hF1⟩
set_option maxRecDepth 100000 in
set_option maxHeartbeats 1000000 in
theorem grow_x_in (wi K dg : Nat) (hw1 : 1 ≤ wi) (hw32 : wi ≤ 32) (I : Int) (tb eb : Nat) (dc : Nat) (us : List Value) (es : List (List Nat)) (w0 w : World) (h : TS w0 w wi tb eb (some ⟨dg, 0, none⟩) dc us es) (hK : K ≤ es.length) (o : Int) (hop : o < 0 ∨ 6 < o) (eo po : Option Addr) (EN ec PN pc : Nat) :
    Calls Tryd.prog 16 #[.int .i64 wi, .pointer (some ⟨tb, 0, none⟩), .pointer (some ⟨eb, 0, none⟩), .agg #[.int .i64 o, .int .i64 I, .int .i64 K, .slice eo EN ec, .slice po PN pc]] w fun e w' => e = .returned (.bool true) ∧ Fr (fun _ => False) w w' := by
  have hnum := h.num
  have hcap := h.cap
  have hF1 : Fr (fun _ => False) w (w.alloc (.cells #[.int .i64 o, .int .i64 I, .int .i64 K, .slice eo EN ec, .slice po PN pc] 43)) := (Fr.refl _ _).alloc _
  have hbx : (w.alloc (.cells #[.int .i64 o, .int .i64 I, .int .i64 K, .slice eo EN ec, .slice po PN pc] 43)).cell? ⟨eb, 0, none⟩ = some (.slice (some ⟨dg, 0, none⟩) es.length dc) := (h.fr0 hF1).box
  have hmay := fun w' => may_yes wi w' (by omega) (by omega)
  have HC := hide hmay
  clear hmay
  have q0 : (0 : Int) ≤ (K : Int) := by omega
  have q1 : (K : Int) ≤ (es.length : Int) := by omega
  have q2 : (K : Int) ≤ (dc : Int) := by omega
  clear h
  generalize es.length = N at *
  have n0 : ¬ o = 0 := by omega
  have n1 : ¬ o = 1 := by omega
  have n2 : ¬ o = 2 := by omega
  have n3 : ¬ o = 3 := by omega
  have n4 : ¬ o = 4 := by omega
  have n5 : ¬ o = 5 := by omega
  have n6 : ¬ o = 6 := by omega
  go_enter Tryd.func16, Tryd.ntmps16
  go_wp2_with fail
  refine ((unhide HC) _).mono ?_
  rintro e wA ⟨rfl, rfl⟩
  go_wp2_with fail
  go_ret
  exact ⟨rfl, hF1⟩
set_option maxRecDepth 100000 in
set_option maxHeartbeats 1000000 in
theorem grow_x_in0 (wi : Nat) (hw1 : 1 ≤ wi) (hw32 : wi ≤ 32) (I : Int) (tb eb : Nat) (us : List Value) (w0 w : World) (h : TS w0 w wi tb eb none 0 us ([] : List (List Nat)))  (o : Int) (hop : o < 0 ∨ 6 < o) (eo po : Option Addr) (EN ec PN pc : Nat) :
    Calls Tryd.prog 16 #[.int .i64 wi, .pointer (some ⟨tb, 0, none⟩), .pointer (some ⟨eb, 0, none⟩), .agg #[.int .i64 o, .int .i64 I, .int .i64 0, .slice eo EN ec, .slice po PN pc]] w fun e w' => e = .returned (.bool true) ∧ Fr (fun _ => False) w w' := by
  have hnum := h.num
  have hcap := h.cap
  have hF1 : Fr (fun _ => False) w (w.alloc (.cells #[.int .i64 o, .int .i64 I, .int .i64 0, .slice eo EN ec, .slice po PN pc] 43)) := (Fr.refl _ _).alloc _
  have hbx : (w.alloc (.cells #[.int .i64 o, .int .i64 I, .int .i64 0, .slice eo EN ec, .slice po PN pc] 43)).cell? ⟨eb, 0, none⟩ = some (.slice none 0 0) := (h.fr0 hF1).box
  have hmay := fun w' => may_yes wi w' (by omega) (by omega)
  have HC := hide hmay
  clear hmay
  clear h
  have n0 : ¬ o = 0 := by omega
  have n1 : ¬ o = 1 := by omega
  have n2 : ¬ o = 2 := by omega
  have n3 : ¬ o = 3 := by omega
  have n4 : ¬ o = 4 := by omega
  have n5 : ¬ o = 5 := by omega
  have n6 : ¬ o = 6 := by omega
  go_enter Tryd.func16, Tryd.ntmps16
  go_wp2_with fail
  refine ((unhide HC) _).mono ?_
  rintro e wA ⟨rfl, rfl⟩
  go_wp2_with fail
  go_ret
  exact ⟨rfl, hF1⟩
set_option maxRecDepth 100000 in
set_option maxHeartbeats 1000000 in
theorem grow_x_nm (j k : Int) (hj : ¬ (1 ≤ j ∧ j ≤ 32)) (I : Int) (tb eb : Nat) (dO : Option Addr) (dc : Nat) (us : List Value) (es : List (List Nat)) (w0 w : World) (h : TS w0 w j tb eb dO dc us es)  (o : Int) (hop : o < 0 ∨ 6 < o) (eo po : Option Addr) (EN ec PN pc : Nat) :
    Calls Tryd.prog 16 #[.int .i64 j, .pointer (some ⟨tb, 0, none⟩), .pointer (some ⟨eb, 0, none⟩), .agg #[.int .i64 o, .int .i64 I, .int .i64 k, .slice eo EN ec, .slice po PN pc]] w fun e w' => e = .returned (.bool true) ∧ Fr (fun _ => False) w w' := by
  have hnum := h.num
  have hcap := h.cap
  have hF1 : Fr (fun _ => False) w (w.alloc (.cells #[.int .i64 o, .int .i64 I, .int .i64 k, .slice eo EN ec, .slice po PN pc] 43)) := (Fr.refl _ _).alloc _
  have hbx : (w.alloc (.cells #[.int .i64 o, .int .i64 I, .int .i64 k, .slice eo EN ec, .slice po PN pc] 43)).cell? ⟨eb, 0, none⟩ = some (.slice dO es.length dc) := (h.fr0 hF1).box
  have hmay := fun w' => may_no j w' (by omega)
  have HC := hide hmay
  clear hmay
  clear h
  generalize es.length = N at *
  have n0 : ¬ o = 0 := by omega
  have n1 : ¬ o = 1 := by omega
  have n2 : ¬ o = 2 := by omega
  have n3 : ¬ o = 3 := by omega
  have n4 : ¬ o = 4 := by omega
  have n5 : ¬ o = 5 := by omega
  have n6 : ¬ o = 6 := by omega
  go_enter Tryd.func16, Tryd.ntmps16
  go_wp2_with fail
  refine ((unhide HC) _).mono ?_
  rintro e wA ⟨rfl, rfl⟩
  go_wp2_with fail
  go_ret
  exact ⟨rfl, hF1⟩
set_option maxRecDepth 100000 in
set_option maxHeartbeats 1000000 in
theorem grow_x_lo (wi : Nat) (k : Int) (hw1 : 1 ≤ wi) (hw32 : wi ≤ 32) (hk : k < 0) (I : Int) (tb eb : Nat) (dO : Option Addr) (dc : Nat) (us : List Value) (es : List (List Nat)) (w0 w : World) (h : TS w0 w wi tb eb dO dc us es)  (o : Int) (hop : o < 0 ∨ 6 < o) (eo po : Option Addr) (EN ec PN pc : Nat) :
    Calls Tryd.prog 16 #[.int .i64 wi, .pointer (some ⟨tb, 0, none⟩), .pointer (some ⟨eb, 0, none⟩), .agg #[.int .i64 o, .int .i64 I, .int .i64 k, .slice eo EN ec, .slice po PN pc]] w fun e w' => e = .returned (.bool true) ∧ Fr (fun _ => False) w w' := by
  have hnum := h.num
  have hcap := h.cap
  have hF1 : Fr (fun _ => False) w (w.alloc (.cells #[.int .i64 o, .int .i64 I, .int .i64 k, .slice eo EN ec, .slice po PN pc] 43)) := (Fr.refl _ _).alloc _
  have hbx : (w.alloc (.cells #[.int .i64 o, .int .i64 I, .int .i64 k, .slice eo EN ec, .slice po PN pc] 43)).cell? ⟨eb, 0, none⟩ = some (.slice dO es.length dc) := (h.fr0 hF1).box
  have hmay := fun w' => may_yes wi w' (by omega) (by omega)
  have HC := hide hmay
  clear hmay
  clear h
  generalize es.length = N at *
  have n0 : ¬ o = 0 := by omega
  have n1 : ¬ o = 1 := by omega
  have n2 : ¬ o = 2 := by omega
  have n3 : ¬ o = 3 := by omega
  have n4 : ¬ o = 4 := by omega
  have n5 : ¬ o = 5 := by omega
  have n6 : ¬ o = 6 := by omega
  go_enter Tryd.func16, Tryd.ntmps16
  go_wp2_with fail
  refine ((unhide HC) _).mono ?_
  rintro e wA ⟨rfl, rfl⟩
  go_wp2_with fail
  go_ret
  exact ⟨rfl, hF1⟩
set_option maxRecDepth 100000 in
set_option maxHeartbeats 1000000 in
theorem grow_x_hi (wi : Nat) (k : Int) (hw1 : 1 ≤ wi) (hw32 : wi ≤ 32) (I : Int) (tb eb : Nat) (dO : Option Addr) (dc : Nat) (us : List Value) (es : List (List Nat)) (w0 w : World) (h : TS w0 w wi tb eb dO dc us es) (hk : (es.length : Int) < k) (o : Int) (hop : o < 0 ∨ 6 < o) (eo po : Option Addr) (EN ec PN pc : Nat) :
    Calls Tryd.prog 16 #[.int .i64 wi, .pointer (some ⟨tb, 0, none⟩), .pointer (some ⟨eb, 0, none⟩), .agg #[.int .i64 o, .int .i64 I, .int .i64 k, .slice eo EN ec, .slice po PN pc]] w fun e w' => e = .returned (.bool true) ∧ Fr (fun _ => False) w w' := by
  have hnum := h.num
  have hcap := h.cap
  have hF1 : Fr (fun _ => False) w (w.alloc (.cells #[.int .i64 o, .int .i64 I, .int .i64 k, .slice eo EN ec, .slice po PN pc] 43)) := (Fr.refl _ _).alloc _
  have hbx : (w.alloc (.cells #[.int .i64 o, .int .i64 I, .int .i64 k, .slice eo EN ec, .slice po PN pc] 43)).cell? ⟨eb, 0, none⟩ = some (.slice dO es.length dc) := (h.fr0 hF1).box
  have hmay := fun w' => may_yes wi w' (by omega) (by omega)
  have HC := hide hmay
  clear hmay
  have q0 : ¬ k < 0 := by omega
  have q1 : ¬ k ≤ (es.length : Int) := by omega
  have q3 : decide (k ≤ (es.length : Int)) = false := decide_eq_false q1
  clear h
  generalize es.length = N at *
  have n0 : ¬ o = 0 := by omega
  have n1 : ¬ o = 1 := by omega
  have n2 : ¬ o = 2 := by omega
  have n3 : ¬ o = 3 := by omega
  have n4 : ¬ o = 4 := by omega
  have n5 : ¬ o = 5 := by omega
  have n6 : ¬ o = 6 := by omega
  go_enter Tryd.func16, Tryd.ntmps16
  go_wp2_with fail
  refine ((unhide HC) _).mono ?_
  rintro e wA ⟨rfl, rfl⟩
  go_wp2_with fail
  go_ret
  exact ⟨rfl, hF1⟩
end Go.Proofs.YthccbfgjekdiiaaDoor

namespace Go.Proofs.YthccbfgjekdiiaaDoor
open Go.RowKit

theorem blk_blk (L : List (List Nat)) (f n a k : Nat) (h : a + k ≤ n) : blk (blk L f n) a k = blk L (f + a) k := by
  rw [blk, blk, blk, List.drop_take, List.take_take, List.drop_drop]
  congr 1
  omega
theorem pks_blk (wi : Nat) (L : List (List Nat)) (f n m : Nat) : ∀ a k, k ≤ m → a + k ≤ n → pks wi (blk L f n) a k = pks wi L (f + a) k := by
  induction m with
  | zero => intro a k h hn; rw [pks, dif_pos (by omega), pks, dif_pos (by omega), blk_blk _ _ _ _ _ hn]
  | succ m ih =>
    intro a k h hn
    by_cases h1 : oc k = 1 ∨ k < 2
    · rw [pks, dif_pos h1, pks, dif_pos h1, blk_blk _ _ _ _ _ hn]
    · have h3 := hf_lt k (by omega)
      have h4 := hf_pos k
      rw [@pks_two wi (blk L f n) a k (by omega) (by omega), @pks_two wi L (f + a) k (by omega) (by omega), blk_blk _ _ _ _ _ (by omega), ih _ _ (by omega) (by omega), Nat.add_assoc]
/-- The peaks of a list of leaves. -/
def pkL (wi : Nat) (ls : List (List Nat)) : List (List Nat) := if ls.length = 0 then [] else pks wi ls 0 ls.length
/-- The greatest tree first, then the others. -/
theorem pkL_step (wi : Nat) (ls : List (List Nat)) (t : Nat) (ht : t < 63) (h1 : 2 ^ t ≤ ls.length) (h2 : ls.length < 2 * 2 ^ t) : pkL wi ls = mth wi (ls.take (2 ^ t)) :: pkL wi (ls.drop (2 ^ t)) := by
  have hp : 0 < 2 ^ t := Nat.pow_pos (by decide)
  have e0 : ∀ k, blk ls 0 k = ls.take k := fun k => by rw [blk, List.drop_zero]
  by_cases he : ls.length = 2 ^ t
  · have hd : (ls.drop (2 ^ t)).length = 0 := by rw [List.length_drop]; omega
    rw [pkL, if_neg (by omega), pkL, if_pos hd, he, pks_one (oc_pow t (by omega)), e0]
  · have hh : hf ls.length = 2 ^ t := hf_uniq _ _ (by omega) (by omega)
    have hno : ¬ oc ls.length = 1 := fun ho => by
      have hb : 2 * 2 ^ t ≤ 2 ^ 63 := by
        have := Nat.pow_le_pow_right (n := 2) (by decide) (show t + 1 ≤ 63 by omega)
        rw [Nat.pow_succ] at this; omega
      obtain ⟨k, hk⟩ := oc_one ls.length (by omega) ho
      rw [hk] at h1 h2 he
      have hkt : ¬ k ≤ t := fun hle => by
        have := Nat.pow_le_pow_right (n := 2) (by decide) hle
        omega
      have := Nat.pow_le_pow_right (n := 2) (by decide) (show t + 1 ≤ k by omega)
      rw [Nat.pow_succ] at this
      omega
    have hd : (ls.drop (2 ^ t)).length = ls.length - 2 ^ t := List.length_drop ..
    have hb : ls.drop (2 ^ t) = blk ls (2 ^ t) (ls.length - 2 ^ t) := by rw [blk, List.take_of_length_le (by rw [List.length_drop]; omega)]
    rw [pkL, if_neg (by omega), pkL, if_neg (by omega), pks_two hno (by omega), hh, e0, hd, Nat.zero_add, hb, pks_blk wi ls (2 ^ t) (ls.length - 2 ^ t) _ 0 _ (Nat.le_refl _) (by omega), Nat.add_zero]
end Go.Proofs.YthccbfgjekdiiaaDoor

namespace Go.Proofs.YthccbfgjekdiiaaDoor
open Go.RowKit

def slenP : Value → Nat
  | .slice _ m _ => m
  | _ => 0
set_option maxRecDepth 100000 in
set_option maxHeartbeats 1000000 in
/-- The document's Peaks. -/
theorem gpeaks_any (wi : Nat) (hw1 : 1 ≤ wi) (hw32 : wi ≤ 32) (xo : Option Addr) (xc : Nat) (vs : List Value) (ls : List (List Nat)) (w : World) (hr : GR w) (hp : Pcs w (.slice xo ls.length xc) vs ls) (hcx : ls.length ≤ xc) (hL : ∀ p ∈ ls, p.length = wi) (hn : ls.length ≤ 4000000) :
    Calls Tryd.prog 40 #[.int .i64 wi, .slice xo ls.length xc] w fun e w' => ∃ ao cp us, e = .returned (.slice ao us.length cp) ∧ Pcs w' (.slice ao us.length cp) us (pkL wi ls) ∧ Fr (fun _ => False) w w' := by
  have hold : ∀ u ∈ vs, Bk u (fun g => g < w.heap.size) := fun u hu g o n c e => by
    obtain ⟨j, hj, rfl⟩ := List.getElem_of_mem hu
    have hjl : j < ls.length := by rw [← hp.len]; exact hj
    rcases (hp.src j _ ls[j] (List.getElem?_eq_getElem hj) (List.getElem?_eq_getElem hjl)).2.2 with h | h
    · have := hL ls[j] (List.getElem_mem hjl); rw [h] at this; simp at this; omega
    · exact h g o n c e
  have hform : ls.length = 0 ∨ ∃ g o, xo = some ⟨g, o, none⟩ := by
    by_cases h0 : ls.length = 0
    · exact .inl h0
    · obtain ⟨g, o, v, e, _⟩ := hp.cell (Fr.refl _ _) 0 (by omega)
      exact .inr ⟨g, o, by simpa using e⟩
  obtain ⟨g, o, hxo⟩ : ∃ g o, ls.length = 0 ∨ xo = some ⟨g, o, none⟩ := by
    rcases hform with h | ⟨g, o, h⟩
    · exact ⟨0, 0, .inl h⟩
    · exact ⟨g, o, .inr h⟩
  have hof : ∀ a k w', a + k ≤ ls.length → 0 < k → Fr (fun _ => False) w w' → Calls Tryd.prog 68 #[.int .i64 wi, .slice (some ⟨g, o + a, none⟩) k (xc - a)] w' fun e w'' => ∃ yo yc, e = .returned (.slice yo wi yc) ∧ Sl w'' (.slice yo wi yc) (mth wi ((ls.drop a).take k)) ∧ Fr (fun _ => False) w' w'' ∧ Bk (.slice yo wi yc) (fun g => g < w.heap.size ∨ w'.heap.size ≤ g) := fun a k w' h1 h2 hf => by
    have hxo' : xo = some ⟨g, o, none⟩ := by rcases hxo with h | h; · omega
                                             · exact h
    subst hxo'
    have hd := (hp.drop a (by omega)).take k (by omega)
    have := ofP_any (fun g => g < w.heap.size) wi _ _ _ w' (by rw [List.length_take]; omega) (hr.fr0 hf) (hd.fr0 hf) (fun _ _ _ e => by cases e; omega) (fun p hp => by rw [hL p (List.mem_of_mem_drop (List.mem_of_mem_take hp))]; omega) (fun u hu => hold u (List.mem_of_mem_drop (List.mem_of_mem_take hu)))
    unfold OfP at this
    rw [mth_wid wi hw1 hw32 _ (fun p hp => hL p (List.mem_of_mem_drop (List.mem_of_mem_take hp)))] at this
    exact this
  have hmb : ∀ a k, ∀ v ∈ mth wi ((ls.drop a).take k), v < 256 := fun a k => mth_lt _ _ _ (Nat.le_refl _) (fun p hp' => hp.byt p (List.mem_of_mem_drop (List.mem_of_mem_take hp')))
  have hml : ∀ a k, (mth (wi : Int) ((ls.drop a).take k)).length = wi := fun a k => mth_wid wi hw1 hw32 _ (fun p hp => hL p (List.mem_of_mem_drop (List.mem_of_mem_take hp)))
  have hst := fun a t (ht : t < 63) (h1 : 2 ^ t ≤ (ls.drop a).length) (h2 : (ls.drop a).length < 2 * 2 ^ t) => pkL_step wi (ls.drop a) t ht h1 h2
  simp only [List.drop_drop] at hst
  have hend : ∀ a, a = ls.length → pkL wi (ls.drop a) = [] := fun a ha => by rw [pkL, if_pos (by rw [List.length_drop]; omega)]
  have hdl : ∀ a, (ls.drop a).length = ls.length - a := fun a => List.length_drop ..
  have h0 : pkL wi (ls.drop 0) = pkL wi ls := by rw [List.drop_zero]
  have HC := hide (And.intro hof (And.intro hmb (And.intro hml (And.intro hst (And.intro hend (And.intro hdl h0))))))
  have hx0 : ls.length = 0 ∨ xo = some ⟨g, o, none⟩ := hxo
  clear hof hmb hml hst hend hdl h0 hp hr hold hform hxo hL
  generalize ls.length = N at *
  go_enter Tryd.func40, Tryd.ntmps40
  go_wp2_with fail
  go_loopw [5, 1] (fun v lv wr => ∃ (a : Nat) (ao : Option Addr) (cp : Nat) (us : List Value) (qs : List (List Nat)), a ≤ N ∧ v = .slice ao us.length cp ∧ us.length ≤ a ∧ LV w wr ao cp us qs ∧ qs ++ pkL wi (ls.drop a) = pkL wi ls ∧ ((a < N ∧ lv = .slice (some ⟨g, o + a, none⟩) (N - a) (xc - a)) ∨ (a = N ∧ ∃ bo bc, lv = .slice bo 0 bc))) (fun _ lv _ => slenP lv)
  case atStart =>
    refine ⟨0, none, 0, [], [], Nat.zero_le _, rfl, by simp, LV.nil w, by rw [List.nil_append]; exact (unhide HC).2.2.2.2.2.2, ?_⟩
    by_cases hN : N = 0
    · exact .inr ⟨hN.symm, _, _, by rw [hN]⟩
    · rcases hx0 with h | h
      · exact absurd h hN
      · exact .inl ⟨by omega, by rw [h]; rfl⟩
  case round =>
    obtain ⟨a, ao, cp, us, qs, ha, rfl, hus, hV, hq, hlv⟩ := hrel
    rename World => wr
    rcases hlv with ⟨hlt, rfl⟩ | ⟨rfl, bo, bc, rfl⟩
    · obtain ⟨m, hm⟩ : ∃ m, N - a = m := ⟨_, rfl⟩
      rw [hm]
      have hm1 : 1 ≤ m := by omega
      have hm9 : m ≤ 4000000 := by omega
      have q9 : (0 : Int) < (m : Int) := by omega
      have HV := hide (And.intro hV (And.intro hq (And.intro hus hm)))
      clear hV hq hus hm
      go_wp2_with fail
      go_loopw [6] (fun kv wz => ∃ t : Nat, t < 30 ∧ 2 ^ t ≤ m ∧ kv = .int .i64 ((2 ^ t : Nat) : Int) ∧ wz = wr) (fun kv _ => m - (intOf kv).toNat)
      case atStart => exact ⟨0, by omega, by simpa using hm1, rfl, rfl⟩
      case round =>
        obtain ⟨t, ht, htm, rfl, rfl⟩ := hrel
        have hp0 : 0 < 2 ^ t := Nat.pow_pos (by decide)
        by_cases hdb : 2 ^ t ≤ m - 2 ^ t
        · have hs2 : 2 ^ (t + 1) = 2 * 2 ^ t := by rw [Nat.pow_succ]; omega
          have ht2 : t + 1 < 30 := Classical.byContradiction fun h => by
            have := Nat.pow_le_pow_right (n := 2) (by decide) (show 29 ≤ t by omega)
            omega
          have HS := hide (And.intro hs2 ht2)
          clear hs2 ht2
          generalize 2 ^ t = k at *
          have hdb' : (k : Int) ≤ (m : Int) - (k : Int) := by omega
          go_wp2_with fail
          refine ⟨⟨t + 1, (unhide HS).2, by rw [(unhide HS).1]; omega, by rw [(unhide HS).1]; go_num, by first | rfl | trivial⟩, by simp [intOf]; omega⟩
        · have hlt2 : m < 2 * 2 ^ t := by omega
          have hst := (unhide HC).2.2.2.1 a t (by omega) (by rw [(unhide HC).2.2.2.2.2.1, (unhide HV).2.2.2]; exact htm) (by rw [(unhide HC).2.2.2.2.2.1, (unhide HV).2.2.2]; exact hlt2)
          have hof := (unhide HC).1 a (2 ^ t)
          have hmb := (unhide HC).2.1 a (2 ^ t)
          have hml := (unhide HC).2.2.1 a (2 ^ t)
          generalize 2 ^ t = k at *
          have hm0 := (unhide HV).2.2.2
          generalize mth (wi : Int) ((ls.drop a).take k) = M at *
          have hdb' : ¬ (k : Int) ≤ (m : Int) - (k : Int) := by omega
          have hcall := hof _ (by omega) hp0 (unhide HV).1.own.fr
          have HM := hide (And.intro hst (And.intro hcall (And.intro hmb hml)))
          clear hst hof hmb hml hcall
          have q1 : (0 : Int) ≤ (k : Int) := by omega
          have q2 : (k : Int) ≤ ((xc - a : Nat) : Int) := by omega
          have q3 : (k : Int) ≤ (m : Int) := by omega
          obtain ⟨c2, hc2⟩ : ∃ c2, xc - a = c2 := ⟨_, rfl⟩
          have hc3 : m ≤ c2 := by omega
          rw [hc2] at q2
          rw [hc2]
          have hcall := (unhide HM).2.1
          rw [hc2] at hcall
          have HM2 := hide hcall
          clear hcall
          go_wp2_with fail
          refine (unhide HM2).mono ?_
          rintro e w1 ⟨yo, yc, rfl, hS1, hF1, hK1⟩
          have hV1 := (unhide HV).1.fr0 hF1
          have hS1' : Sl w1 (.slice yo M.length yc) M := by rw [(unhide HM).2.2.2]; exact hS1
          have hwr : w.heap.size ≤ wr.heap.size := (unhide HV).1.own.fr.size
          obtain ⟨a2, c3, w2, hr2, hV2, _⟩ := hV1.stepS M yo yc hS1' (.inr (fun g1 o1 n1 c1 e g' hg' e2 => by
            have h1 := hK1 g1 o1 n1 c1 (by rw [← (unhide HM).2.2.2]; exact e)
            have h2 := (unhide HV).1.own.own.lt g' hg'
            rcases h1 with h1 | h1 <;> omega)) (by have := (unhide HV).2.2.1; omega)
          rw [(unhide HM).2.2.2] at hr2 hV2
          have hql : qs ++ [M] ++ pkL wi (ls.drop (a + k)) = pkL wi ls := by rw [List.append_assoc, ← (unhide HV).2.1, (unhide HM).1]; rfl
          have HW := hide (And.intro hr2 (And.intro hV2 hql))
          clear hS1 hF1 hK1 hV1 hS1' hr2 hV2 hql
          generalize hU : us.length = U at *
          have HU := hide hU
          clear hU
          by_cases hkc : k = c2
          · have hkm : k = m := by omega
            subst hkc
            subst hkm
            go_wp2_with (at_builtin; refine wpList_app rfl _ _ 22 22 rfl _ _ _ rfl rfl (unhide HW).1 ?_)
            refine ⟨⟨a + k, a2, c3, _, _, by omega, by rw [List.length_append, unhide HU]; rfl, by have := (unhide HV).2.2.1; rw [List.length_append, unhide HU] at *; simp; omega, (unhide HW).2.1, (unhide HW).2.2, .inr ⟨by omega, _, _, rfl⟩⟩, by simp [slenP]; omega⟩
          · have hkc' : ¬ c2 = k := fun h => hkc h.symm
            go_wp2_with (at_builtin; refine wpList_app rfl _ _ 22 22 rfl _ _ _ rfl rfl (unhide HW).1 ?_)
            refine ⟨⟨a + k, a2, c3, _, _, by omega, by rw [List.length_append, unhide HU]; rfl, by have := (unhide HV).2.2.1; rw [List.length_append, unhide HU] at *; simp; omega, (unhide HW).2.1, (unhide HW).2.2, ?_⟩, by simp [slenP]; omega⟩
            by_cases h0 : m - k = 0
            · exact .inr ⟨by omega, _, _, by rw [h0]⟩
            · refine .inl ⟨by omega, ?_⟩
              have e1 : m - k = N - (a + k) := by omega
              have e2 : c2 - k = xc - (a + k) := by omega
              rw [e1, e2, Nat.add_assoc]
    · have hpc := hV.pcs
      rw [(unhide HC).2.2.2.2.1 a rfl, List.append_nil] at hq
      rw [hq] at hpc
      have HO := hide (And.intro hpc hV.own.fr)
      clear hpc hV hq
      generalize hU : us.length = U at *
      go_wp2_with fail
      go_ret
      exact ⟨ao, cp, us, by rw [hU]; rfl, by rw [hU]; exact (unhide HO).1, (unhide HO).2⟩
end Go.Proofs.YthccbfgjekdiiaaDoor

namespace Go.Proofs.YthccbfgjekdiiaaDoor
open Go.RowKit

/-- Tree.Peaks, whatever the width. -/
def pkE (j : Int) (es : List (List Nat)) : List (List Nat) := if 1 ≤ j ∧ j ≤ 32 then pkL j.toNat (es.map (lf j)) else []
theorem tpeaksU {w0 w : World} {j : Int} {tb eb : Nat} {dO : Option Addr} {dc : Nat} {us : List Value} {es : List (List Nat)} (h : TS w0 w j tb eb dO dc us es) :
    Calls Tryd.prog 43 #[.pointer (some ⟨tb, 0, none⟩)] w fun e w' => ∃ ao cp vs, e = .returned (.slice ao vs.length cp) ∧ OL w w' ao cp vs (pkE j es) := by
  have hlm : (es.map (lf j)).length = es.length := List.length_map _
  by_cases hj : (1 ≤ j ∧ j ≤ 32) ∧ 0 < es.length
  · rw [pkE, if_pos hj.1, pkL, if_neg (by omega)]
    obtain ⟨wi, rfl⟩ : ∃ wi : Nat, j = (wi : Int) := ⟨j.toNat, by omega⟩
    rw [Int.toNat_natCast]
    exact tpeaks_in tb wi (by omega) (by omega) _ w (h.tk (by omega) (by omega)) (by omega)
  · have e : pkE j es = [] := by
      rw [pkE]
      split
      · rw [pkL, if_pos (by omega)]
      · rfl
    rw [e]
    refine (tpeaks_no tb es.length j w h.cs.1 h.cs.2 (by omega)).mono ?_
    rintro e' w' ⟨rfl, rfl⟩
    exact ⟨none, 0, [], rfl, OL.nil _⟩
theorem pkL_ok (wi : Nat) (hw1 : 1 ≤ wi) (hw32 : wi ≤ 32) (ls : List (List Nat)) (hL : ∀ p ∈ ls, p.length = wi) (k : Nat) : ∀ f n, n ≤ k → ∀ p ∈ pks wi ls f n, p.length = wi := by
  induction k with
  | zero => intro f n h p hp; rw [pks, dif_pos (by omega)] at hp; rw [List.mem_singleton.1 hp]; exact mth_wid wi hw1 hw32 _ (fun q hq => hL q (blk_mem _ _ _ q hq))
  | succ k ih =>
    intro f n h p hp
    by_cases h1 : oc n = 1 ∨ n < 2
    · rw [pks, dif_pos h1] at hp; rw [List.mem_singleton.1 hp]; exact mth_wid wi hw1 hw32 _ (fun q hq => hL q (blk_mem _ _ _ q hq))
    · have h3 := hf_lt n (by omega)
      have h4 := hf_pos n
      rw [pks_two (by omega) (by omega)] at hp
      rcases List.mem_cons.1 hp with rfl | hp
      · exact mth_wid wi hw1 hw32 _ (fun q hq => hL q (blk_mem _ _ _ q hq))
      · exact ih _ _ (by omega) p hp
set_option maxRecDepth 100000 in
set_option maxHeartbeats 1000000 in
theorem grow_k_in (wi K dg : Nat) (hw1 : 1 ≤ wi) (hw32 : wi ≤ 32) (I : Int) (tb eb : Nat) (dc : Nat) (us : List Value) (es : List (List Nat)) (w0 w : World) (h : TS w0 w wi tb eb (some ⟨dg, 0, none⟩) dc us es) (hK : K ≤ es.length) (eo po : Option Addr) (EN ec PN pc : Nat) :
    Calls Tryd.prog 16 #[.int .i64 wi, .pointer (some ⟨tb, 0, none⟩), .pointer (some ⟨eb, 0, none⟩), .agg #[.int .i64 2, .int .i64 I, .int .i64 K, .slice eo EN ec, .slice po PN pc]] w fun e w' => e = .returned (.bool true) ∧ Fr (fun _ => False) w w' := by
  have hnum := h.num
  have hcap := h.cap
  have hF1 : Fr (fun _ => False) w (w.alloc (.cells #[.int .i64 2, .int .i64 I, .int .i64 K, .slice eo EN ec, .slice po PN pc] 43)) := (Fr.refl _ _).alloc _
  have hbx : (w.alloc (.cells #[.int .i64 2, .int .i64 I, .int .i64 K, .slice eo EN ec, .slice po PN pc] 43)).cell? ⟨eb, 0, none⟩ = some (.slice (some ⟨dg, 0, none⟩) es.length dc) := (h.fr0 hF1).box
  have hmay := fun w' => may_yes wi w' (by omega) (by omega)
  have hget := fun w' (hf : Fr (fun _ => False) w w') => tpeaksU (h.fr0 hf)
  have he : pkE wi es = pkL wi (es.map (lf wi)) := by rw [pkE, if_pos (by omega), Int.toNat_natCast]
  rw [he] at hget
  have hlm : (es.map (lf (wi : Int))).length = es.length := List.length_map _
  have hlv := fun w' (hf : Fr (fun _ => False) w w') => gleaves_any wi (.slice (some ⟨dg, 0, none⟩) es.length dc) us es w' (h.gr.fr0 hf) (h.fr0 hf).pcs h.len (by omega)
  have hwd := map_lf_len wi hw1 hw32 es
  have hpk := fun w' xo xc us' (hf : Fr (fun _ => False) w w') (hp : Pcs w' (.slice xo es.length xc) us' (es.map (lf wi))) (hc : es.length ≤ xc) => gpeaks_any wi hw1 hw32 xo xc us' (es.map (lf wi)) w' (h.gr.fr0 hf) (by rw [hlm]; exact hp) (by rw [hlm]; exact hc) hwd (by rw [hlm]; omega)
  rw [hlm] at hpk
  have hok : ∀ p ∈ pkL wi (es.map (lf wi)), p.length ≤ 1000 := fun p hp => by
    rw [pkL] at hp
    split at hp
    · cases hp
    · rw [pkL_ok wi hw1 hw32 _ hwd _ _ _ (Nat.le_refl _) p hp]; omega
  have hol : (pkL wi (es.map (lf wi))).length ≤ 8000000 := by
    rw [pkL]
    split
    · simp
    · have := pks_le wi (es.map (lf wi)) _ 0 (es.map (lf wi)).length (Nat.le_refl _)
      rw [hlm] at *
      omega
  generalize es.map (lf (wi : Int)) = LS at *
  generalize pkL wi LS = PK at *
  have HC := hide (And.intro hmay (And.intro hget (And.intro hlv (And.intro hpk (And.intro hok hol)))))
  clear hmay hget hlv hpk hok hol he hlm hwd
  have q0 : (0 : Int) ≤ (K : Int) := by omega
  have q1 : (K : Int) ≤ (es.length : Int) := by omega
  have q2 : (K : Int) ≤ (dc : Int) := by omega
  clear h
  generalize es.length = N at *
  go_enter Tryd.func16, Tryd.ntmps16
  go_wp2_with fail
  refine ((unhide HC).1 _).mono ?_
  rintro e wA ⟨rfl, rfl⟩
  go_wp2_with fail
  refine ((unhide HC).1 _).mono ?_
  rintro e wB ⟨rfl, rfl⟩
  go_wp2_with fail
  refine ((unhide HC).2.2.1 _ hF1).mono ?_
  rintro e wC ⟨lo, lc, us1, rfl, hPC, hFC, hcC⟩
  have HCc := hide (And.intro hPC (And.intro (hF1.trans hFC (fun _ _ h => h)) hcC))
  clear hPC hFC hcC hbx hF1
  go_wp2_with fail
  refine ((unhide HC).2.2.2.1 _ _ _ _ (unhide HCc).2.1 (unhide HCc).1 (unhide HCc).2.2).mono ?_
  rintro e wD ⟨zo, zc, ts, rfl, hPD, hFD⟩
  have HD := hide (And.intro hPD ((unhide HCc).2.1.trans hFD (fun _ _ h => h)))
  clear hPD hFD
  go_wp2_with fail
  refine ((unhide HC).2.1 _ (unhide HD).2).mono ?_
  rintro e w1 ⟨ao, cp, vs, rfl, hO1⟩
  have H1 := hide (And.intro hO1 ((unhide HD).2.trans hO1.own.fr (fun _ _ h => h)))
  clear hO1
  go_wp2_with fail
  refine ((unhide HC).2.1 _ (unhide H1).2).mono ?_
  rintro e w2 ⟨bo, bc, us2, rfl, hO2⟩
  have H2 := hide hO2
  clear hO2
  go_wp2_with fail
  refine (held_T (unhide H1).1 (unhide H2) (unhide HD).1 0 (unhide HC).2.2.2.2.1 (unhide HC).2.2.2.2.2).mono ?_
  rintro e w3 ⟨rfl, hF3⟩
  have H3 := hide ((unhide HD).2.trans hF3 (fun _ _ h => h))
  clear hF3
  go_wp2_with fail
  go_ret
  exact ⟨rfl, unhide H3⟩
set_option maxRecDepth 100000 in
set_option maxHeartbeats 1000000 in
theorem grow_k_in0 (wi : Nat) (hw1 : 1 ≤ wi) (hw32 : wi ≤ 32) (I : Int) (tb eb : Nat) (us : List Value) (w0 w : World) (h : TS w0 w wi tb eb none 0 us ([] : List (List Nat)))  (eo po : Option Addr) (EN ec PN pc : Nat) :
    Calls Tryd.prog 16 #[.int .i64 wi, .pointer (some ⟨tb, 0, none⟩), .pointer (some ⟨eb, 0, none⟩), .agg #[.int .i64 2, .int .i64 I, .int .i64 0, .slice eo EN ec, .slice po PN pc]] w fun e w' => e = .returned (.bool true) ∧ Fr (fun _ => False) w w' := by
  have hnum := h.num
  have hcap := h.cap
  have hF1 : Fr (fun _ => False) w (w.alloc (.cells #[.int .i64 2, .int .i64 I, .int .i64 0, .slice eo EN ec, .slice po PN pc] 43)) := (Fr.refl _ _).alloc _
  have hbx : (w.alloc (.cells #[.int .i64 2, .int .i64 I, .int .i64 0, .slice eo EN ec, .slice po PN pc] 43)).cell? ⟨eb, 0, none⟩ = some (.slice none 0 0) := (h.fr0 hF1).box
  have hmay := fun w' => may_yes wi w' (by omega) (by omega)
  have hget := fun w' (hf : Fr (fun _ => False) w w') => tpeaksU (h.fr0 hf)
  have he : pkE wi ([] : List (List Nat)) = pkL wi (([] : List (List Nat)).map (lf wi)) := by rw [pkE, if_pos (by omega), Int.toNat_natCast]
  rw [he] at hget
  have hlm : (([] : List (List Nat)).map (lf (wi : Int))).length = 0 := List.length_map _
  have hlv := fun w' (hf : Fr (fun _ => False) w w') => gleaves_any wi (.slice none 0 0) us ([] : List (List Nat)) w' (h.gr.fr0 hf) (h.fr0 hf).pcs h.len (by simp)
  have hwd := map_lf_len wi hw1 hw32 ([] : List (List Nat))
  have hpk := fun w' xo xc us' (hf : Fr (fun _ => False) w w') (hp : Pcs w' (.slice xo 0 xc) us' (([] : List (List Nat)).map (lf wi))) (hc : 0 ≤ xc) => gpeaks_any wi hw1 hw32 xo xc us' (([] : List (List Nat)).map (lf wi)) w' (h.gr.fr0 hf) (by rw [hlm]; exact hp) (by rw [hlm]; exact hc) hwd (by rw [hlm]; simp)
  rw [hlm] at hpk
  have hok : ∀ p ∈ pkL wi (([] : List (List Nat)).map (lf wi)), p.length ≤ 1000 := fun p hp => by simp [pkL] at hp
  have hol : (pkL wi (([] : List (List Nat)).map (lf wi))).length ≤ 8000000 := by simp [pkL]
  generalize ([] : List (List Nat)).map (lf (wi : Int)) = LS at *
  generalize pkL wi LS = PK at *
  have HC := hide (And.intro hmay (And.intro hget (And.intro hlv (And.intro hpk (And.intro hok hol)))))
  clear hmay hget hlv hpk hok hol he hlm hwd
  clear h
  go_enter Tryd.func16, Tryd.ntmps16
  go_wp2_with fail
  refine ((unhide HC).1 _).mono ?_
  rintro e wA ⟨rfl, rfl⟩
  go_wp2_with fail
  refine ((unhide HC).1 _).mono ?_
  rintro e wB ⟨rfl, rfl⟩
  go_wp2_with fail
  refine ((unhide HC).2.2.1 _ hF1).mono ?_
  rintro e wC ⟨lo, lc, us1, rfl, hPC, hFC, hcC⟩
  have HCc := hide (And.intro hPC (And.intro (hF1.trans hFC (fun _ _ h => h)) hcC))
  clear hPC hFC hcC hbx hF1
  go_wp2_with fail
  refine ((unhide HC).2.2.2.1 _ _ _ _ (unhide HCc).2.1 (unhide HCc).1 (unhide HCc).2.2).mono ?_
  rintro e wD ⟨zo, zc, ts, rfl, hPD, hFD⟩
  have HD := hide (And.intro hPD ((unhide HCc).2.1.trans hFD (fun _ _ h => h)))
  clear hPD hFD
  go_wp2_with fail
  refine ((unhide HC).2.1 _ (unhide HD).2).mono ?_
  rintro e w1 ⟨ao, cp, vs, rfl, hO1⟩
  have H1 := hide (And.intro hO1 ((unhide HD).2.trans hO1.own.fr (fun _ _ h => h)))
  clear hO1
  go_wp2_with fail
  refine ((unhide HC).2.1 _ (unhide H1).2).mono ?_
  rintro e w2 ⟨bo, bc, us2, rfl, hO2⟩
  have H2 := hide hO2
  clear hO2
  go_wp2_with fail
  refine (held_T (unhide H1).1 (unhide H2) (unhide HD).1 0 (unhide HC).2.2.2.2.1 (unhide HC).2.2.2.2.2).mono ?_
  rintro e w3 ⟨rfl, hF3⟩
  have H3 := hide ((unhide HD).2.trans hF3 (fun _ _ h => h))
  clear hF3
  go_wp2_with fail
  go_ret
  exact ⟨rfl, unhide H3⟩
set_option maxRecDepth 100000 in
set_option maxHeartbeats 1000000 in
theorem grow_k_nm (j k : Int) (hj : ¬ (1 ≤ j ∧ j ≤ 32)) (I : Int) (tb eb : Nat) (dO : Option Addr) (dc : Nat) (us : List Value) (es : List (List Nat)) (w0 w : World) (h : TS w0 w j tb eb dO dc us es)  (eo po : Option Addr) (EN ec PN pc : Nat) :
    Calls Tryd.prog 16 #[.int .i64 j, .pointer (some ⟨tb, 0, none⟩), .pointer (some ⟨eb, 0, none⟩), .agg #[.int .i64 2, .int .i64 I, .int .i64 k, .slice eo EN ec, .slice po PN pc]] w fun e w' => e = .returned (.bool true) ∧ Fr (fun _ => False) w w' := by
  have hnum := h.num
  have hcap := h.cap
  have hF1 : Fr (fun _ => False) w (w.alloc (.cells #[.int .i64 2, .int .i64 I, .int .i64 k, .slice eo EN ec, .slice po PN pc] 43)) := (Fr.refl _ _).alloc _
  have hbx : (w.alloc (.cells #[.int .i64 2, .int .i64 I, .int .i64 k, .slice eo EN ec, .slice po PN pc] 43)).cell? ⟨eb, 0, none⟩ = some (.slice dO es.length dc) := (h.fr0 hF1).box
  have hmay := fun w' => may_no j w' (by omega)
  have hget := fun w' (hf : Fr (fun _ => False) w w') => tpeaksU (h.fr0 hf)
  have he : pkE j es = [] := by rw [pkE, if_neg hj]
  rw [he] at hget
  have HC := hide (And.intro hmay hget)
  clear hmay hget he
  clear h
  generalize es.length = N at *
  go_enter Tryd.func16, Tryd.ntmps16
  go_wp2_with fail
  refine ((unhide HC).1 _).mono ?_
  rintro e wA ⟨rfl, rfl⟩
  go_wp2_with fail
  refine ((unhide HC).1 _).mono ?_
  rintro e wB ⟨rfl, rfl⟩
  go_wp2_with fail
  refine ((unhide HC).2 _ hF1).mono ?_
  rintro e w1 ⟨ao, cp, vs, rfl, hO1⟩
  have H1 := hide (And.intro hO1 (hF1.trans hO1.own.fr (fun _ _ h => h)))
  clear hO1
  go_wp2_with fail
  refine ((unhide HC).2 _ (unhide H1).2).mono ?_
  rintro e w2 ⟨bo, bc, us2, rfl, hO2⟩
  have H2 := hide hO2
  clear hO2
  go_wp2_with fail
  refine (held_T (unhide H1).1 (unhide H2) (pcs_nil _) 0 (fun _ h => by cases h) (by simp)).mono ?_
  rintro e w3 ⟨rfl, hF3⟩
  have H3 := hide (hF1.trans hF3 (fun _ _ h => h))
  clear hF3
  go_wp2_with fail
  go_ret
  exact ⟨rfl, unhide H3⟩
set_option maxRecDepth 100000 in
set_option maxHeartbeats 1000000 in
theorem grow_k_lo (wi : Nat) (k : Int) (hw1 : 1 ≤ wi) (hw32 : wi ≤ 32) (hk : k < 0) (I : Int) (tb eb : Nat) (dO : Option Addr) (dc : Nat) (us : List Value) (es : List (List Nat)) (w0 w : World) (h : TS w0 w wi tb eb dO dc us es)  (eo po : Option Addr) (EN ec PN pc : Nat) :
    Calls Tryd.prog 16 #[.int .i64 wi, .pointer (some ⟨tb, 0, none⟩), .pointer (some ⟨eb, 0, none⟩), .agg #[.int .i64 2, .int .i64 I, .int .i64 k, .slice eo EN ec, .slice po PN pc]] w fun e w' => e = .returned (.bool true) ∧ Fr (fun _ => False) w w' := by
  have hnum := h.num
  have hcap := h.cap
  have hF1 : Fr (fun _ => False) w (w.alloc (.cells #[.int .i64 2, .int .i64 I, .int .i64 k, .slice eo EN ec, .slice po PN pc] 43)) := (Fr.refl _ _).alloc _
  have hbx : (w.alloc (.cells #[.int .i64 2, .int .i64 I, .int .i64 k, .slice eo EN ec, .slice po PN pc] 43)).cell? ⟨eb, 0, none⟩ = some (.slice dO es.length dc) := (h.fr0 hF1).box
  have hmay := fun w' => may_yes wi w' (by omega) (by omega)
  have hget := fun w' (hf : Fr (fun _ => False) w w') => tpeaksU (h.fr0 hf)
  have he : pkE wi es = pkL wi (es.map (lf wi)) := by rw [pkE, if_pos (by omega), Int.toNat_natCast]
  rw [he] at hget
  have hlm : (es.map (lf (wi : Int))).length = es.length := List.length_map _
  have hlv := fun w' (hf : Fr (fun _ => False) w w') => gleaves_any wi (.slice dO es.length dc) us es w' (h.gr.fr0 hf) (h.fr0 hf).pcs h.len (by omega)
  have hwd := map_lf_len wi hw1 hw32 es
  have hpk := fun w' xo xc us' (hf : Fr (fun _ => False) w w') (hp : Pcs w' (.slice xo es.length xc) us' (es.map (lf wi))) (hc : es.length ≤ xc) => gpeaks_any wi hw1 hw32 xo xc us' (es.map (lf wi)) w' (h.gr.fr0 hf) (by rw [hlm]; exact hp) (by rw [hlm]; exact hc) hwd (by rw [hlm]; omega)
  rw [hlm] at hpk
  have hok : ∀ p ∈ pkL wi (es.map (lf wi)), p.length ≤ 1000 := fun p hp => by
    rw [pkL] at hp
    split at hp
    · cases hp
    · rw [pkL_ok wi hw1 hw32 _ hwd _ _ _ (Nat.le_refl _) p hp]; omega
  have hol : (pkL wi (es.map (lf wi))).length ≤ 8000000 := by
    rw [pkL]
    split
    · simp
    · have := pks_le wi (es.map (lf wi)) _ 0 (es.map (lf wi)).length (Nat.le_refl _)
      rw [hlm] at *
      omega
  generalize es.map (lf (wi : Int)) = LS at *
  generalize pkL wi LS = PK at *
  have HC := hide (And.intro hmay (And.intro hget (And.intro hlv (And.intro hpk (And.intro hok hol)))))
  clear hmay hget hlv hpk hok hol he hlm hwd
  clear h
  generalize es.length = N at *
  go_enter Tryd.func16, Tryd.ntmps16
  go_wp2_with fail
  refine ((unhide HC).1 _).mono ?_
  rintro e wA ⟨rfl, rfl⟩
  go_wp2_with fail
  refine ((unhide HC).1 _).mono ?_
  rintro e wB ⟨rfl, rfl⟩
  go_wp2_with fail
  refine ((unhide HC).2.2.1 _ hF1).mono ?_
  rintro e wC ⟨lo, lc, us1, rfl, hPC, hFC, hcC⟩
  have HCc := hide (And.intro hPC (And.intro (hF1.trans hFC (fun _ _ h => h)) hcC))
  clear hPC hFC hcC hbx hF1
  go_wp2_with fail
  refine ((unhide HC).2.2.2.1 _ _ _ _ (unhide HCc).2.1 (unhide HCc).1 (unhide HCc).2.2).mono ?_
  rintro e wD ⟨zo, zc, ts, rfl, hPD, hFD⟩
  have HD := hide (And.intro hPD ((unhide HCc).2.1.trans hFD (fun _ _ h => h)))
  clear hPD hFD
  go_wp2_with fail
  refine ((unhide HC).2.1 _ (unhide HD).2).mono ?_
  rintro e w1 ⟨ao, cp, vs, rfl, hO1⟩
  have H1 := hide (And.intro hO1 ((unhide HD).2.trans hO1.own.fr (fun _ _ h => h)))
  clear hO1
  go_wp2_with fail
  refine ((unhide HC).2.1 _ (unhide H1).2).mono ?_
  rintro e w2 ⟨bo, bc, us2, rfl, hO2⟩
  have H2 := hide hO2
  clear hO2
  go_wp2_with fail
  refine (held_T (unhide H1).1 (unhide H2) (unhide HD).1 0 (unhide HC).2.2.2.2.1 (unhide HC).2.2.2.2.2).mono ?_
  rintro e w3 ⟨rfl, hF3⟩
  have H3 := hide ((unhide HD).2.trans hF3 (fun _ _ h => h))
  clear hF3
  go_wp2_with fail
  go_ret
  exact ⟨rfl, unhide H3⟩
set_option maxRecDepth 100000 in
set_option maxHeartbeats 1000000 in
theorem grow_k_hi (wi : Nat) (k : Int) (hw1 : 1 ≤ wi) (hw32 : wi ≤ 32) (I : Int) (tb eb : Nat) (dO : Option Addr) (dc : Nat) (us : List Value) (es : List (List Nat)) (w0 w : World) (h : TS w0 w wi tb eb dO dc us es) (hk : (es.length : Int) < k) (eo po : Option Addr) (EN ec PN pc : Nat) :
    Calls Tryd.prog 16 #[.int .i64 wi, .pointer (some ⟨tb, 0, none⟩), .pointer (some ⟨eb, 0, none⟩), .agg #[.int .i64 2, .int .i64 I, .int .i64 k, .slice eo EN ec, .slice po PN pc]] w fun e w' => e = .returned (.bool true) ∧ Fr (fun _ => False) w w' := by
  have hnum := h.num
  have hcap := h.cap
  have hF1 : Fr (fun _ => False) w (w.alloc (.cells #[.int .i64 2, .int .i64 I, .int .i64 k, .slice eo EN ec, .slice po PN pc] 43)) := (Fr.refl _ _).alloc _
  have hbx : (w.alloc (.cells #[.int .i64 2, .int .i64 I, .int .i64 k, .slice eo EN ec, .slice po PN pc] 43)).cell? ⟨eb, 0, none⟩ = some (.slice dO es.length dc) := (h.fr0 hF1).box
  have hmay := fun w' => may_yes wi w' (by omega) (by omega)
  have hget := fun w' (hf : Fr (fun _ => False) w w') => tpeaksU (h.fr0 hf)
  have he : pkE wi es = pkL wi (es.map (lf wi)) := by rw [pkE, if_pos (by omega), Int.toNat_natCast]
  rw [he] at hget
  have hlm : (es.map (lf (wi : Int))).length = es.length := List.length_map _
  have hlv := fun w' (hf : Fr (fun _ => False) w w') => gleaves_any wi (.slice dO es.length dc) us es w' (h.gr.fr0 hf) (h.fr0 hf).pcs h.len (by omega)
  have hwd := map_lf_len wi hw1 hw32 es
  have hpk := fun w' xo xc us' (hf : Fr (fun _ => False) w w') (hp : Pcs w' (.slice xo es.length xc) us' (es.map (lf wi))) (hc : es.length ≤ xc) => gpeaks_any wi hw1 hw32 xo xc us' (es.map (lf wi)) w' (h.gr.fr0 hf) (by rw [hlm]; exact hp) (by rw [hlm]; exact hc) hwd (by rw [hlm]; omega)
  rw [hlm] at hpk
  have hok : ∀ p ∈ pkL wi (es.map (lf wi)), p.length ≤ 1000 := fun p hp => by
    rw [pkL] at hp
    split at hp
    · cases hp
    · rw [pkL_ok wi hw1 hw32 _ hwd _ _ _ (Nat.le_refl _) p hp]; omega
  have hol : (pkL wi (es.map (lf wi))).length ≤ 8000000 := by
    rw [pkL]
    split
    · simp
    · have := pks_le wi (es.map (lf wi)) _ 0 (es.map (lf wi)).length (Nat.le_refl _)
      rw [hlm] at *
      omega
  generalize es.map (lf (wi : Int)) = LS at *
  generalize pkL wi LS = PK at *
  have HC := hide (And.intro hmay (And.intro hget (And.intro hlv (And.intro hpk (And.intro hok hol)))))
  clear hmay hget hlv hpk hok hol he hlm hwd
  have q0 : ¬ k < 0 := by omega
  have q1 : ¬ k ≤ (es.length : Int) := by omega
  have q3 : decide (k ≤ (es.length : Int)) = false := decide_eq_false q1
  clear h
  generalize es.length = N at *
  go_enter Tryd.func16, Tryd.ntmps16
  go_wp2_with fail
  refine ((unhide HC).1 _).mono ?_
  rintro e wA ⟨rfl, rfl⟩
  go_wp2_with fail
  refine ((unhide HC).1 _).mono ?_
  rintro e wB ⟨rfl, rfl⟩
  go_wp2_with fail
  refine ((unhide HC).2.2.1 _ hF1).mono ?_
  rintro e wC ⟨lo, lc, us1, rfl, hPC, hFC, hcC⟩
  have HCc := hide (And.intro hPC (And.intro (hF1.trans hFC (fun _ _ h => h)) hcC))
  clear hPC hFC hcC hbx hF1
  go_wp2_with fail
  refine ((unhide HC).2.2.2.1 _ _ _ _ (unhide HCc).2.1 (unhide HCc).1 (unhide HCc).2.2).mono ?_
  rintro e wD ⟨zo, zc, ts, rfl, hPD, hFD⟩
  have HD := hide (And.intro hPD ((unhide HCc).2.1.trans hFD (fun _ _ h => h)))
  clear hPD hFD
  go_wp2_with fail
  refine ((unhide HC).2.1 _ (unhide HD).2).mono ?_
  rintro e w1 ⟨ao, cp, vs, rfl, hO1⟩
  have H1 := hide (And.intro hO1 ((unhide HD).2.trans hO1.own.fr (fun _ _ h => h)))
  clear hO1
  go_wp2_with fail
  refine ((unhide HC).2.1 _ (unhide H1).2).mono ?_
  rintro e w2 ⟨bo, bc, us2, rfl, hO2⟩
  have H2 := hide hO2
  clear hO2
  go_wp2_with fail
  refine (held_T (unhide H1).1 (unhide H2) (unhide HD).1 0 (unhide HC).2.2.2.2.1 (unhide HC).2.2.2.2.2).mono ?_
  rintro e w3 ⟨rfl, hF3⟩
  have H3 := hide ((unhide HD).2.trans hF3 (fun _ _ h => h))
  clear hF3
  go_wp2_with fail
  go_ret
  exact ⟨rfl, unhide H3⟩
end Go.Proofs.YthccbfgjekdiiaaDoor

namespace Go.Proofs.YthccbfgjekdiiaaDoor
open Go.RowKit

theorem OB.sl2 {w wr : World} {xo : Option Addr} {cp n : Nat} {l : List Nat} (h : OB w wr xo cp l) (hb : ∀ v ∈ l, v < 256) (hn : l.length = n) : Sl wr (.slice xo n cp) l := hn ▸ h.sl hb
theorem Pcs.ss4 {w : World} {x : Value} {vs : List Value} {ps : List (List Nat)} (h : Pcs w x vs ps) : SS w x vs := by
  refine ⟨?_, fun u hu => ?_⟩
  · rcases h.at_ with h | h | ⟨g, o, c, e, _, hc⟩
    · exact .inl h
    · exact .inr (.inl h)
    · exact .inr (.inr ⟨g, o, c, e, hc⟩)
  · obtain ⟨j, hj, rfl⟩ := List.getElem_of_mem hu
    have hj2 : j < ps.length := by rw [← h.len]; exact hj
    obtain ⟨xo, xc, e⟩ := (h.sl j vs[j] ps[j] (List.getElem?_eq_getElem hj) (List.getElem?_eq_getElem hj2)).form
    exact ⟨_, _, _, e⟩
/-- append(append(nil, p...), r). -/
theorem app_more4 {w : World} {po : Option Addr} {N pc : Nat} {vs : List Value} {ps : List (List Nat)} {ro : Option Addr} {wi rc : Nat} {r : List Nat} (hp : Pcs w (.slice po N pc) vs ps) (hN : ps.length = N) (hn : N ≤ 8000000) (hr : Sl w (.slice ro wi rc) r) :
    ∃ ao cp w2, (Builtin.append_ #[22, 22] 22 #[.slice none 0 0, .slice po N pc]).run Tryd.prog w = .ok (.slice ao N cp) w2 ∧ Fr (fun _ => False) w w2 ∧
      ∃ g bc w3, (Builtin.append_ #[22, 22] 22 #[.slice ao N cp, .slice (some ⟨w2.heap.size, 0, none⟩) 1 1]).run Tryd.prog (w2.alloc (.cells #[.slice ro wi rc] 25)) = .ok (.slice (some ⟨g, 0, none⟩) (N + 1) bc) w3 ∧
        Pcs w3 (.slice (some ⟨g, 0, none⟩) (N + 1) bc) (vs ++ [.slice ro wi rc]) (ps ++ [r]) ∧ N + 1 ≤ bc ∧ w.heap.size ≤ g ∧ Fr (fun _ => False) w w3 := by
  have hown : w.ownsRow w.heap.size 25 1 (.slice none 0 0) 0 [] := ⟨rfl, .inl ⟨rfl, rfl⟩⟩
  have hvl : vs.length = N := by rw [hp.len, hN]
  obtain ⟨ao, cp, w2, hr2, ho2, hg2, -⟩ := run_app_ss w w.heap.size 0 _ _ [] vs hown hp.ss4 (by omega) (Nat.le_refl _)
  rw [Nat.zero_add, hvl] at hr2 ho2
  rw [List.nil_append] at ho2
  have hF2 : Fr (fun _ => False) w w2 := (Fr.refl _ _).grown hg2 (fun g hg => .inr (hown.lt g hg).1)
  have hOS : OS w w2 ao cp vs := ⟨by rw [hvl]; exact ho2, hF2⟩
  obtain ⟨bo, bc, w3, hr3, hO3, hg3, -⟩ := hOS.app1 ro wi rc (by omega)
  rw [hvl] at hr3
  have hF3 := hO3.fr
  have hpc := hO3.pcs (ps := ps ++ [r]) (by rw [List.length_append, List.length_append, hp.len]; rfl) (fun j v p hv hp' => by
    by_cases hj : j < vs.length
    · rw [List.getElem?_append_left hj] at hv
      rw [List.getElem?_append_left (by rw [← hp.len]; exact hj)] at hp'
      exact (hp.sl j v p hv hp').fr0 hF3
    · have hje : j = vs.length := by
        have := (List.getElem?_eq_some_iff.1 hv).1
        rw [List.length_append, List.length_singleton] at this
        omega
      subst hje
      rw [List.getElem?_append_right (Nat.le_refl _), Nat.sub_self] at hv
      rw [List.getElem?_append_right (by rw [hp.len]; exact Nat.le_refl _), hp.len, Nat.sub_self] at hp'
      simp at hv hp'
      subst hv hp'
      exact hr.fr0 hF3)
  have e : (vs ++ [Value.slice ro wi rc]).length = N + 1 := by rw [List.length_append, hvl]; rfl
  rw [e] at hpc
  have h4 := hO3.own
  rw [e] at h4
  rcases h4.2 with ⟨h, h0⟩ | ⟨g, cap, cur, h, h1, _, h3, _⟩
  · omega
  · simp only [Value.slice.injEq] at h
    obtain ⟨rfl, _, rfl⟩ := h
    exact ⟨ao, cp, w2, hr2, hF2, g, bc, w3, hr3, hpc, h3, h1, hF3⟩
/-- What Tree.Add leaves, whatever the width. -/
theorem addU (j : Int) (base tb : Nat) (es : List (List Nat)) (hbase : 6 ≤ base) (w : World) (xo : Option Addr) (cp : Nat) (vs : List Value) (rs : List (List Nat)) (x : Value) (e : List Nat) (hT : TrAt w base tb j es.length xo cp vs rs) (hR : 1 ≤ j ∧ j ≤ 32 → RowsOf j.toNat (es.map (lf j)) 0 rs) (hg : GS w) (hx : Sl w x e) (he : e.length ≤ 16000000) (hn : es.length ≤ 400) :
    Calls Tryd.prog 22 #[.pointer (some ⟨tb, 0, none⟩), x] w fun e' w' => e' = .returned (.int .i64 es.length) ∧ ∃ xo' cp' vs' rs', TrAt w' base tb j (es.length + 1) xo' cp' vs' rs' ∧ (1 ≤ j ∧ j ≤ 32 → RowsOf j.toNat ((es ++ [e]).map (lf j)) 0 rs') ∧ Fr (TOwn tb xo vs) w w' ∧ ∀ k, TOwn tb xo' vs' k → TOwn tb xo vs k ∨ w.heap.size ≤ k := by
  by_cases hj : 1 ≤ j ∧ j ≤ 32
  · obtain ⟨wi, rfl⟩ : ∃ wi : Nat, j = (wi : Int) := ⟨j.toNat, by omega⟩
    have hr := hR hj
    rw [Int.toNat_natCast] at hr ⊢
    have hwd := map_lf_len wi (by omega) (by omega) es
    have hlm : (es.map (lf (wi : Int))).length = es.length := List.length_map _
    obtain ⟨hs1, hs2⟩ := hr.small (by omega) (by omega) hwd (by omega)
    refine (add_in wi (by omega) (by omega) base tb es.length hbase w xo cp vs rs x e hT hg hx he hs1 hs2 (by omega)).mono ?_
    rintro e' w' ⟨rfl, xo', cp', vs', hT', hF, hO⟩
    refine ⟨rfl, xo', cp', vs', _, hT', fun _ => ?_, hF, hO⟩
    rw [List.map_append]
    exact hr.add (by omega) (by omega) (lf wi e) (fun p hp => (List.mem_append.1 hp).elim (hwd p) (fun hp => by rw [List.mem_singleton.1 hp]; exact lf_len wi (by omega) (by omega) e))
  · refine (add_out j (by omega) base tb es.length w xo cp vs rs x hT (by omega)).mono ?_
    rintro e' w' ⟨rfl, hT', hF⟩
    exact ⟨rfl, xo, cp, vs, rs, hT', fun h => absurd h hj, hF, fun k hk => .inl hk⟩
theorem Pcs.frD4 {w w' : World} {x : Value} {vs : List Value} {ps : List (List Nat)} {S : Nat → Prop} (h : Pcs w x vs ps) (hf : Fr S w w') (hx : ∀ g o n c, x = .slice (some ⟨g, o, none⟩) n c → g < w.heap.size → ¬ S g) (hv : ∀ (i : Nat) u p, vs[i]? = some u → ps[i]? = some p → p = [] ∨ ∀ g o n c, u = .slice (some ⟨g, o, none⟩) n c → ¬ S g) : Pcs w' x vs ps := by
  refine ⟨h.len, ?_, fun j v p hj hp => ?_, h.byt⟩
  · rcases h.at_ with h0 | h0 | ⟨g, o, c, e, h1, h2⟩
    · exact .inl h0
    · exact .inr (.inl h0)
    · exact .inr (.inr ⟨g, o, c, e, Nat.lt_of_lt_of_le h1 hf.size, fun j v hj => (hf.cell (p := ⟨g, o + j, none⟩) h1 (hx g o _ c e h1)).trans (h2 j v hj)⟩)
  · obtain ⟨q1, q2, q3⟩ := h.src j v p hj hp
    exact ⟨q1.frD hf (hv j v p hj hp), q2, q3.imp id (fun hh g o n c e => Nat.lt_of_lt_of_le (hh g o n c e) hf.size)⟩
/-- What an added entry leaves, ahead of the new list. -/
structure AA (w0 w3 : World) (j : Int) (tb eb : Nat) (dO : Option Addr) (dc : Nat) (us : List Value) (es : List (List Nat)) (ev : Value) (e : List Nat) : Prop where
  pcs : Pcs w3 (.slice dO es.length dc) us es
  ent : Sl w3 ev e
  box : ∃ v, w3.cell? ⟨eb, 0, none⟩ = some v
  bfz : w3.frozen? ⟨eb, 0, none⟩ = false
  lt : eb < w3.heap.size
  fr : Fr (fun _ => False) w0 w3
  tree : ∃ base xo cp vs rs, TrAt w3 base tb j (es.length + 1) xo cp vs rs ∧ w0.heap.size ≤ base ∧ (1 ≤ j ∧ j ≤ 32 → RowsOf j.toNat ((es ++ [e]).map (lf j)) 0 rs) ∧ ¬ TOwn tb xo vs eb
  gs : GS w3
  gr : GR w3
  gt : GT w3
theorem aa_of {w0 w W w1 w2 w3 : World} {j : Int} {tb eb : Nat} {dO : Option Addr} {dc : Nat} {us : List Value} {es : List (List Nat)} (h : TS w0 w j tb eb dO dc us es) (hng : 6 ≤ w0.heap.size) (ev : Value) (e : List Nat) (hev : Sl w ev e) (hevb : e = [] ∨ Bk ev (fun g => g < w0.heap.size))
    (hW : W.heap.size = w.heap.size + 1) (hFW : Fr (fun _ => False) w W) (bo : Option Addr) (bc : Nat) (hO1 : OB W w1 bo bc e) (base : Nat) (xo : Option Addr) (cp : Nat) (vs : List Value) (rs : List (List Nat)) (t1 : TrAt w base tb j es.length xo cp vs rs) (t2 : w0.heap.size ≤ base) (t4 : ¬ TOwn tb xo vs eb) (t5 : ∀ g o, dO = some ⟨g, o, none⟩ → ¬ TOwn tb xo vs g)
    (xo' : Option Addr) (cp' : Nat) (vs' : List Value) (rs' : List (List Nat)) (hT2 : TrAt w2 base tb j (es.length + 1) xo' cp' vs' rs') (hR2 : 1 ≤ j ∧ j ≤ 32 → RowsOf j.toNat ((es ++ [e]).map (lf j)) 0 rs') (hF12 : Fr (TOwn tb xo vs) w1 w2) (hO2 : ∀ k, TOwn tb xo' vs' k → TOwn tb xo vs k ∨ w1.heap.size ≤ k) (hF23 : Fr (fun k => ∃ o, bo = some ⟨k, o, none⟩) w2 w3) :
    AA w0 w3 j tb eb dO dc us es ev e ∧ ∀ c0 c1 c2 c3 c4, X5 W w.heap.size c0 c1 c2 c3 c4 → X5 w3 w.heap.size c0 c1 c2 c3 c4 := by
  have hF1 : Fr (fun _ => False) w w1 := hFW.trans hO1.fr (fun _ _ h => h)
  have hs1 : w.heap.size < w1.heap.size := by have := hO1.fr.size; omega
  have hs2 := hF12.size
  have hs3 := hF23.size
  have hbk : ∀ k, (∃ o, bo = some ⟨k, o, none⟩) → W.heap.size ≤ k ∧ k < w1.heap.size := fun k hk => by
    obtain ⟨o, rfl⟩ := hk
    exact World.ownsRow.lt hO1.own k rfl
  have hton : ∀ k, TOwn tb xo vs k → base ≤ k ∧ k < w.heap.size := fun k hk => t1.lt k hk
  have hs0 := h.fr.size
  have hF2 : Fr (fun k => TOwn tb xo vs k) w w2 := (hF1.mono (fun _ _ h => h.elim)).trans hF12 (fun _ _ h => h)
  have hF3 : Fr (fun k => TOwn tb xo vs k ∨ ∃ o, bo = some ⟨k, o, none⟩) w w3 := (hF2.mono (fun _ _ h => .inl h)).trans hF23 (fun _ _ h => .inr h)
  have hebl : eb < w.heap.size := lt_of_cell h.box
  have hno : ∀ k, k < w0.heap.size → ¬ (TOwn tb xo vs k ∨ ∃ o, bo = some ⟨k, o, none⟩) := fun k hk hh => by
    rcases hh with hh | hh
    · have := (hton k hh).1; omega
    · have := (hbk k hh).1; omega
  have hneb : ¬ (TOwn tb xo vs eb ∨ ∃ o, bo = some ⟨eb, o, none⟩) := fun hh => by
    rcases hh with hh | hh
    · exact t4 hh
    · have := (hbk eb hh).1; omega
  have hlow : ∀ k, k < 6 → ¬ (TOwn tb xo vs k ∨ ∃ o, bo = some ⟨k, o, none⟩) := fun k hk => hno k (by omega)
  refine ⟨⟨?_, ?_, ⟨_, (hF3.cell (p := ⟨eb, 0, none⟩) hebl hneb).trans h.box⟩, (frozen_fr hF3 ⟨eb, 0, none⟩ hebl hneb).trans h.bfz, by omega, ?_, ?_, h.gs.fr hF3 hlow, h.gr.fr hF3 hlow, h.gt.fr hF3 hlow⟩, ?_⟩
  · refine h.pcs.frD4 hF3 (fun g o n c e hl hh => ?_) (fun i u p hu hp => (h.oldb i u p hu hp).imp id (fun hb g o n c e => hno g (hb g o n c e)))
    cases e
    rcases hh with hh | hh
    · exact t5 g o rfl hh
    · have h1 := (hbk g hh).1
      omega
  · exact hev.frD hF3 (hevb.imp id (fun hb g o n c e => hno g (hb g o n c e)))
  · exact h.fr.trans hF3 (fun k hk hh => (hno k hk hh).elim)
  · refine ⟨base, xo', cp', vs', rs', hT2.fr hF23 (fun k hk hh => ?_), t2, hR2, fun hh => ?_⟩
    · have h1 := hbk k hh
      rcases hO2 k hk with h2 | h2
      · have := (hton k h2).2; omega
      · omega
    · rcases hO2 eb hh with h2 | h2
      · exact t4 h2
      · omega
  · rintro c0 c1 c2 c3 c4 ⟨a0, a1, a2, a3, a4⟩
    have hWl : w.heap.size < W.heap.size := by omega
    have hF3' : Fr (fun k => TOwn tb xo vs k ∨ ∃ o, bo = some ⟨k, o, none⟩) W w3 := ((hO1.fr.mono (fun _ _ h => h.elim)).trans hF12 (fun _ _ h => .inl h)).trans hF23 (fun _ _ h => .inr h)
    have hnw : ¬ (TOwn tb xo vs w.heap.size ∨ ∃ o, bo = some ⟨w.heap.size, o, none⟩) := fun hh => by
      rcases hh with hh | hh
      · have := (hton _ hh).2; omega
      · have := (hbk _ hh).1; omega
    exact ⟨(hF3'.cell (p := ⟨w.heap.size, 0, none⟩) hWl hnw).trans a0, (hF3'.cell (p := ⟨w.heap.size, 1, none⟩) hWl hnw).trans a1, (hF3'.cell (p := ⟨w.heap.size, 2, none⟩) hWl hnw).trans a2, (hF3'.cell (p := ⟨w.heap.size, 3, none⟩) hWl hnw).trans a3, (hF3'.cell (p := ⟨w.heap.size, 4, none⟩) hWl hnw).trans a4⟩
/-- The new list behind the pointer. -/
theorem ts_added {w0 w3 w5 : World} {j : Int} {tb eb : Nat} {dO : Option Addr} {dc : Nat} {us : List Value} {es : List (List Nat)} {ev : Value} {e : List Nat} (h : AA w0 w3 j tb eb dO dc us es ev e) (hng : 6 ≤ w0.heap.size) (hebs : w0.heap.size ≤ eb) (hlen : ∀ p ∈ es, p.length ≤ 4000000) (hel : e.length ≤ 4000000) (hnum : es.length < 400) (hold : ∀ (i : Nat) u p, us[i]? = some u → es[i]? = some p → p = [] ∨ Bk u (fun g => g < w0.heap.size)) (hul : us.length = es.length) (heb : e = [] ∨ Bk ev (fun g => g < w0.heap.size))
    (g bc : Nat) (hp : Pcs w5 (.slice (some ⟨g, 0, none⟩) (es.length + 1) bc) (us ++ [ev]) (es ++ [e])) (hc : es.length + 1 ≤ bc) (hg : w3.heap.size ≤ g) (hf : Fr (fun _ => False) w3 w5) :
    TS w0 (w5.setCell ⟨eb, 0, none⟩ (.slice (some ⟨g, 0, none⟩) (es.length + 1) bc)) j tb eb (some ⟨g, 0, none⟩) bc (us ++ [ev]) (es ++ [e]) := by
  obtain ⟨v, hv⟩ := h.box
  have hlt := h.lt
  have hv5 : w5.cell? ⟨eb, 0, none⟩ = some v := (hf.cell (p := ⟨eb, 0, none⟩) hlt (fun h => h)).trans hv
  have hS : Fr (fun k => k = eb) w5 (w5.setCell ⟨eb, 0, none⟩ (.slice (some ⟨g, 0, none⟩) (es.length + 1) bc)) := Fr.setCell (S := fun k => k = eb) (Fr.refl _ _) (p := ⟨eb, 0, none⟩) (.inl rfl) _
  have hl : (es ++ [e]).length = es.length + 1 := by rw [List.length_append]; rfl
  obtain ⟨base, xo, cp, vs, rs, t1, t2, t3, t4⟩ := h.tree
  have hs0 := h.fr.size
  have hlow : ∀ k, k < 6 → ¬ k = eb := fun k hk e => by omega
  have hall : ∀ (i : Nat) u p, (us ++ [ev])[i]? = some u → (es ++ [e])[i]? = some p → p = [] ∨ Bk u (fun g => g < w0.heap.size) := fun i u p hu hp' => by
    by_cases hi : i < us.length
    · rw [List.getElem?_append_left hi] at hu
      rw [List.getElem?_append_left (by rw [← hul]; exact hi)] at hp'
      exact hold i u p hu hp'
    · have hie : i = us.length := by
        have := (List.getElem?_eq_some_iff.1 hu).1
        rw [List.length_append, List.length_singleton] at this
        omega
      subst hie
      rw [List.getElem?_append_right (Nat.le_refl _), Nat.sub_self] at hu
      rw [List.getElem?_append_right (by rw [hul]; exact Nat.le_refl _), hul, Nat.sub_self] at hp'
      simp at hu hp'
      subst hu hp'
      exact heb
  refine ⟨?_, ?_, ?_, by rw [hl]; exact hc, (h.fr.trans hf (fun _ _ h => h)).trans hS (fun k hk e => by omega), hebs, fun g' o' e' => ?_, ⟨base, xo, cp, vs, rs, ?_, t2, t3, t4, fun g' o' e' hh => ?_⟩, (h.gs.fr0 hf).fr hS hlow, (h.gr.fr0 hf).fr hS hlow, (h.gt.fr0 hf).fr hS hlow, fun p hp => (List.mem_append.1 hp).elim (hlen p) (fun hp => by rw [List.mem_singleton.1 hp]; exact hel), by rw [hl]; omega, hall⟩
  · rw [hl]; exact World.cell?_setCell_same _ _ _ hv5
  · rw [World.frozen?_setCell]
    exact (frozen_fr hf ⟨eb, 0, none⟩ hlt (fun h => h)).trans h.bfz
  · rw [hl]
    refine hp.frD4 hS (fun g' o' n' c' e' _ hh => ?_) (fun i u p hu hp' => (hall i u p hu hp').imp id (fun hb g' o' n' c' e' hh => by have := hb g' o' n' c' e'; omega))
    · cases e'; omega
  · cases e'; omega
  · rw [hl]
    exact (t1.fr hf (fun _ _ h => h)).fr hS (fun k hk e' => by subst e'; exact t4 hk)
  · cases e'
    have := (t1.lt g hh).2
    omega
end Go.Proofs.YthccbfgjekdiiaaDoor

namespace Go.Proofs.YthccbfgjekdiiaaDoor
open Go.RowKit

set_option maxRecDepth 100000 in
set_option maxHeartbeats 1000000 in
theorem grow_a_nm (j k : Int) (hj : ¬ (1 ≤ j ∧ j ≤ 32)) (I : Int) (tb eb : Nat) (dO : Option Addr) (dc : Nat) (us : List Value) (es : List (List Nat)) (w0 w : World) (h : TS w0 w j tb eb dO dc us es)  (hlt4 : es.length < 400) (hng : 6 ≤ w0.heap.size) (eo po : Option Addr) (EN ec PN pc : Nat) (e0 : List Nat) (hev : Sl w (.slice eo EN ec) e0) (hevb : e0 = [] ∨ Bk (.slice eo EN ec) (fun g => g < w0.heap.size)) (hel : e0.length ≤ 2000000) :
    Calls Tryd.prog 16 #[.int .i64 j, .pointer (some ⟨tb, 0, none⟩), .pointer (some ⟨eb, 0, none⟩), .agg #[.int .i64 0, .int .i64 I, .int .i64 k, .slice eo EN ec, .slice po PN pc]] w fun e w' => e = .returned (.bool true) ∧ ∃ g' dc' us', TS w0 w' j tb eb (some ⟨g', 0, none⟩) dc' us' (es ++ [e0]) := by
  have hnum := h.num
  have hcap := h.cap
  have hF1 : Fr (fun _ => False) w (w.alloc (.cells #[.int .i64 0, .int .i64 I, .int .i64 k, .slice eo EN ec, .slice po PN pc] 43)) := (Fr.refl _ _).alloc _
  have hbx : (w.alloc (.cells #[.int .i64 0, .int .i64 I, .int .i64 k, .slice eo EN ec, .slice po PN pc] 43)).cell? ⟨eb, 0, none⟩ = some (.slice dO es.length dc) := (h.fr0 hF1).box
  have hX := (box5s w (.int .i64 0) (.int .i64 I) (.int .i64 k) (.slice eo EN ec) (.slice po PN pc) 43 _ rfl).1
  have hszW : (w.alloc (.cells #[.int .i64 0, .int .i64 I, .int .i64 k, .slice eo EN ec, .slice po PN pc] 43)).heap.size = w.heap.size + 1 := by simp
  have hmay := fun w' => may_no j w' (by omega)
  have hEN : e0.length = EN := by obtain ⟨a, c, e⟩ := hev.form; cases e; rfl
  have hnil : OB (w.alloc (.cells #[.int .i64 0, .int .i64 I, .int .i64 k, .slice eo EN ec, .slice po PN pc] 43)) (w.alloc (.cells #[.int .i64 0, .int .i64 I, .int .i64 k, .slice eo EN ec, .slice po PN pc] 43)) none 0 [] := ⟨own_nil _ _, Fr.refl _ _⟩
  obtain ⟨bo, bc, w1, hr1, hO1⟩ := hnil.app _ e0 (hev.fr0 hF1).s (by simp; omega)
  rw [List.nil_append] at hr1 hO1
  rw [List.length_nil, hEN] at hr1
  obtain ⟨base, xo, cp, vs, rs, t1, t2, t3, t4, t5⟩ := h.tree
  have hF01 : Fr (fun _ => False) w w1 := hF1.trans hO1.fr (fun _ _ h => h)
  have hadd := addU j base tb es (Nat.le_trans hng t2) w1 xo cp vs rs (.slice bo EN bc) e0 (t1.fr hF01 (fun _ _ h => h)) t3 (h.gs.fr0 hF01) (hO1.sl2 hev.b hEN) (by omega) hnum
  have haa := fun w2 w3 xo' cp' vs' rs' (hT2 : TrAt w2 base tb j (es.length + 1) xo' cp' vs' rs') hR2 (hF12 : Fr (TOwn tb xo vs) w1 w2) hO2 (hF23 : Fr (fun k => ∃ o, bo = some ⟨k, o, none⟩) w2 w3) => aa_of h hng (.slice eo EN ec) e0 hev hevb hszW hF1 bo bc hO1 base xo cp vs rs t1 t2 t4 t5 xo' cp' vs' rs' hT2 hR2 hF12 hO2 hF23
  have hts := fun w3 w5 (ha : AA w0 w3 j tb eb dO dc us es (.slice eo EN ec) e0) g bc hp hc hg hf => ts_added (w5 := w5) ha hng h.ebs h.len (by omega) hlt4 h.oldb h.pcs.len hevb g bc hp hc hg hf
  have how := fun w2 (hf : Fr (TOwn tb xo vs) w1 w2) => hO1.ow.fr hf (fun k hk hh => by have := (t1.lt k hh).2; have := hszW; omega)
  have HC := hide (And.intro hmay (And.intro hadd (And.intro haa (And.intro hts (And.intro how (And.intro hX hEN))))))
  have HR1 := hide hr1
  clear hmay hadd haa hts how hX hr1 hO1 hnil hev t1 t2 t3 t4 t5 hF01 h hevb hszW
  generalize hNN : es.length = N at *
  have HNN := hide hNN
  clear hNN
  go_enter Tryd.func16, Tryd.ntmps16
  go_wp2_with fail
  refine ((unhide HC).1 _).mono ?_
  rintro e wA ⟨rfl, rfl⟩
  go_wp2_with (at_builtin; refine wpList_app rfl _ _ 25 25 rfl _ _ _ rfl rfl (unhide HR1) ?_)
  refine (unhide HC).2.1.mono ?_
  rintro e w2 ⟨rfl, xo', cp', vs', rs', hT2, hR2, hF2, hO2⟩
  have H2 := hide (And.intro hT2 (And.intro hR2 (And.intro hF2 hO2)))
  clear hT2 hR2 hF2 hO2 hbx
  go_wp2_with fail
  go_loopw [14] (fun iv wq => ∃ (q : Nat) (L : List Nat), q ≤ EN ∧ iv = .int .i64 (q : Nat) ∧ L.length = EN ∧ Ow wq (w.alloc (.cells #[.int .i64 0, .int .i64 I, .int .i64 k, .slice eo EN ec, .slice po PN pc] 43)).heap.size bo bc L ∧ Fr (fun j => ∃ o, bo = some ⟨j, o, none⟩) w2 wq) (fun iv _ => EN - (intOf iv).toNat)
  case atStart => exact ⟨0, e0, Nat.zero_le _, rfl, (unhide HC).2.2.2.2.2.2, (unhide HC).2.2.2.2.1 _ (unhide H2).2.2.1, Fr.refl _ _⟩
  case round =>
    rename World => w3
    obtain ⟨q, L, hq, rfl, hL, hI, hFL⟩ := hrel
    by_cases hlt : q < EN
    · have hlt' : (q : Int) < (EN : Int) := by omega
      obtain ⟨pg, rfl⟩ : ∃ pg, bo = some ⟨pg, 0, none⟩ := by
        rcases hI.2 with ⟨_, e⟩ | ⟨pg, cap, cur, e, _⟩
        · omega
        · simp only [Value.slice.injEq] at e
          exact ⟨pg, e.1⟩
      obtain ⟨u, hu⟩ : ∃ u, w3.cell? ⟨pg, q, none⟩ = some u := by
        rw [World.ownsRow.cellAt hI q (by omega), List.getElem?_eq_getElem (by rw [cellsOf_length]; omega)]
        exact ⟨_, rfl⟩
      have hz := hI.fz q
      have hP := hI.set q 99 (by decide)
      have hF2 : Fr (fun j => ∃ o, some (⟨pg, 0, none⟩ : Addr) = some ⟨j, o, none⟩) w2 (w3.setCell ⟨pg, q, none⟩ (.int .u8 99)) := Fr.setCell hFL (p := ⟨pg, q, none⟩) (.inl ⟨0, rfl⟩) _
      have HP := hide (And.intro hP (And.intro hF2 hL))
      clear hP hF2 hL hI hFL
      have hE9 : EN ≤ 2000000 := by have := (unhide HC).2.2.2.2.2.2; omega
      go_wp2_with fail
      exact ⟨⟨q + 1, _, by omega, by go_num, by rw [List.length_set]; exact (unhide HP).2.2, (unhide HP).1, (unhide HP).2.1⟩, by simp [intOf]; omega⟩
    · have hlt' : ¬ (q : Int) < (EN : Int) := by omega
      obtain ⟨hA, hX3⟩ := (unhide HC).2.2.1 w2 w3 xo' cp' vs' rs' (unhide H2).1 (unhide H2).2.1 (unhide H2).2.2.1 (unhide H2).2.2.2 hFL
      have hX3' := hX3 _ _ _ _ _ (unhide HC).2.2.2.2.2.1
      have hpc := hA.pcs
      rw [unhide HNN] at hpc
      obtain ⟨ao, c4, w4, hr4, hf4, g, bc5, w5, hr5, hp5, hc5, hg5, hf5⟩ := app_more4 hpc (unhide HNN) (by omega) hA.ent
      have hT := (unhide HC).2.2.2.1 w3 w5 hA g bc5 hp5 hc5 hg5 hf5
      have hb5 : ∃ u, w5.cell? ⟨eb, 0, none⟩ = some u := by
        obtain ⟨u, hu⟩ := hA.box
        exact ⟨u, (hf5.cell (p := ⟨eb, 0, none⟩) hA.lt (fun h => h)).trans hu⟩
      obtain ⟨u5, hu5⟩ := hb5
      have hz5 : w5.frozen? ⟨eb, 0, none⟩ = false := (frozen_fr hf5 ⟨eb, 0, none⟩ hA.lt (fun h => h)).trans hA.bfz
      obtain ⟨k0, k1, k2, k3, k4⟩ := hX3'.fr0 hf4
      obtain ⟨m0, m1, m2, m3, m4⟩ := hX3'
      have HR4 := hide hr4
      have HR5 := hide hr5
      have HTT := hide hT
      clear hA hX3 hpc hr4 hf4 hr5 hp5 hT hI hFL hL hf5 hg5 hc5
      go_wp2_with (at_builtin; first | (refine wpList_app rfl _ _ 22 22 rfl _ _ _ rfl rfl (unhide HR4) ?_; clear HR4) | (refine wpList_app rfl _ _ 22 22 rfl _ _ _ rfl rfl (unhide HR5) ?_; clear HR5))
      go_ret
      exact ⟨rfl, _, _, _, unhide HTT⟩
end Go.Proofs.YthccbfgjekdiiaaDoor

namespace Go.Proofs.YthccbfgjekdiiaaDoor
open Go.RowKit

set_option maxRecDepth 100000 in
set_option maxHeartbeats 1000000 in
theorem grow_a_in (wi K dg : Nat) (hw1 : 1 ≤ wi) (hw32 : wi ≤ 32) (I : Int) (tb eb : Nat) (dc : Nat) (us : List Value) (es : List (List Nat)) (w0 w : World) (h : TS w0 w wi tb eb (some ⟨dg, 0, none⟩) dc us es) (hK : K ≤ es.length) (hlt4 : es.length < 400) (hng : 6 ≤ w0.heap.size) (eo po : Option Addr) (EN ec PN pc : Nat) (e0 : List Nat) (hev : Sl w (.slice eo EN ec) e0) (hevb : e0 = [] ∨ Bk (.slice eo EN ec) (fun g => g < w0.heap.size)) (hel : e0.length ≤ 2000000) :
    Calls Tryd.prog 16 #[.int .i64 wi, .pointer (some ⟨tb, 0, none⟩), .pointer (some ⟨eb, 0, none⟩), .agg #[.int .i64 0, .int .i64 I, .int .i64 K, .slice eo EN ec, .slice po PN pc]] w fun e w' => e = .returned (.bool true) ∧ ∃ g' dc' us', TS w0 w' wi tb eb (some ⟨g', 0, none⟩) dc' us' (es ++ [e0]) := by
  have hnum := h.num
  have hcap := h.cap
  have hF1 : Fr (fun _ => False) w (w.alloc (.cells #[.int .i64 0, .int .i64 I, .int .i64 K, .slice eo EN ec, .slice po PN pc] 43)) := (Fr.refl _ _).alloc _
  have hbx : (w.alloc (.cells #[.int .i64 0, .int .i64 I, .int .i64 K, .slice eo EN ec, .slice po PN pc] 43)).cell? ⟨eb, 0, none⟩ = some (.slice (some ⟨dg, 0, none⟩) es.length dc) := (h.fr0 hF1).box
  have hX := (box5s w (.int .i64 0) (.int .i64 I) (.int .i64 K) (.slice eo EN ec) (.slice po PN pc) 43 _ rfl).1
  have hszW : (w.alloc (.cells #[.int .i64 0, .int .i64 I, .int .i64 K, .slice eo EN ec, .slice po PN pc] 43)).heap.size = w.heap.size + 1 := by simp
  have hmay := fun w' => may_yes wi w' (by omega) (by omega)
  have hEN : e0.length = EN := by obtain ⟨a, c, e⟩ := hev.form; cases e; rfl
  have hnil : OB (w.alloc (.cells #[.int .i64 0, .int .i64 I, .int .i64 K, .slice eo EN ec, .slice po PN pc] 43)) (w.alloc (.cells #[.int .i64 0, .int .i64 I, .int .i64 K, .slice eo EN ec, .slice po PN pc] 43)) none 0 [] := ⟨own_nil _ _, Fr.refl _ _⟩
  obtain ⟨bo, bc, w1, hr1, hO1⟩ := hnil.app _ e0 (hev.fr0 hF1).s (by simp; omega)
  rw [List.nil_append] at hr1 hO1
  rw [List.length_nil, hEN] at hr1
  obtain ⟨base, xo, cp, vs, rs, t1, t2, t3, t4, t5⟩ := h.tree
  have hF01 : Fr (fun _ => False) w w1 := hF1.trans hO1.fr (fun _ _ h => h)
  have hadd := addU wi base tb es (Nat.le_trans hng t2) w1 xo cp vs rs (.slice bo EN bc) e0 (t1.fr hF01 (fun _ _ h => h)) t3 (h.gs.fr0 hF01) (hO1.sl2 hev.b hEN) (by omega) hnum
  have haa := fun w2 w3 xo' cp' vs' rs' (hT2 : TrAt w2 base tb wi (es.length + 1) xo' cp' vs' rs') hR2 (hF12 : Fr (TOwn tb xo vs) w1 w2) hO2 (hF23 : Fr (fun k => ∃ o, bo = some ⟨k, o, none⟩) w2 w3) => aa_of h hng (.slice eo EN ec) e0 hev hevb hszW hF1 bo bc hO1 base xo cp vs rs t1 t2 t4 t5 xo' cp' vs' rs' hT2 hR2 hF12 hO2 hF23
  have hts := fun w3 w5 (ha : AA w0 w3 wi tb eb (some ⟨dg, 0, none⟩) dc us es (.slice eo EN ec) e0) g bc hp hc hg hf => ts_added (w5 := w5) ha hng h.ebs h.len (by omega) hlt4 h.oldb h.pcs.len hevb g bc hp hc hg hf
  have how := fun w2 (hf : Fr (TOwn tb xo vs) w1 w2) => hO1.ow.fr hf (fun k hk hh => by have := (t1.lt k hh).2; have := hszW; omega)
  have HC := hide (And.intro hmay (And.intro hadd (And.intro haa (And.intro hts (And.intro how (And.intro hX hEN))))))
  have HR1 := hide hr1
  clear hmay hadd haa hts how hX hr1 hO1 hnil hev t1 t2 t3 t4 t5 hF01 h hevb hszW
  have q0 : (0 : Int) ≤ (K : Int) := by omega
  have q1 : (K : Int) ≤ (es.length : Int) := by omega
  have q2 : (K : Int) ≤ (dc : Int) := by omega
  generalize hNN : es.length = N at *
  have HNN := hide hNN
  clear hNN
  go_enter Tryd.func16, Tryd.ntmps16
  go_wp2_with fail
  refine ((unhide HC).1 _).mono ?_
  rintro e wA ⟨rfl, rfl⟩
  go_wp2_with (at_builtin; refine wpList_app rfl _ _ 25 25 rfl _ _ _ rfl rfl (unhide HR1) ?_)
  refine (unhide HC).2.1.mono ?_
  rintro e w2 ⟨rfl, xo', cp', vs', rs', hT2, hR2, hF2, hO2⟩
  have H2 := hide (And.intro hT2 (And.intro hR2 (And.intro hF2 hO2)))
  clear hT2 hR2 hF2 hO2 hbx
  go_wp2_with fail
  go_loopw [14] (fun iv wq => ∃ (q : Nat) (L : List Nat), q ≤ EN ∧ iv = .int .i64 (q : Nat) ∧ L.length = EN ∧ Ow wq (w.alloc (.cells #[.int .i64 0, .int .i64 I, .int .i64 K, .slice eo EN ec, .slice po PN pc] 43)).heap.size bo bc L ∧ Fr (fun j => ∃ o, bo = some ⟨j, o, none⟩) w2 wq) (fun iv _ => EN - (intOf iv).toNat)
  case atStart => exact ⟨0, e0, Nat.zero_le _, rfl, (unhide HC).2.2.2.2.2.2, (unhide HC).2.2.2.2.1 _ (unhide H2).2.2.1, Fr.refl _ _⟩
  case round =>
    rename World => w3
    obtain ⟨q, L, hq, rfl, hL, hI, hFL⟩ := hrel
    by_cases hlt : q < EN
    · have hlt' : (q : Int) < (EN : Int) := by omega
      obtain ⟨pg, rfl⟩ : ∃ pg, bo = some ⟨pg, 0, none⟩ := by
        rcases hI.2 with ⟨_, e⟩ | ⟨pg, cap, cur, e, _⟩
        · omega
        · simp only [Value.slice.injEq] at e
          exact ⟨pg, e.1⟩
      obtain ⟨u, hu⟩ : ∃ u, w3.cell? ⟨pg, q, none⟩ = some u := by
        rw [World.ownsRow.cellAt hI q (by omega), List.getElem?_eq_getElem (by rw [cellsOf_length]; omega)]
        exact ⟨_, rfl⟩
      have hz := hI.fz q
      have hP := hI.set q 99 (by decide)
      have hF2 : Fr (fun j => ∃ o, some (⟨pg, 0, none⟩ : Addr) = some ⟨j, o, none⟩) w2 (w3.setCell ⟨pg, q, none⟩ (.int .u8 99)) := Fr.setCell hFL (p := ⟨pg, q, none⟩) (.inl ⟨0, rfl⟩) _
      have HP := hide (And.intro hP (And.intro hF2 hL))
      clear hP hF2 hL hI hFL
      have hE9 : EN ≤ 2000000 := by have := (unhide HC).2.2.2.2.2.2; omega
      go_wp2_with fail
      exact ⟨⟨q + 1, _, by omega, by go_num, by rw [List.length_set]; exact (unhide HP).2.2, (unhide HP).1, (unhide HP).2.1⟩, by simp [intOf]; omega⟩
    · have hlt' : ¬ (q : Int) < (EN : Int) := by omega
      obtain ⟨hA, hX3⟩ := (unhide HC).2.2.1 w2 w3 xo' cp' vs' rs' (unhide H2).1 (unhide H2).2.1 (unhide H2).2.2.1 (unhide H2).2.2.2 hFL
      have hX3' := hX3 _ _ _ _ _ (unhide HC).2.2.2.2.2.1
      have hpc := hA.pcs
      rw [unhide HNN] at hpc
      obtain ⟨ao, c4, w4, hr4, hf4, g, bc5, w5, hr5, hp5, hc5, hg5, hf5⟩ := app_more4 hpc (unhide HNN) (by omega) hA.ent
      have hT := (unhide HC).2.2.2.1 w3 w5 hA g bc5 hp5 hc5 hg5 hf5
      have hb5 : ∃ u, w5.cell? ⟨eb, 0, none⟩ = some u := by
        obtain ⟨u, hu⟩ := hA.box
        exact ⟨u, (hf5.cell (p := ⟨eb, 0, none⟩) hA.lt (fun h => h)).trans hu⟩
      obtain ⟨u5, hu5⟩ := hb5
      have hz5 : w5.frozen? ⟨eb, 0, none⟩ = false := (frozen_fr hf5 ⟨eb, 0, none⟩ hA.lt (fun h => h)).trans hA.bfz
      obtain ⟨k0, k1, k2, k3, k4⟩ := hX3'.fr0 hf4
      obtain ⟨m0, m1, m2, m3, m4⟩ := hX3'
      have HR4 := hide hr4
      have HR5 := hide hr5
      have HTT := hide hT
      clear hA hX3 hpc hr4 hf4 hr5 hp5 hT hI hFL hL hf5 hg5 hc5
      go_wp2_with (at_builtin; first | (refine wpList_app rfl _ _ 22 22 rfl _ _ _ rfl rfl (unhide HR4) ?_; clear HR4) | (refine wpList_app rfl _ _ 22 22 rfl _ _ _ rfl rfl (unhide HR5) ?_; clear HR5))
      go_ret
      exact ⟨rfl, _, _, _, unhide HTT⟩
end Go.Proofs.YthccbfgjekdiiaaDoor

namespace Go.Proofs.YthccbfgjekdiiaaDoor
open Go.RowKit

set_option maxRecDepth 100000 in
set_option maxHeartbeats 1000000 in
theorem grow_a_in0 (wi : Nat) (hw1 : 1 ≤ wi) (hw32 : wi ≤ 32) (I : Int) (tb eb : Nat) (us : List Value) (w0 w : World) (h : TS w0 w wi tb eb none 0 us ([] : List (List Nat)))  (hlt4 : ([] : List (List Nat)).length < 400) (hng : 6 ≤ w0.heap.size) (eo po : Option Addr) (EN ec PN pc : Nat) (e0 : List Nat) (hev : Sl w (.slice eo EN ec) e0) (hevb : e0 = [] ∨ Bk (.slice eo EN ec) (fun g => g < w0.heap.size)) (hel : e0.length ≤ 2000000) :
    Calls Tryd.prog 16 #[.int .i64 wi, .pointer (some ⟨tb, 0, none⟩), .pointer (some ⟨eb, 0, none⟩), .agg #[.int .i64 0, .int .i64 I, .int .i64 0, .slice eo EN ec, .slice po PN pc]] w fun e w' => e = .returned (.bool true) ∧ ∃ g' dc' us', TS w0 w' wi tb eb (some ⟨g', 0, none⟩) dc' us' (([] : List (List Nat)) ++ [e0]) := by
  have hnum := h.num
  have hcap := h.cap
  have hF1 : Fr (fun _ => False) w (w.alloc (.cells #[.int .i64 0, .int .i64 I, .int .i64 0, .slice eo EN ec, .slice po PN pc] 43)) := (Fr.refl _ _).alloc _
  have hbx : (w.alloc (.cells #[.int .i64 0, .int .i64 I, .int .i64 0, .slice eo EN ec, .slice po PN pc] 43)).cell? ⟨eb, 0, none⟩ = some (.slice none 0 0) := (h.fr0 hF1).box
  have hX := (box5s w (.int .i64 0) (.int .i64 I) (.int .i64 0) (.slice eo EN ec) (.slice po PN pc) 43 _ rfl).1
  have hszW : (w.alloc (.cells #[.int .i64 0, .int .i64 I, .int .i64 0, .slice eo EN ec, .slice po PN pc] 43)).heap.size = w.heap.size + 1 := by simp
  have hmay := fun w' => may_yes wi w' (by omega) (by omega)
  have hEN : e0.length = EN := by obtain ⟨a, c, e⟩ := hev.form; cases e; rfl
  have hnil : OB (w.alloc (.cells #[.int .i64 0, .int .i64 I, .int .i64 0, .slice eo EN ec, .slice po PN pc] 43)) (w.alloc (.cells #[.int .i64 0, .int .i64 I, .int .i64 0, .slice eo EN ec, .slice po PN pc] 43)) none 0 [] := ⟨own_nil _ _, Fr.refl _ _⟩
  obtain ⟨bo, bc, w1, hr1, hO1⟩ := hnil.app _ e0 (hev.fr0 hF1).s (by simp; omega)
  rw [List.nil_append] at hr1 hO1
  rw [List.length_nil, hEN] at hr1
  obtain ⟨base, xo, cp, vs, rs, t1, t2, t3, t4, t5⟩ := h.tree
  have hF01 : Fr (fun _ => False) w w1 := hF1.trans hO1.fr (fun _ _ h => h)
  have hadd := addU wi base tb ([] : List (List Nat)) (Nat.le_trans hng t2) w1 xo cp vs rs (.slice bo EN bc) e0 (t1.fr hF01 (fun _ _ h => h)) t3 (h.gs.fr0 hF01) (hO1.sl2 hev.b hEN) (by omega) hnum
  have haa := fun w2 w3 xo' cp' vs' rs' (hT2 : TrAt w2 base tb wi (([] : List (List Nat)).length + 1) xo' cp' vs' rs') hR2 (hF12 : Fr (TOwn tb xo vs) w1 w2) hO2 (hF23 : Fr (fun k => ∃ o, bo = some ⟨k, o, none⟩) w2 w3) => aa_of h hng (.slice eo EN ec) e0 hev hevb hszW hF1 bo bc hO1 base xo cp vs rs t1 t2 t4 t5 xo' cp' vs' rs' hT2 hR2 hF12 hO2 hF23
  have hts := fun w3 w5 (ha : AA w0 w3 wi tb eb none 0 us ([] : List (List Nat)) (.slice eo EN ec) e0) g bc hp hc hg hf => ts_added (w5 := w5) ha hng h.ebs h.len (by omega) hlt4 h.oldb h.pcs.len hevb g bc hp hc hg hf
  have how := fun w2 (hf : Fr (TOwn tb xo vs) w1 w2) => hO1.ow.fr hf (fun k hk hh => by have := (t1.lt k hh).2; have := hszW; omega)
  have HC := hide (And.intro hmay (And.intro hadd (And.intro haa (And.intro hts (And.intro how (And.intro hX hEN))))))
  have HR1 := hide hr1
  clear hmay hadd haa hts how hX hr1 hO1 hnil hev t1 t2 t3 t4 t5 hF01 h hevb hszW
  go_enter Tryd.func16, Tryd.ntmps16
  go_wp2_with fail
  refine ((unhide HC).1 _).mono ?_
  rintro e wA ⟨rfl, rfl⟩
  go_wp2_with (at_builtin; refine wpList_app rfl _ _ 25 25 rfl _ _ _ rfl rfl (unhide HR1) ?_)
  refine (unhide HC).2.1.mono ?_
  rintro e w2 ⟨rfl, xo', cp', vs', rs', hT2, hR2, hF2, hO2⟩
  have H2 := hide (And.intro hT2 (And.intro hR2 (And.intro hF2 hO2)))
  clear hT2 hR2 hF2 hO2 hbx
  go_wp2_with fail
  go_loopw [14] (fun iv wq => ∃ (q : Nat) (L : List Nat), q ≤ EN ∧ iv = .int .i64 (q : Nat) ∧ L.length = EN ∧ Ow wq (w.alloc (.cells #[.int .i64 0, .int .i64 I, .int .i64 0, .slice eo EN ec, .slice po PN pc] 43)).heap.size bo bc L ∧ Fr (fun j => ∃ o, bo = some ⟨j, o, none⟩) w2 wq) (fun iv _ => EN - (intOf iv).toNat)
  case atStart => exact ⟨0, e0, Nat.zero_le _, rfl, (unhide HC).2.2.2.2.2.2, (unhide HC).2.2.2.2.1 _ (unhide H2).2.2.1, Fr.refl _ _⟩
  case round =>
    rename World => w3
    obtain ⟨q, L, hq, rfl, hL, hI, hFL⟩ := hrel
    by_cases hlt : q < EN
    · have hlt' : (q : Int) < (EN : Int) := by omega
      obtain ⟨pg, rfl⟩ : ∃ pg, bo = some ⟨pg, 0, none⟩ := by
        rcases hI.2 with ⟨_, e⟩ | ⟨pg, cap, cur, e, _⟩
        · omega
        · simp only [Value.slice.injEq] at e
          exact ⟨pg, e.1⟩
      obtain ⟨u, hu⟩ : ∃ u, w3.cell? ⟨pg, q, none⟩ = some u := by
        rw [World.ownsRow.cellAt hI q (by omega), List.getElem?_eq_getElem (by rw [cellsOf_length]; omega)]
        exact ⟨_, rfl⟩
      have hz := hI.fz q
      have hP := hI.set q 99 (by decide)
      have hF2 : Fr (fun j => ∃ o, some (⟨pg, 0, none⟩ : Addr) = some ⟨j, o, none⟩) w2 (w3.setCell ⟨pg, q, none⟩ (.int .u8 99)) := Fr.setCell hFL (p := ⟨pg, q, none⟩) (.inl ⟨0, rfl⟩) _
      have HP := hide (And.intro hP (And.intro hF2 hL))
      clear hP hF2 hL hI hFL
      have hE9 : EN ≤ 2000000 := by have := (unhide HC).2.2.2.2.2.2; omega
      go_wp2_with fail
      exact ⟨⟨q + 1, _, by omega, by go_num, by rw [List.length_set]; exact (unhide HP).2.2, (unhide HP).1, (unhide HP).2.1⟩, by simp [intOf]; omega⟩
    · have hlt' : ¬ (q : Int) < (EN : Int) := by omega
      obtain ⟨hA, hX3⟩ := (unhide HC).2.2.1 w2 w3 xo' cp' vs' rs' (unhide H2).1 (unhide H2).2.1 (unhide H2).2.2.1 (unhide H2).2.2.2 hFL
      have hX3' := hX3 _ _ _ _ _ (unhide HC).2.2.2.2.2.1
      have hpc := hA.pcs
      skip
      obtain ⟨ao, c4, w4, hr4, hf4, g, bc5, w5, hr5, hp5, hc5, hg5, hf5⟩ := app_more4 hpc rfl (by omega) hA.ent
      have hT := (unhide HC).2.2.2.1 w3 w5 hA g bc5 hp5 hc5 hg5 hf5
      have hb5 : ∃ u, w5.cell? ⟨eb, 0, none⟩ = some u := by
        obtain ⟨u, hu⟩ := hA.box
        exact ⟨u, (hf5.cell (p := ⟨eb, 0, none⟩) hA.lt (fun h => h)).trans hu⟩
      obtain ⟨u5, hu5⟩ := hb5
      have hz5 : w5.frozen? ⟨eb, 0, none⟩ = false := (frozen_fr hf5 ⟨eb, 0, none⟩ hA.lt (fun h => h)).trans hA.bfz
      obtain ⟨k0, k1, k2, k3, k4⟩ := hX3'.fr0 hf4
      obtain ⟨m0, m1, m2, m3, m4⟩ := hX3'
      have HR4 := hide hr4
      have HR5 := hide hr5
      have HTT := hide hT
      clear hA hX3 hpc hr4 hf4 hr5 hp5 hT hI hFL hL hf5 hg5 hc5
      go_wp2_with (at_builtin; first | (refine wpList_app rfl _ _ 22 22 rfl _ _ _ rfl rfl (unhide HR4) ?_; clear HR4) | (refine wpList_app rfl _ _ 22 22 rfl _ _ _ rfl rfl (unhide HR5) ?_; clear HR5))
      go_ret
      exact ⟨rfl, _, _, _, unhide HTT⟩
end Go.Proofs.YthccbfgjekdiiaaDoor

namespace Go.Proofs.YthccbfgjekdiiaaDoor
open Go.RowKit

set_option maxRecDepth 100000 in
set_option maxHeartbeats 1000000 in
theorem grow_a_lo (wi : Nat) (k : Int) (hw1 : 1 ≤ wi) (hw32 : wi ≤ 32) (hk : k < 0) (I : Int) (tb eb : Nat) (dO : Option Addr) (dc : Nat) (us : List Value) (es : List (List Nat)) (w0 w : World) (h : TS w0 w wi tb eb dO dc us es)  (hlt4 : es.length < 400) (hng : 6 ≤ w0.heap.size) (eo po : Option Addr) (EN ec PN pc : Nat) (e0 : List Nat) (hev : Sl w (.slice eo EN ec) e0) (hevb : e0 = [] ∨ Bk (.slice eo EN ec) (fun g => g < w0.heap.size)) (hel : e0.length ≤ 2000000) :
    Calls Tryd.prog 16 #[.int .i64 wi, .pointer (some ⟨tb, 0, none⟩), .pointer (some ⟨eb, 0, none⟩), .agg #[.int .i64 0, .int .i64 I, .int .i64 k, .slice eo EN ec, .slice po PN pc]] w fun e w' => e = .returned (.bool true) ∧ ∃ g' dc' us', TS w0 w' wi tb eb (some ⟨g', 0, none⟩) dc' us' (es ++ [e0]) := by
  have hnum := h.num
  have hcap := h.cap
  have hF1 : Fr (fun _ => False) w (w.alloc (.cells #[.int .i64 0, .int .i64 I, .int .i64 k, .slice eo EN ec, .slice po PN pc] 43)) := (Fr.refl _ _).alloc _
  have hbx : (w.alloc (.cells #[.int .i64 0, .int .i64 I, .int .i64 k, .slice eo EN ec, .slice po PN pc] 43)).cell? ⟨eb, 0, none⟩ = some (.slice dO es.length dc) := (h.fr0 hF1).box
  have hX := (box5s w (.int .i64 0) (.int .i64 I) (.int .i64 k) (.slice eo EN ec) (.slice po PN pc) 43 _ rfl).1
  have hszW : (w.alloc (.cells #[.int .i64 0, .int .i64 I, .int .i64 k, .slice eo EN ec, .slice po PN pc] 43)).heap.size = w.heap.size + 1 := by simp
  have hmay := fun w' => may_yes wi w' (by omega) (by omega)
  have hEN : e0.length = EN := by obtain ⟨a, c, e⟩ := hev.form; cases e; rfl
  have hnil : OB (w.alloc (.cells #[.int .i64 0, .int .i64 I, .int .i64 k, .slice eo EN ec, .slice po PN pc] 43)) (w.alloc (.cells #[.int .i64 0, .int .i64 I, .int .i64 k, .slice eo EN ec, .slice po PN pc] 43)) none 0 [] := ⟨own_nil _ _, Fr.refl _ _⟩
  obtain ⟨bo, bc, w1, hr1, hO1⟩ := hnil.app _ e0 (hev.fr0 hF1).s (by simp; omega)
  rw [List.nil_append] at hr1 hO1
  rw [List.length_nil, hEN] at hr1
  obtain ⟨base, xo, cp, vs, rs, t1, t2, t3, t4, t5⟩ := h.tree
  have hF01 : Fr (fun _ => False) w w1 := hF1.trans hO1.fr (fun _ _ h => h)
  have hadd := addU wi base tb es (Nat.le_trans hng t2) w1 xo cp vs rs (.slice bo EN bc) e0 (t1.fr hF01 (fun _ _ h => h)) t3 (h.gs.fr0 hF01) (hO1.sl2 hev.b hEN) (by omega) hnum
  have haa := fun w2 w3 xo' cp' vs' rs' (hT2 : TrAt w2 base tb wi (es.length + 1) xo' cp' vs' rs') hR2 (hF12 : Fr (TOwn tb xo vs) w1 w2) hO2 (hF23 : Fr (fun k => ∃ o, bo = some ⟨k, o, none⟩) w2 w3) => aa_of h hng (.slice eo EN ec) e0 hev hevb hszW hF1 bo bc hO1 base xo cp vs rs t1 t2 t4 t5 xo' cp' vs' rs' hT2 hR2 hF12 hO2 hF23
  have hts := fun w3 w5 (ha : AA w0 w3 wi tb eb dO dc us es (.slice eo EN ec) e0) g bc hp hc hg hf => ts_added (w5 := w5) ha hng h.ebs h.len (by omega) hlt4 h.oldb h.pcs.len hevb g bc hp hc hg hf
  have how := fun w2 (hf : Fr (TOwn tb xo vs) w1 w2) => hO1.ow.fr hf (fun k hk hh => by have := (t1.lt k hh).2; have := hszW; omega)
  have HC := hide (And.intro hmay (And.intro hadd (And.intro haa (And.intro hts (And.intro how (And.intro hX hEN))))))
  have HR1 := hide hr1
  clear hmay hadd haa hts how hX hr1 hO1 hnil hev t1 t2 t3 t4 t5 hF01 h hevb hszW
  generalize hNN : es.length = N at *
  have HNN := hide hNN
  clear hNN
  go_enter Tryd.func16, Tryd.ntmps16
  go_wp2_with fail
  refine ((unhide HC).1 _).mono ?_
  rintro e wA ⟨rfl, rfl⟩
  go_wp2_with (at_builtin; refine wpList_app rfl _ _ 25 25 rfl _ _ _ rfl rfl (unhide HR1) ?_)
  refine (unhide HC).2.1.mono ?_
  rintro e w2 ⟨rfl, xo', cp', vs', rs', hT2, hR2, hF2, hO2⟩
  have H2 := hide (And.intro hT2 (And.intro hR2 (And.intro hF2 hO2)))
  clear hT2 hR2 hF2 hO2 hbx
  go_wp2_with fail
  go_loopw [14] (fun iv wq => ∃ (q : Nat) (L : List Nat), q ≤ EN ∧ iv = .int .i64 (q : Nat) ∧ L.length = EN ∧ Ow wq (w.alloc (.cells #[.int .i64 0, .int .i64 I, .int .i64 k, .slice eo EN ec, .slice po PN pc] 43)).heap.size bo bc L ∧ Fr (fun j => ∃ o, bo = some ⟨j, o, none⟩) w2 wq) (fun iv _ => EN - (intOf iv).toNat)
  case atStart => exact ⟨0, e0, Nat.zero_le _, rfl, (unhide HC).2.2.2.2.2.2, (unhide HC).2.2.2.2.1 _ (unhide H2).2.2.1, Fr.refl _ _⟩
  case round =>
    rename World => w3
    obtain ⟨q, L, hq, rfl, hL, hI, hFL⟩ := hrel
    by_cases hlt : q < EN
    · have hlt' : (q : Int) < (EN : Int) := by omega
      obtain ⟨pg, rfl⟩ : ∃ pg, bo = some ⟨pg, 0, none⟩ := by
        rcases hI.2 with ⟨_, e⟩ | ⟨pg, cap, cur, e, _⟩
        · omega
        · simp only [Value.slice.injEq] at e
          exact ⟨pg, e.1⟩
      obtain ⟨u, hu⟩ : ∃ u, w3.cell? ⟨pg, q, none⟩ = some u := by
        rw [World.ownsRow.cellAt hI q (by omega), List.getElem?_eq_getElem (by rw [cellsOf_length]; omega)]
        exact ⟨_, rfl⟩
      have hz := hI.fz q
      have hP := hI.set q 99 (by decide)
      have hF2 : Fr (fun j => ∃ o, some (⟨pg, 0, none⟩ : Addr) = some ⟨j, o, none⟩) w2 (w3.setCell ⟨pg, q, none⟩ (.int .u8 99)) := Fr.setCell hFL (p := ⟨pg, q, none⟩) (.inl ⟨0, rfl⟩) _
      have HP := hide (And.intro hP (And.intro hF2 hL))
      clear hP hF2 hL hI hFL
      have hE9 : EN ≤ 2000000 := by have := (unhide HC).2.2.2.2.2.2; omega
      go_wp2_with fail
      exact ⟨⟨q + 1, _, by omega, by go_num, by rw [List.length_set]; exact (unhide HP).2.2, (unhide HP).1, (unhide HP).2.1⟩, by simp [intOf]; omega⟩
    · have hlt' : ¬ (q : Int) < (EN : Int) := by omega
      obtain ⟨hA, hX3⟩ := (unhide HC).2.2.1 w2 w3 xo' cp' vs' rs' (unhide H2).1 (unhide H2).2.1 (unhide H2).2.2.1 (unhide H2).2.2.2 hFL
      have hX3' := hX3 _ _ _ _ _ (unhide HC).2.2.2.2.2.1
      have hpc := hA.pcs
      rw [unhide HNN] at hpc
      obtain ⟨ao, c4, w4, hr4, hf4, g, bc5, w5, hr5, hp5, hc5, hg5, hf5⟩ := app_more4 hpc (unhide HNN) (by omega) hA.ent
      have hT := (unhide HC).2.2.2.1 w3 w5 hA g bc5 hp5 hc5 hg5 hf5
      have hb5 : ∃ u, w5.cell? ⟨eb, 0, none⟩ = some u := by
        obtain ⟨u, hu⟩ := hA.box
        exact ⟨u, (hf5.cell (p := ⟨eb, 0, none⟩) hA.lt (fun h => h)).trans hu⟩
      obtain ⟨u5, hu5⟩ := hb5
      have hz5 : w5.frozen? ⟨eb, 0, none⟩ = false := (frozen_fr hf5 ⟨eb, 0, none⟩ hA.lt (fun h => h)).trans hA.bfz
      obtain ⟨k0, k1, k2, k3, k4⟩ := hX3'.fr0 hf4
      obtain ⟨m0, m1, m2, m3, m4⟩ := hX3'
      have HR4 := hide hr4
      have HR5 := hide hr5
      have HTT := hide hT
      clear hA hX3 hpc hr4 hf4 hr5 hp5 hT hI hFL hL hf5 hg5 hc5
      go_wp2_with (at_builtin; first | (refine wpList_app rfl _ _ 22 22 rfl _ _ _ rfl rfl (unhide HR4) ?_; clear HR4) | (refine wpList_app rfl _ _ 22 22 rfl _ _ _ rfl rfl (unhide HR5) ?_; clear HR5))
      go_ret
      exact ⟨rfl, _, _, _, unhide HTT⟩
end Go.Proofs.YthccbfgjekdiiaaDoor

namespace Go.Proofs.YthccbfgjekdiiaaDoor
open Go.RowKit

set_option maxRecDepth 100000 in
set_option maxHeartbeats 1000000 in
theorem grow_a_hi (wi : Nat) (k : Int) (hw1 : 1 ≤ wi) (hw32 : wi ≤ 32) (I : Int) (tb eb : Nat) (dO : Option Addr) (dc : Nat) (us : List Value) (es : List (List Nat)) (w0 w : World) (h : TS w0 w wi tb eb dO dc us es) (hk : (es.length : Int) < k) (hlt4 : es.length < 400) (hng : 6 ≤ w0.heap.size) (eo po : Option Addr) (EN ec PN pc : Nat) (e0 : List Nat) (hev : Sl w (.slice eo EN ec) e0) (hevb : e0 = [] ∨ Bk (.slice eo EN ec) (fun g => g < w0.heap.size)) (hel : e0.length ≤ 2000000) :
    Calls Tryd.prog 16 #[.int .i64 wi, .pointer (some ⟨tb, 0, none⟩), .pointer (some ⟨eb, 0, none⟩), .agg #[.int .i64 0, .int .i64 I, .int .i64 k, .slice eo EN ec, .slice po PN pc]] w fun e w' => e = .returned (.bool true) ∧ ∃ g' dc' us', TS w0 w' wi tb eb (some ⟨g', 0, none⟩) dc' us' (es ++ [e0]) := by
  have hnum := h.num
  have hcap := h.cap
  have hF1 : Fr (fun _ => False) w (w.alloc (.cells #[.int .i64 0, .int .i64 I, .int .i64 k, .slice eo EN ec, .slice po PN pc] 43)) := (Fr.refl _ _).alloc _
  have hbx : (w.alloc (.cells #[.int .i64 0, .int .i64 I, .int .i64 k, .slice eo EN ec, .slice po PN pc] 43)).cell? ⟨eb, 0, none⟩ = some (.slice dO es.length dc) := (h.fr0 hF1).box
  have hX := (box5s w (.int .i64 0) (.int .i64 I) (.int .i64 k) (.slice eo EN ec) (.slice po PN pc) 43 _ rfl).1
  have hszW : (w.alloc (.cells #[.int .i64 0, .int .i64 I, .int .i64 k, .slice eo EN ec, .slice po PN pc] 43)).heap.size = w.heap.size + 1 := by simp
  have hmay := fun w' => may_yes wi w' (by omega) (by omega)
  have hEN : e0.length = EN := by obtain ⟨a, c, e⟩ := hev.form; cases e; rfl
  have hnil : OB (w.alloc (.cells #[.int .i64 0, .int .i64 I, .int .i64 k, .slice eo EN ec, .slice po PN pc] 43)) (w.alloc (.cells #[.int .i64 0, .int .i64 I, .int .i64 k, .slice eo EN ec, .slice po PN pc] 43)) none 0 [] := ⟨own_nil _ _, Fr.refl _ _⟩
  obtain ⟨bo, bc, w1, hr1, hO1⟩ := hnil.app _ e0 (hev.fr0 hF1).s (by simp; omega)
  rw [List.nil_append] at hr1 hO1
  rw [List.length_nil, hEN] at hr1
  obtain ⟨base, xo, cp, vs, rs, t1, t2, t3, t4, t5⟩ := h.tree
  have hF01 : Fr (fun _ => False) w w1 := hF1.trans hO1.fr (fun _ _ h => h)
  have hadd := addU wi base tb es (Nat.le_trans hng t2) w1 xo cp vs rs (.slice bo EN bc) e0 (t1.fr hF01 (fun _ _ h => h)) t3 (h.gs.fr0 hF01) (hO1.sl2 hev.b hEN) (by omega) hnum
  have haa := fun w2 w3 xo' cp' vs' rs' (hT2 : TrAt w2 base tb wi (es.length + 1) xo' cp' vs' rs') hR2 (hF12 : Fr (TOwn tb xo vs) w1 w2) hO2 (hF23 : Fr (fun k => ∃ o, bo = some ⟨k, o, none⟩) w2 w3) => aa_of h hng (.slice eo EN ec) e0 hev hevb hszW hF1 bo bc hO1 base xo cp vs rs t1 t2 t4 t5 xo' cp' vs' rs' hT2 hR2 hF12 hO2 hF23
  have hts := fun w3 w5 (ha : AA w0 w3 wi tb eb dO dc us es (.slice eo EN ec) e0) g bc hp hc hg hf => ts_added (w5 := w5) ha hng h.ebs h.len (by omega) hlt4 h.oldb h.pcs.len hevb g bc hp hc hg hf
  have how := fun w2 (hf : Fr (TOwn tb xo vs) w1 w2) => hO1.ow.fr hf (fun k hk hh => by have := (t1.lt k hh).2; have := hszW; omega)
  have HC := hide (And.intro hmay (And.intro hadd (And.intro haa (And.intro hts (And.intro how (And.intro hX hEN))))))
  have HR1 := hide hr1
  clear hmay hadd haa hts how hX hr1 hO1 hnil hev t1 t2 t3 t4 t5 hF01 h hevb hszW
  have q0 : ¬ k < 0 := by omega
  have q1 : ¬ k ≤ (es.length : Int) := by omega
  have q3 : decide (k ≤ (es.length : Int)) = false := decide_eq_false q1
  generalize hNN : es.length = N at *
  have HNN := hide hNN
  clear hNN
  go_enter Tryd.func16, Tryd.ntmps16
  go_wp2_with fail
  refine ((unhide HC).1 _).mono ?_
  rintro e wA ⟨rfl, rfl⟩
  go_wp2_with (at_builtin; refine wpList_app rfl _ _ 25 25 rfl _ _ _ rfl rfl (unhide HR1) ?_)
  refine (unhide HC).2.1.mono ?_
  rintro e w2 ⟨rfl, xo', cp', vs', rs', hT2, hR2, hF2, hO2⟩
  have H2 := hide (And.intro hT2 (And.intro hR2 (And.intro hF2 hO2)))
  clear hT2 hR2 hF2 hO2 hbx
  go_wp2_with fail
  go_loopw [14] (fun iv wq => ∃ (q : Nat) (L : List Nat), q ≤ EN ∧ iv = .int .i64 (q : Nat) ∧ L.length = EN ∧ Ow wq (w.alloc (.cells #[.int .i64 0, .int .i64 I, .int .i64 k, .slice eo EN ec, .slice po PN pc] 43)).heap.size bo bc L ∧ Fr (fun j => ∃ o, bo = some ⟨j, o, none⟩) w2 wq) (fun iv _ => EN - (intOf iv).toNat)
  case atStart => exact ⟨0, e0, Nat.zero_le _, rfl, (unhide HC).2.2.2.2.2.2, (unhide HC).2.2.2.2.1 _ (unhide H2).2.2.1, Fr.refl _ _⟩
  case round =>
    rename World => w3
    obtain ⟨q, L, hq, rfl, hL, hI, hFL⟩ := hrel
    by_cases hlt : q < EN
    · have hlt' : (q : Int) < (EN : Int) := by omega
      obtain ⟨pg, rfl⟩ : ∃ pg, bo = some ⟨pg, 0, none⟩ := by
        rcases hI.2 with ⟨_, e⟩ | ⟨pg, cap, cur, e, _⟩
        · omega
        · simp only [Value.slice.injEq] at e
          exact ⟨pg, e.1⟩
      obtain ⟨u, hu⟩ : ∃ u, w3.cell? ⟨pg, q, none⟩ = some u := by
        rw [World.ownsRow.cellAt hI q (by omega), List.getElem?_eq_getElem (by rw [cellsOf_length]; omega)]
        exact ⟨_, rfl⟩
      have hz := hI.fz q
      have hP := hI.set q 99 (by decide)
      have hF2 : Fr (fun j => ∃ o, some (⟨pg, 0, none⟩ : Addr) = some ⟨j, o, none⟩) w2 (w3.setCell ⟨pg, q, none⟩ (.int .u8 99)) := Fr.setCell hFL (p := ⟨pg, q, none⟩) (.inl ⟨0, rfl⟩) _
      have HP := hide (And.intro hP (And.intro hF2 hL))
      clear hP hF2 hL hI hFL
      have hE9 : EN ≤ 2000000 := by have := (unhide HC).2.2.2.2.2.2; omega
      go_wp2_with fail
      exact ⟨⟨q + 1, _, by omega, by go_num, by rw [List.length_set]; exact (unhide HP).2.2, (unhide HP).1, (unhide HP).2.1⟩, by simp [intOf]; omega⟩
    · have hlt' : ¬ (q : Int) < (EN : Int) := by omega
      obtain ⟨hA, hX3⟩ := (unhide HC).2.2.1 w2 w3 xo' cp' vs' rs' (unhide H2).1 (unhide H2).2.1 (unhide H2).2.2.1 (unhide H2).2.2.2 hFL
      have hX3' := hX3 _ _ _ _ _ (unhide HC).2.2.2.2.2.1
      have hpc := hA.pcs
      rw [unhide HNN] at hpc
      obtain ⟨ao, c4, w4, hr4, hf4, g, bc5, w5, hr5, hp5, hc5, hg5, hf5⟩ := app_more4 hpc (unhide HNN) (by omega) hA.ent
      have hT := (unhide HC).2.2.2.1 w3 w5 hA g bc5 hp5 hc5 hg5 hf5
      have hb5 : ∃ u, w5.cell? ⟨eb, 0, none⟩ = some u := by
        obtain ⟨u, hu⟩ := hA.box
        exact ⟨u, (hf5.cell (p := ⟨eb, 0, none⟩) hA.lt (fun h => h)).trans hu⟩
      obtain ⟨u5, hu5⟩ := hb5
      have hz5 : w5.frozen? ⟨eb, 0, none⟩ = false := (frozen_fr hf5 ⟨eb, 0, none⟩ hA.lt (fun h => h)).trans hA.bfz
      obtain ⟨k0, k1, k2, k3, k4⟩ := hX3'.fr0 hf4
      obtain ⟨m0, m1, m2, m3, m4⟩ := hX3'
      have HR4 := hide hr4
      have HR5 := hide hr5
      have HTT := hide hT
      clear hA hX3 hpc hr4 hf4 hr5 hp5 hT hI hFL hL hf5 hg5 hc5
      go_wp2_with (at_builtin; first | (refine wpList_app rfl _ _ 22 22 rfl _ _ _ rfl rfl (unhide HR4) ?_; clear HR4) | (refine wpList_app rfl _ _ 22 22 rfl _ _ _ rfl rfl (unhide HR5) ?_; clear HR5))
      go_ret
      exact ⟨rfl, _, _, _, unhide HTT⟩
end Go.Proofs.YthccbfgjekdiiaaDoor

namespace Go.Proofs.YthccbfgjekdiiaaDoor
open Go.ChangeShapes Go.WideShapes Go.ChangeAt Go.RowKit
set_option maxRecDepth 100000

theorem Tryd.cellsInt : Tryd.prog.cellsOf 3 = 1 := by kernel_rfl
/-- A slice of whole numbers that came in. -/
theorem ints_of_reading {H : Type} {enc : TypeId × Value → H} {W : World} {base : Nat} {v : Value} {d : DataW H} {p : List MemPlace} (hval : Value.okWide Tryd.prog W .any base 23 v) (h : DataW.Trod enc Tryd.prog W 0 (fun _ => true) true 23 v d p) :
    ∃ zs, Ints W v zs ∧ (∀ z ∈ zs, -9223372036854775808 ≤ z ∧ z < 9223372036854775808) ∧ zs.length ≤ Rows.uptoBulk d := by
  obtain ⟨a0, len0, cap0, rfl⟩ := okWide_slice Tryd.underlying23 hval
  obtain ⟨fuel, hf⟩ := h
  rcases open_ints Tryd.underlying23 Tryd.underlying3 Tryd.cellsInt (by simpa [Value.cells] using hf) with ⟨hcs, hx⟩ | ⟨a, len, cap, zs, hcs, _, hl, hm, hz, hx, hcell, hwz⟩
  · simp only [List.cons.injEq, and_true] at hcs
    rw [hcs]
    exact ⟨[], .inl ⟨rfl, rfl⟩, (fun _ h => by cases h), Nat.zero_le _⟩
  · simp only [List.cons.injEq, and_true] at hcs
    rw [hcs]
    simp only [Prod.mk.injEq] at hx
    obtain ⟨rfl, -⟩ := hx
    simp only [if_true] at hz
    have hlen : (zs.take len).length = len := by simp; omega
    have hbulk : len ≤ Rows.uptoBulk (DataW.slice (lits .i64 (zs.take len)) (lits .i64 (zs.drop len)) : DataW H) := by
      have h1 := bulk_len (lits .i64 (zs.take len) : List (DataW H))
      have h2 : (lits .i64 (zs.take len) : List (DataW H)).length = len := by simp [lits]; omega
      simp only [Rows.uptoBulk]
      omega
    by_cases h0 : len = 0
    · subst h0
      exact ⟨[], .inr (.inl ⟨a, cap, rfl, rfl⟩), (fun _ h => by cases h), Nat.zero_le _⟩
    · obtain ⟨b, off, rfl, hc⟩ := ints_at hcell (show 0 < zs.length by omega)
      refine ⟨zs.take len, .inr (.inr ⟨b, off, cap, by rw [hlen], by omega, lt_of_cell (hc 0 (by omega)), fun j hj => ?_⟩), fun z hz1 => ?_, by rw [hlen]; exact hbulk⟩
      · rw [hc j (by omega)]
        simp only [List.getD, List.getElem?_take]
        rw [if_pos (by omega)]
      · have := bounds_i64 (hwz z (List.mem_of_mem_take hz1))
        omega
end Go.Proofs.YthccbfgjekdiiaaDoor

namespace Go.Proofs.YthccbfgjekdiiaaDoor
open Go.ChangeShapes Go.WideShapes Go.ChangeAt Go.RowKit Go.Deep
set_option maxRecDepth 100000

theorem Tryd.cellsInts : Tryd.prog.cellsOf 23 = 1 := by kernel_rfl
theorem Tryd.cellsStep4 : Tryd.prog.cellsOf 43 = 5 := by kernel_rfl
theorem ints_of_trod {H : Type} {enc : TypeId × Value → H} {W : World} {fuel : Nat} {v : Value} {d : DataW H} {p : List MemPlace} (hf : DataW.trod enc Tryd.prog W 0 (fun _ => true) true fuel 23 [v] = some (d, p)) :
    ∃ zs, Ints W v zs ∧ (∀ z ∈ zs, -9223372036854775808 ≤ z ∧ z < 9223372036854775808) ∧ zs.length ≤ Rows.uptoBulk d := by
  rcases open_ints Tryd.underlying23 Tryd.underlying3 Tryd.cellsInt hf with ⟨hcs, hx⟩ | ⟨a, len, cap, zs, hcs, _, hl, hm, hz, hx, hcell, hwz⟩
  · simp only [List.cons.injEq, and_true] at hcs
    rw [hcs]
    exact ⟨[], .inl ⟨rfl, rfl⟩, (fun _ h => by cases h), Nat.zero_le _⟩
  · simp only [List.cons.injEq, and_true] at hcs
    rw [hcs]
    simp only [Prod.mk.injEq] at hx
    obtain ⟨rfl, -⟩ := hx
    simp only [if_true] at hz
    have hlen : (zs.take len).length = len := by simp; omega
    have hbulk : len ≤ Rows.uptoBulk (DataW.slice (lits .i64 (zs.take len)) (lits .i64 (zs.drop len)) : DataW H) := by
      have h1 := bulk_len (lits .i64 (zs.take len) : List (DataW H))
      have h2 : (lits .i64 (zs.take len) : List (DataW H)).length = len := by simp [lits]; omega
      simp only [Rows.uptoBulk]
      omega
    by_cases h0 : len = 0
    · subst h0
      exact ⟨[], .inr (.inl ⟨a, cap, rfl, rfl⟩), (fun _ h => by cases h), Nat.zero_le _⟩
    · obtain ⟨b, off, rfl, hc⟩ := ints_at hcell (show 0 < zs.length by omega)
      refine ⟨zs.take len, .inr (.inr ⟨b, off, cap, by rw [hlen], by omega, lt_of_cell (hc 0 (by omega)), fun j hj => ?_⟩), fun z hz1 => ?_, by rw [hlen]; exact hbulk⟩
      · rw [hc j (by omega)]
        simp only [List.getD, List.getElem?_take]
        rw [if_pos (by omega)]
      · have := bounds_i64 (hwz z (List.mem_of_mem_take hz1))
        omega
/-- A step: its kind, two numbers, an entry, places. -/
structure Stp4 where
  op : Int
  i : Int
  n : Int
  e : List Nat
  zs : List Int
/-- What is known of a step that came in. -/
structure Stp4.ok (s : Stp4) (W : World) (v p : Value) : Prop where
  e : Sl W v s.e
  z : Ints W p s.zs
  zb : ∀ z ∈ s.zs, -9223372036854775808 ≤ z ∧ z < 9223372036854775808
  nb : -9223372036854775808 ≤ s.n ∧ s.n < 9223372036854775808
  el : s.e.length ≤ 1048576
  zl : s.zs.length ≤ 1048576
theorem step4_of_trod {H : Type} {enc : TypeId × Value → H} {W : World} {fuel : Nat} {cs : List Value} {x : DataW H × List MemPlace} (h : DataW.trod enc Tryd.prog W 0 (fun _ => true) true fuel 43 cs = some x) (hk : Rows.uptoBulk x.1 ≤ 1048576) :
    ∃ (s : Stp4) (v p : Value), cs = [.int .i64 s.op, .int .i64 s.i, .int .i64 s.n, v, p] ∧ s.ok W v p := by
  obtain ⟨xs, n, _, rfl, hl, hlen, hf⟩ := DataW.trod_struct Tryd.underlying43 h
  rw [Tryd.cellsStep4] at hl
  have h0 := hf 0 _ rfl
  have h1 := hf 1 _ rfl
  have h2 := hf 2 _ rfl
  have h3 := hf 3 _ rfl
  have h4 := hf 4 _ rfl
  match cs, hl with
  | [c0, c1, c2, c3, c4], _ =>
    match xs, hlen with
    | [y0, y1, y2, y3, y4], _ =>
      simp [Tryd.cellsInt, Tryd.cellsB, Tryd.cellsInts] at h0 h1 h2 h3 h4
      obtain ⟨a, e0, q0, wa⟩ := DataW.trod_int Tryd.underlying3 h0
      obtain ⟨b, e1, q1, wb⟩ := DataW.trod_int Tryd.underlying3 h1
      obtain ⟨c, e2, q2, wc⟩ := DataW.trod_int Tryd.underlying3 h2
      simp only [List.cons.injEq, and_true] at e0 e1 e2
      subst e0 e1 e2
      obtain ⟨l, s1, s2, s3, s4, s5⟩ := src_of_trod (d := y3.1) (p := y3.2) h3
      obtain ⟨zs, z1, z2, z3⟩ := ints_of_trod (d := y4.1) (p := y4.2) h4
      have hbi : ∀ y : DataW H, y ∈ [y0, y1, y2, y3, y4].map (·.1) → Rows.uptoBulk y ≤ Rows.uptoBulk (DataW.agg ([y0, y1, y2, y3, y4].map (·.1)) : DataW H) := fun y hy => by
        have := bulk_in _ y hy
        simp only [Rows.uptoBulk]
        omega
      have b3 := hbi y3.1 (by simp)
      have b4 := hbi y4.1 (by simp)
      have hn := bounds_i64 wc
      simp only at hk
      exact ⟨⟨a, b, c, l, zs⟩, c3, c4, rfl, ⟨s1, s3, s4, s2⟩, z1, z2, by simp only; omega, by simp only; omega, by simp only; omega⟩
/-- Steps that came in. -/
def SS4 (W : World) (v : Value) (A : List Stp4) : Prop := (∃ a c, v = .slice a 0 c ∧ A = []) ∨ ∃ g o c, v = .slice (some ⟨g, o, none⟩) A.length c ∧ ∀ (j : Nat) (hj : j < A.length), ∃ ev pv, W.cell? ⟨g, o + j * 5 + 0, none⟩ = some (.int .i64 A[j].op) ∧ W.cell? ⟨g, o + j * 5 + 1, none⟩ = some (.int .i64 A[j].i) ∧ W.cell? ⟨g, o + j * 5 + 2, none⟩ = some (.int .i64 A[j].n) ∧ W.cell? ⟨g, o + j * 5 + 3, none⟩ = some ev ∧ W.cell? ⟨g, o + j * 5 + 4, none⟩ = some pv ∧ A[j].ok W ev pv
theorem ss4_of_reading {H : Type} {enc : TypeId × Value → H} {W : World} {base : Nat} {v : Value} {d : DataW H} {p : List MemPlace} (hval : Value.okWide Tryd.prog W .any base 37 v) (h : DataW.Trod enc Tryd.prog W 0 (fun _ => true) true 37 v d p) (hk : Rows.uptoBulk d ≤ 1048576) :
    ∃ A : List Stp4, SS4 W v A ∧ A.length ≤ Rows.uptoBulk d := by
  obtain ⟨a0, len, cap, rfl⟩ := okWide_slice Tryd.underlying37 hval
  obtain ⟨fuel, hf⟩ := h
  rcases open_slice Tryd.underlying37 hf with ⟨hcs, hx⟩ | ⟨a, len', cap', m, n, D, Pl, hcs, _, hl, hm, hmm, hx, hel⟩
  · simp [Value.cells] at hcs
    obtain ⟨rfl, rfl, rfl⟩ := hcs
    exact ⟨[], .inl ⟨none, 0, rfl, rfl⟩, Nat.zero_le _⟩
  · simp [Value.cells] at hcs
    obtain ⟨rfl, rfl, rfl⟩ := hcs
    simp only [Prod.mk.injEq] at hx
    obtain ⟨rfl, -⟩ := hx
    simp only [if_true] at hmm
    subst hmm
    have hbulk := bulk_len ((List.range len).map D)
    have hd : Rows.uptoBulkAll ((List.range len).map D) ≤ Rows.uptoBulk (DataW.slice ((List.range len).map D) ((List.range (m - len)).map fun j => D (len + j)) : DataW H) := by
      simp only [Rows.uptoBulk]; omega
    have hDk : ∀ i, i < len → Rows.uptoBulk (D i) ≤ 1048576 := fun i hi => by
      have := bulk_in ((List.range len).map D) (D i) (List.mem_map.2 ⟨i, List.mem_range.2 hi, rfl⟩)
      omega
    have hp : ∀ i, ∃ (s : Stp4) (v p : Value), i < len → (s.ok W v p ∧ ∀ j, j < 5 → W.cell? ((a.add (i * 5)).add j) = [Value.int .i64 s.op, .int .i64 s.i, .int .i64 s.n, v, p][j]?) := fun i => by
      by_cases hi : i < len
      · obtain ⟨cs', h1, h2⟩ := hel i (by omega)
        rw [Tryd.cellsStep4] at h1
        obtain ⟨_, hlen, hcell⟩ := World.cells?_some h1
        obtain ⟨s, v, p, rfl, hs⟩ := step4_of_trod h2 (hDk i hi)
        exact ⟨s, v, p, fun _ => ⟨hs, hcell⟩⟩
      · exact ⟨⟨0, 0, 0, [], []⟩, .slice none 0 0, .slice none 0 0, fun h => absurd h hi⟩
    obtain ⟨Q, V, P, hQ⟩ : ∃ (Q : Nat → Stp4) (V P : Nat → Value), ∀ i, i < len → ((Q i).ok W (V i) (P i) ∧ ∀ j, j < 5 → W.cell? ((a.add (i * 5)).add j) = [Value.int .i64 (Q i).op, .int .i64 (Q i).i, .int .i64 (Q i).n, V i, P i][j]?) :=
      ⟨fun i => Classical.choose (hp i), fun i => Classical.choose (Classical.choose_spec (hp i)), fun i => Classical.choose (Classical.choose_spec (Classical.choose_spec (hp i))), fun i => Classical.choose_spec (Classical.choose_spec (Classical.choose_spec (hp i)))⟩
    refine ⟨(List.range len).map Q, ?_, by simp at hbulk ⊢; omega⟩
    by_cases h0 : len = 0
    · subst h0
      exact .inl ⟨some a, m, by simp, by simp⟩
    · have hc0 := (hQ 0 (by omega)).2 0 (by decide)
      obtain ⟨g, o, sp⟩ := a
      have hsp : sp = none := by simpa [Addr.add] using World.cell?_spot hc0
      subst hsp
      refine .inr ⟨g, o, m, by simp, fun j hj => ?_⟩
      have hj' : j < len := by simpa using hj
      have hq := hQ j hj'
      have ad : ∀ o i, (⟨g, o, none⟩ : Addr).add i = ⟨g, o + i, none⟩ := fun o i => by unfold Addr.add; split <;> simp_all
      have e : ∀ i, ((⟨g, o, none⟩ : Addr).add (j * 5)).add i = ⟨g, o + j * 5 + i, none⟩ := fun i => by rw [ad, ad]
      have q0 := hq.2 0 (by decide)
      have q1 := hq.2 1 (by decide)
      have q2 := hq.2 2 (by decide)
      have q3 := hq.2 3 (by decide)
      have q4 := hq.2 4 (by decide)
      rw [e] at q0 q1 q2 q3 q4
      simp only [List.getElem?_cons_zero, List.getElem?_cons_succ] at q0 q1 q2 q3 q4
      simp only [List.getElem_map, List.getElem_range]
      exact ⟨V j, P j, q0, q1, q2, q3, q4, hq.1⟩
end Go.Proofs.YthccbfgjekdiiaaDoor

namespace Go.Proofs.YthccbfgjekdiiaaDoor
open Go.RowKit

set_option maxRecDepth 100000 in
theorem grow_a_any (j : Int) (tb eb : Nat) (dO : Option Addr) (dc : Nat) (us : List Value) (es : List (List Nat)) (w0 w : World) (h : TS w0 w j tb eb dO dc us es) (hfm : (dO = none ∧ dc = 0 ∧ es = []) ∨ ∃ g, dO = some ⟨g, 0, none⟩) (hlt4 : es.length < 400) (hng : 6 ≤ w0.heap.size) (s : Stp4) (eo po : Option Addr) (ec pc : Nat) (hs : s.ok w0 (.slice eo s.e.length ec) (.slice po s.zs.length pc)) (hop : s.op = 0) (hevb : s.e = [] ∨ Bk (.slice eo s.e.length ec) (fun g => g < w0.heap.size)) :
    Calls Tryd.prog 16 #[.int .i64 j, .pointer (some ⟨tb, 0, none⟩), .pointer (some ⟨eb, 0, none⟩), .agg #[.int .i64 s.op, .int .i64 s.i, .int .i64 s.n, .slice eo s.e.length ec, .slice po s.zs.length pc]] w fun e w' => e = .returned (.bool true) ∧ ∃ dO' dc' us' es', TS w0 w' j tb eb dO' dc' us' es' ∧ ((dO' = none ∧ dc' = 0 ∧ es' = []) ∨ ∃ g, dO' = some ⟨g, 0, none⟩) ∧ es'.length ≤ es.length + 1 := by
  have _ := hng
  have _ := hs
  have _ := hevb
  have _ := hlt4
  rw [hop]
  clear hop
  by_cases hj : 1 ≤ j ∧ j ≤ 32
  · obtain ⟨wi, rfl⟩ : ∃ wi : Nat, j = (wi : Int) := ⟨j.toNat, by omega⟩
    by_cases hk : s.n < 0
    · refine (grow_a_lo wi s.n (by omega) (by omega) hk s.i tb eb dO dc us es w0 w h (by first | exact hlt4 | simp) hng eo po _ ec _ pc s.e (hs.e.fr0 h.fr) hevb (by have := hs.el; omega)).mono ?_
      rintro e w' ⟨rfl, g', dc', us', hT⟩
      exact ⟨rfl, _, dc', us', _, hT, .inr ⟨g', rfl⟩, by simp⟩
    · by_cases hk : (es.length : Int) < s.n
      · refine (grow_a_hi wi s.n (by omega) (by omega) s.i tb eb dO dc us es w0 w h hk (by first | exact hlt4 | simp) hng eo po _ ec _ pc s.e (hs.e.fr0 h.fr) hevb (by have := hs.el; omega)).mono ?_
        rintro e w' ⟨rfl, g', dc', us', hT⟩
        exact ⟨rfl, _, dc', us', _, hT, .inr ⟨g', rfl⟩, by simp⟩
      · obtain ⟨K, hKK⟩ : ∃ K : Nat, s.n = (K : Int) := ⟨s.n.toNat, by omega⟩
        have hK : K ≤ es.length := by omega
        rw [hKK]
        rcases hfm with ⟨rfl, rfl, rfl⟩ | ⟨dg, rfl⟩
        · have hfm : (none = (none : Option Addr) ∧ (0 : Nat) = 0 ∧ ([] : List (List Nat)) = []) ∨ ∃ g, (none : Option Addr) = some ⟨g, 0, none⟩ := .inl ⟨rfl, rfl, rfl⟩
          obtain rfl : K = 0 := by simpa using hK
          refine (grow_a_in0 wi (by omega) (by omega) s.i tb eb us w0 w h (by first | exact hlt4 | simp) hng eo po _ ec _ pc s.e (hs.e.fr0 h.fr) hevb (by have := hs.el; omega)).mono ?_
          rintro e w' ⟨rfl, g', dc', us', hT⟩
          exact ⟨rfl, _, dc', us', _, hT, .inr ⟨g', rfl⟩, by simp⟩
        · have hfm : ((some ⟨dg, 0, none⟩ : Option Addr) = none ∧ dc = 0 ∧ es = []) ∨ ∃ g, (some ⟨dg, 0, none⟩ : Option Addr) = some ⟨g, 0, none⟩ := .inr ⟨dg, rfl⟩
          refine (grow_a_in wi K dg (by omega) (by omega) s.i tb eb dc us es w0 w h hK (by first | exact hlt4 | simp) hng eo po _ ec _ pc s.e (hs.e.fr0 h.fr) hevb (by have := hs.el; omega)).mono ?_
          rintro e w' ⟨rfl, g', dc', us', hT⟩
          exact ⟨rfl, _, dc', us', _, hT, .inr ⟨g', rfl⟩, by simp⟩
  · refine (grow_a_nm j s.n hj s.i tb eb dO dc us es w0 w h (by first | exact hlt4 | simp) hng eo po _ ec _ pc s.e (hs.e.fr0 h.fr) hevb (by have := hs.el; omega)).mono ?_
    rintro e w' ⟨rfl, g', dc', us', hT⟩
    exact ⟨rfl, _, dc', us', _, hT, .inr ⟨g', rfl⟩, by simp⟩
set_option maxRecDepth 100000 in
theorem grow_l_any (j : Int) (tb eb : Nat) (dO : Option Addr) (dc : Nat) (us : List Value) (es : List (List Nat)) (w0 w : World) (h : TS w0 w j tb eb dO dc us es) (hfm : (dO = none ∧ dc = 0 ∧ es = []) ∨ ∃ g, dO = some ⟨g, 0, none⟩) (hlt4 : es.length < 400) (hng : 6 ≤ w0.heap.size) (s : Stp4) (eo po : Option Addr) (ec pc : Nat) (hs : s.ok w0 (.slice eo s.e.length ec) (.slice po s.zs.length pc)) (hop : s.op = 1) (hevb : s.e = [] ∨ Bk (.slice eo s.e.length ec) (fun g => g < w0.heap.size)) :
    Calls Tryd.prog 16 #[.int .i64 j, .pointer (some ⟨tb, 0, none⟩), .pointer (some ⟨eb, 0, none⟩), .agg #[.int .i64 s.op, .int .i64 s.i, .int .i64 s.n, .slice eo s.e.length ec, .slice po s.zs.length pc]] w fun e w' => e = .returned (.bool true) ∧ ∃ dO' dc' us' es', TS w0 w' j tb eb dO' dc' us' es' ∧ ((dO' = none ∧ dc' = 0 ∧ es' = []) ∨ ∃ g, dO' = some ⟨g, 0, none⟩) ∧ es'.length ≤ es.length + 1 := by
  have _ := hng
  have _ := hs
  have _ := hevb
  have _ := hlt4
  rw [hop]
  clear hop
  by_cases hj : 1 ≤ j ∧ j ≤ 32
  · obtain ⟨wi, rfl⟩ : ∃ wi : Nat, j = (wi : Int) := ⟨j.toNat, by omega⟩
    by_cases hk : s.n < 0
    · refine (grow_l_lo wi s.n (by omega) (by omega) hk s.i tb eb dO dc us es w0 w h eo po _ ec _ pc).mono ?_
      rintro e w' ⟨rfl, hf⟩
      exact ⟨rfl, _, _, _, _, h.fr0 hf, hfm, by simp⟩
    · by_cases hk : (es.length : Int) < s.n
      · refine (grow_l_hi wi s.n (by omega) (by omega) s.i tb eb dO dc us es w0 w h hk eo po _ ec _ pc).mono ?_
        rintro e w' ⟨rfl, hf⟩
        exact ⟨rfl, _, _, _, _, h.fr0 hf, hfm, by simp⟩
      · obtain ⟨K, hKK⟩ : ∃ K : Nat, s.n = (K : Int) := ⟨s.n.toNat, by omega⟩
        have hK : K ≤ es.length := by omega
        rw [hKK]
        rcases hfm with ⟨rfl, rfl, rfl⟩ | ⟨dg, rfl⟩
        · have hfm : (none = (none : Option Addr) ∧ (0 : Nat) = 0 ∧ ([] : List (List Nat)) = []) ∨ ∃ g, (none : Option Addr) = some ⟨g, 0, none⟩ := .inl ⟨rfl, rfl, rfl⟩
          obtain rfl : K = 0 := by simpa using hK
          refine (grow_l_in0 wi (by omega) (by omega) s.i tb eb us w0 w h eo po _ ec _ pc).mono ?_
          rintro e w' ⟨rfl, hf⟩
          exact ⟨rfl, _, _, _, _, h.fr0 hf, hfm, by simp⟩
        · have hfm : ((some ⟨dg, 0, none⟩ : Option Addr) = none ∧ dc = 0 ∧ es = []) ∨ ∃ g, (some ⟨dg, 0, none⟩ : Option Addr) = some ⟨g, 0, none⟩ := .inr ⟨dg, rfl⟩
          refine (grow_l_in wi K dg (by omega) (by omega) s.i tb eb dc us es w0 w h hK eo po _ ec _ pc).mono ?_
          rintro e w' ⟨rfl, hf⟩
          exact ⟨rfl, _, _, _, _, h.fr0 hf, hfm, by simp⟩
  · refine (grow_l_nm j s.n hj s.i tb eb dO dc us es w0 w h eo po _ ec _ pc).mono ?_
    rintro e w' ⟨rfl, hf⟩
    exact ⟨rfl, _, _, _, _, h.fr0 hf, hfm, by simp⟩
set_option maxRecDepth 100000 in
theorem grow_k_any (j : Int) (tb eb : Nat) (dO : Option Addr) (dc : Nat) (us : List Value) (es : List (List Nat)) (w0 w : World) (h : TS w0 w j tb eb dO dc us es) (hfm : (dO = none ∧ dc = 0 ∧ es = []) ∨ ∃ g, dO = some ⟨g, 0, none⟩) (hlt4 : es.length < 400) (hng : 6 ≤ w0.heap.size) (s : Stp4) (eo po : Option Addr) (ec pc : Nat) (hs : s.ok w0 (.slice eo s.e.length ec) (.slice po s.zs.length pc)) (hop : s.op = 2) (hevb : s.e = [] ∨ Bk (.slice eo s.e.length ec) (fun g => g < w0.heap.size)) :
    Calls Tryd.prog 16 #[.int .i64 j, .pointer (some ⟨tb, 0, none⟩), .pointer (some ⟨eb, 0, none⟩), .agg #[.int .i64 s.op, .int .i64 s.i, .int .i64 s.n, .slice eo s.e.length ec, .slice po s.zs.length pc]] w fun e w' => e = .returned (.bool true) ∧ ∃ dO' dc' us' es', TS w0 w' j tb eb dO' dc' us' es' ∧ ((dO' = none ∧ dc' = 0 ∧ es' = []) ∨ ∃ g, dO' = some ⟨g, 0, none⟩) ∧ es'.length ≤ es.length + 1 := by
  have _ := hng
  have _ := hs
  have _ := hevb
  have _ := hlt4
  rw [hop]
  clear hop
  by_cases hj : 1 ≤ j ∧ j ≤ 32
  · obtain ⟨wi, rfl⟩ : ∃ wi : Nat, j = (wi : Int) := ⟨j.toNat, by omega⟩
    by_cases hk : s.n < 0
    · refine (grow_k_lo wi s.n (by omega) (by omega) hk s.i tb eb dO dc us es w0 w h eo po _ ec _ pc).mono ?_
      rintro e w' ⟨rfl, hf⟩
      exact ⟨rfl, _, _, _, _, h.fr0 hf, hfm, by simp⟩
    · by_cases hk : (es.length : Int) < s.n
      · refine (grow_k_hi wi s.n (by omega) (by omega) s.i tb eb dO dc us es w0 w h hk eo po _ ec _ pc).mono ?_
        rintro e w' ⟨rfl, hf⟩
        exact ⟨rfl, _, _, _, _, h.fr0 hf, hfm, by simp⟩
      · obtain ⟨K, hKK⟩ : ∃ K : Nat, s.n = (K : Int) := ⟨s.n.toNat, by omega⟩
        have hK : K ≤ es.length := by omega
        rw [hKK]
        rcases hfm with ⟨rfl, rfl, rfl⟩ | ⟨dg, rfl⟩
        · have hfm : (none = (none : Option Addr) ∧ (0 : Nat) = 0 ∧ ([] : List (List Nat)) = []) ∨ ∃ g, (none : Option Addr) = some ⟨g, 0, none⟩ := .inl ⟨rfl, rfl, rfl⟩
          obtain rfl : K = 0 := by simpa using hK
          refine (grow_k_in0 wi (by omega) (by omega) s.i tb eb us w0 w h eo po _ ec _ pc).mono ?_
          rintro e w' ⟨rfl, hf⟩
          exact ⟨rfl, _, _, _, _, h.fr0 hf, hfm, by simp⟩
        · have hfm : ((some ⟨dg, 0, none⟩ : Option Addr) = none ∧ dc = 0 ∧ es = []) ∨ ∃ g, (some ⟨dg, 0, none⟩ : Option Addr) = some ⟨g, 0, none⟩ := .inr ⟨dg, rfl⟩
          refine (grow_k_in wi K dg (by omega) (by omega) s.i tb eb dc us es w0 w h hK eo po _ ec _ pc).mono ?_
          rintro e w' ⟨rfl, hf⟩
          exact ⟨rfl, _, _, _, _, h.fr0 hf, hfm, by simp⟩
  · refine (grow_k_nm j s.n hj s.i tb eb dO dc us es w0 w h eo po _ ec _ pc).mono ?_
    rintro e w' ⟨rfl, hf⟩
    exact ⟨rfl, _, _, _, _, h.fr0 hf, hfm, by simp⟩
set_option maxRecDepth 100000 in
theorem grow_r_any (j : Int) (tb eb : Nat) (dO : Option Addr) (dc : Nat) (us : List Value) (es : List (List Nat)) (w0 w : World) (h : TS w0 w j tb eb dO dc us es) (hfm : (dO = none ∧ dc = 0 ∧ es = []) ∨ ∃ g, dO = some ⟨g, 0, none⟩) (hlt4 : es.length < 400) (hng : 6 ≤ w0.heap.size) (s : Stp4) (eo po : Option Addr) (ec pc : Nat) (hs : s.ok w0 (.slice eo s.e.length ec) (.slice po s.zs.length pc)) (hop : s.op = 3) (hevb : s.e = [] ∨ Bk (.slice eo s.e.length ec) (fun g => g < w0.heap.size)) :
    Calls Tryd.prog 16 #[.int .i64 j, .pointer (some ⟨tb, 0, none⟩), .pointer (some ⟨eb, 0, none⟩), .agg #[.int .i64 s.op, .int .i64 s.i, .int .i64 s.n, .slice eo s.e.length ec, .slice po s.zs.length pc]] w fun e w' => e = .returned (.bool true) ∧ ∃ dO' dc' us' es', TS w0 w' j tb eb dO' dc' us' es' ∧ ((dO' = none ∧ dc' = 0 ∧ es' = []) ∨ ∃ g, dO' = some ⟨g, 0, none⟩) ∧ es'.length ≤ es.length + 1 := by
  have _ := hng
  have _ := hs
  have _ := hevb
  have _ := hlt4
  rw [hop]
  clear hop
  by_cases hj : 1 ≤ j ∧ j ≤ 32
  · obtain ⟨wi, rfl⟩ : ∃ wi : Nat, j = (wi : Int) := ⟨j.toNat, by omega⟩
    by_cases hk : s.n < 0
    · refine (grow_r_lo wi s.n (by omega) (by omega) hk s.i tb eb dO dc us es w0 w h eo po _ ec _ pc).mono ?_
      rintro e w' ⟨rfl, hf⟩
      exact ⟨rfl, _, _, _, _, h.fr0 hf, hfm, by simp⟩
    · by_cases hk : (es.length : Int) < s.n
      · refine (grow_r_hi wi s.n (by omega) (by omega) s.i tb eb dO dc us es w0 w h hk eo po _ ec _ pc).mono ?_
        rintro e w' ⟨rfl, hf⟩
        exact ⟨rfl, _, _, _, _, h.fr0 hf, hfm, by simp⟩
      · obtain ⟨K, hKK⟩ : ∃ K : Nat, s.n = (K : Int) := ⟨s.n.toNat, by omega⟩
        have hK : K ≤ es.length := by omega
        rw [hKK]
        rcases hfm with ⟨rfl, rfl, rfl⟩ | ⟨dg, rfl⟩
        · have hfm : (none = (none : Option Addr) ∧ (0 : Nat) = 0 ∧ ([] : List (List Nat)) = []) ∨ ∃ g, (none : Option Addr) = some ⟨g, 0, none⟩ := .inl ⟨rfl, rfl, rfl⟩
          obtain rfl : K = 0 := by simpa using hK
          refine (grow_r_in0 wi (by omega) (by omega) s.i tb eb us w0 w h eo po _ ec _ pc).mono ?_
          rintro e w' ⟨rfl, hf⟩
          exact ⟨rfl, _, _, _, _, h.fr0 hf, hfm, by simp⟩
        · have hfm : ((some ⟨dg, 0, none⟩ : Option Addr) = none ∧ dc = 0 ∧ es = []) ∨ ∃ g, (some ⟨dg, 0, none⟩ : Option Addr) = some ⟨g, 0, none⟩ := .inr ⟨dg, rfl⟩
          refine (grow_r_in wi K dg (by omega) (by omega) s.i tb eb dc us es w0 w h hK eo po _ ec _ pc).mono ?_
          rintro e w' ⟨rfl, hf⟩
          exact ⟨rfl, _, _, _, _, h.fr0 hf, hfm, by simp⟩
  · refine (grow_r_nm j s.n hj s.i tb eb dO dc us es w0 w h eo po _ ec _ pc).mono ?_
    rintro e w' ⟨rfl, hf⟩
    exact ⟨rfl, _, _, _, _, h.fr0 hf, hfm, by simp⟩
set_option maxRecDepth 100000 in
theorem grow_p_any (j : Int) (tb eb : Nat) (dO : Option Addr) (dc : Nat) (us : List Value) (es : List (List Nat)) (w0 w : World) (h : TS w0 w j tb eb dO dc us es) (hfm : (dO = none ∧ dc = 0 ∧ es = []) ∨ ∃ g, dO = some ⟨g, 0, none⟩) (hlt4 : es.length < 400) (hng : 6 ≤ w0.heap.size) (s : Stp4) (eo po : Option Addr) (ec pc : Nat) (hs : s.ok w0 (.slice eo s.e.length ec) (.slice po s.zs.length pc)) (hop : s.op = 4) (hevb : s.e = [] ∨ Bk (.slice eo s.e.length ec) (fun g => g < w0.heap.size)) :
    Calls Tryd.prog 16 #[.int .i64 j, .pointer (some ⟨tb, 0, none⟩), .pointer (some ⟨eb, 0, none⟩), .agg #[.int .i64 s.op, .int .i64 s.i, .int .i64 s.n, .slice eo s.e.length ec, .slice po s.zs.length pc]] w fun e w' => e = .returned (.bool true) ∧ ∃ dO' dc' us' es', TS w0 w' j tb eb dO' dc' us' es' ∧ ((dO' = none ∧ dc' = 0 ∧ es' = []) ∨ ∃ g, dO' = some ⟨g, 0, none⟩) ∧ es'.length ≤ es.length + 1 := by
  have _ := hng
  have _ := hs
  have _ := hevb
  have _ := hlt4
  rw [hop]
  clear hop
  by_cases hj : 1 ≤ j ∧ j ≤ 32
  · obtain ⟨wi, rfl⟩ : ∃ wi : Nat, j = (wi : Int) := ⟨j.toNat, by omega⟩
    by_cases hk : s.n < 0
    · refine (grow_p_lo wi s.n (by omega) (by omega) hk s.i tb eb dO dc us es w0 w h eo po _ ec _ pc).mono ?_
      rintro e w' ⟨rfl, hf⟩
      exact ⟨rfl, _, _, _, _, h.fr0 hf, hfm, by simp⟩
    · by_cases hk : (es.length : Int) < s.n
      · refine (grow_p_hi wi s.n (by omega) (by omega) s.i tb eb dO dc us es w0 w h hk eo po _ ec _ pc).mono ?_
        rintro e w' ⟨rfl, hf⟩
        exact ⟨rfl, _, _, _, _, h.fr0 hf, hfm, by simp⟩
      · obtain ⟨K, hKK⟩ : ∃ K : Nat, s.n = (K : Int) := ⟨s.n.toNat, by omega⟩
        have hK : K ≤ es.length := by omega
        rw [hKK]
        rcases hfm with ⟨rfl, rfl, rfl⟩ | ⟨dg, rfl⟩
        · have hfm : (none = (none : Option Addr) ∧ (0 : Nat) = 0 ∧ ([] : List (List Nat)) = []) ∨ ∃ g, (none : Option Addr) = some ⟨g, 0, none⟩ := .inl ⟨rfl, rfl, rfl⟩
          obtain rfl : K = 0 := by simpa using hK
          refine (grow_p_in0 wi (by omega) (by omega) s.i tb eb us w0 w h eo po _ ec _ pc).mono ?_
          rintro e w' ⟨rfl, hf⟩
          exact ⟨rfl, _, _, _, _, h.fr0 hf, hfm, by simp⟩
        · have hfm : ((some ⟨dg, 0, none⟩ : Option Addr) = none ∧ dc = 0 ∧ es = []) ∨ ∃ g, (some ⟨dg, 0, none⟩ : Option Addr) = some ⟨g, 0, none⟩ := .inr ⟨dg, rfl⟩
          refine (grow_p_in wi K dg (by omega) (by omega) s.i tb eb dc us es w0 w h hK eo po _ ec _ pc).mono ?_
          rintro e w' ⟨rfl, hf⟩
          exact ⟨rfl, _, _, _, _, h.fr0 hf, hfm, by simp⟩
  · refine (grow_p_nm j s.n hj s.i tb eb dO dc us es w0 w h eo po _ ec _ pc).mono ?_
    rintro e w' ⟨rfl, hf⟩
    exact ⟨rfl, _, _, _, _, h.fr0 hf, hfm, by simp⟩
set_option maxRecDepth 100000 in
theorem grow_q_any (j : Int) (tb eb : Nat) (dO : Option Addr) (dc : Nat) (us : List Value) (es : List (List Nat)) (w0 w : World) (h : TS w0 w j tb eb dO dc us es) (hfm : (dO = none ∧ dc = 0 ∧ es = []) ∨ ∃ g, dO = some ⟨g, 0, none⟩) (hlt4 : es.length < 400) (hng : 6 ≤ w0.heap.size) (s : Stp4) (eo po : Option Addr) (ec pc : Nat) (hs : s.ok w0 (.slice eo s.e.length ec) (.slice po s.zs.length pc)) (hop : s.op = 5) (hevb : s.e = [] ∨ Bk (.slice eo s.e.length ec) (fun g => g < w0.heap.size)) :
    Calls Tryd.prog 16 #[.int .i64 j, .pointer (some ⟨tb, 0, none⟩), .pointer (some ⟨eb, 0, none⟩), .agg #[.int .i64 s.op, .int .i64 s.i, .int .i64 s.n, .slice eo s.e.length ec, .slice po s.zs.length pc]] w fun e w' => e = .returned (.bool true) ∧ ∃ dO' dc' us' es', TS w0 w' j tb eb dO' dc' us' es' ∧ ((dO' = none ∧ dc' = 0 ∧ es' = []) ∨ ∃ g, dO' = some ⟨g, 0, none⟩) ∧ es'.length ≤ es.length + 1 := by
  have _ := hng
  have _ := hs
  have _ := hevb
  have _ := hlt4
  rw [hop]
  clear hop
  by_cases hj : 1 ≤ j ∧ j ≤ 32
  · obtain ⟨wi, rfl⟩ : ∃ wi : Nat, j = (wi : Int) := ⟨j.toNat, by omega⟩
    by_cases hk : s.n < 0
    · refine (grow_q_lo wi s.n (by omega) (by omega) hk s.i tb eb dO dc us es w0 w h eo po _ ec _ pc).mono ?_
      rintro e w' ⟨rfl, hf⟩
      exact ⟨rfl, _, _, _, _, h.fr0 hf, hfm, by simp⟩
    · by_cases hk : (es.length : Int) < s.n
      · refine (grow_q_hi wi s.n (by omega) (by omega) s.i tb eb dO dc us es w0 w h hk eo po _ ec _ pc).mono ?_
        rintro e w' ⟨rfl, hf⟩
        exact ⟨rfl, _, _, _, _, h.fr0 hf, hfm, by simp⟩
      · obtain ⟨K, hKK⟩ : ∃ K : Nat, s.n = (K : Int) := ⟨s.n.toNat, by omega⟩
        have hK : K ≤ es.length := by omega
        rw [hKK]
        rcases hfm with ⟨rfl, rfl, rfl⟩ | ⟨dg, rfl⟩
        · have hfm : (none = (none : Option Addr) ∧ (0 : Nat) = 0 ∧ ([] : List (List Nat)) = []) ∨ ∃ g, (none : Option Addr) = some ⟨g, 0, none⟩ := .inl ⟨rfl, rfl, rfl⟩
          obtain rfl : K = 0 := by simpa using hK
          refine (grow_q_in0 wi (by omega) (by omega) s.i tb eb us w0 w h eo po _ ec _ pc).mono ?_
          rintro e w' ⟨rfl, hf⟩
          exact ⟨rfl, _, _, _, _, h.fr0 hf, hfm, by simp⟩
        · have hfm : ((some ⟨dg, 0, none⟩ : Option Addr) = none ∧ dc = 0 ∧ es = []) ∨ ∃ g, (some ⟨dg, 0, none⟩ : Option Addr) = some ⟨g, 0, none⟩ := .inr ⟨dg, rfl⟩
          refine (grow_q_in wi K dg (by omega) (by omega) s.i tb eb dc us es w0 w h hK eo po _ ec _ pc).mono ?_
          rintro e w' ⟨rfl, hf⟩
          exact ⟨rfl, _, _, _, _, h.fr0 hf, hfm, by simp⟩
  · refine (grow_q_nm j s.n hj s.i tb eb dO dc us es w0 w h eo po _ ec _ pc).mono ?_
    rintro e w' ⟨rfl, hf⟩
    exact ⟨rfl, _, _, _, _, h.fr0 hf, hfm, by simp⟩
set_option maxRecDepth 100000 in
theorem grow_m_any (j : Int) (tb eb : Nat) (dO : Option Addr) (dc : Nat) (us : List Value) (es : List (List Nat)) (w0 w : World) (h : TS w0 w j tb eb dO dc us es) (hfm : (dO = none ∧ dc = 0 ∧ es = []) ∨ ∃ g, dO = some ⟨g, 0, none⟩) (hlt4 : es.length < 400) (hng : 6 ≤ w0.heap.size) (s : Stp4) (eo po : Option Addr) (ec pc : Nat) (hs : s.ok w0 (.slice eo s.e.length ec) (.slice po s.zs.length pc)) (hop : s.op = 6) (hevb : s.e = [] ∨ Bk (.slice eo s.e.length ec) (fun g => g < w0.heap.size)) :
    Calls Tryd.prog 16 #[.int .i64 j, .pointer (some ⟨tb, 0, none⟩), .pointer (some ⟨eb, 0, none⟩), .agg #[.int .i64 s.op, .int .i64 s.i, .int .i64 s.n, .slice eo s.e.length ec, .slice po s.zs.length pc]] w fun e w' => e = .returned (.bool true) ∧ ∃ dO' dc' us' es', TS w0 w' j tb eb dO' dc' us' es' ∧ ((dO' = none ∧ dc' = 0 ∧ es' = []) ∨ ∃ g, dO' = some ⟨g, 0, none⟩) ∧ es'.length ≤ es.length + 1 := by
  have _ := hng
  have _ := hs
  have _ := hevb
  have _ := hlt4
  rw [hop]
  clear hop
  by_cases hj : 1 ≤ j ∧ j ≤ 32
  · obtain ⟨wi, rfl⟩ : ∃ wi : Nat, j = (wi : Int) := ⟨j.toNat, by omega⟩
    by_cases hk : s.n < 0
    · refine (grow_m_lo wi s.n (by omega) (by omega) hk s.i tb eb dO dc us es w0 w h hs.nb.2 eo po _ ec _ pc s.zs (hs.z.fr0 h.fr) (by have := hs.zl; omega) (fun z hz => (hs.zb z hz).1)).mono ?_
      rintro e w' ⟨rfl, hf⟩
      exact ⟨rfl, _, _, _, _, h.fr0 hf, hfm, by simp⟩
    · by_cases hk : (es.length : Int) < s.n
      · refine (grow_m_hi wi s.n (by omega) (by omega) s.i tb eb dO dc us es w0 w h hk hs.nb.2 eo po _ ec _ pc s.zs (hs.z.fr0 h.fr) (by have := hs.zl; omega) (fun z hz => (hs.zb z hz).1)).mono ?_
        rintro e w' ⟨rfl, hf⟩
        exact ⟨rfl, _, _, _, _, h.fr0 hf, hfm, by simp⟩
      · obtain ⟨K, hKK⟩ : ∃ K : Nat, s.n = (K : Int) := ⟨s.n.toNat, by omega⟩
        have hK : K ≤ es.length := by omega
        rw [hKK]
        rcases hfm with ⟨rfl, rfl, rfl⟩ | ⟨dg, rfl⟩
        · have hfm : (none = (none : Option Addr) ∧ (0 : Nat) = 0 ∧ ([] : List (List Nat)) = []) ∨ ∃ g, (none : Option Addr) = some ⟨g, 0, none⟩ := .inl ⟨rfl, rfl, rfl⟩
          obtain rfl : K = 0 := by simpa using hK
          refine (grow_m_in0 wi (by omega) (by omega) s.i tb eb us w0 w h eo po _ ec _ pc s.zs (hs.z.fr0 h.fr) (by have := hs.zl; omega) (fun z hz => (hs.zb z hz).1)).mono ?_
          rintro e w' ⟨rfl, hf⟩
          exact ⟨rfl, _, _, _, _, h.fr0 hf, hfm, by simp⟩
        · have hfm : ((some ⟨dg, 0, none⟩ : Option Addr) = none ∧ dc = 0 ∧ es = []) ∨ ∃ g, (some ⟨dg, 0, none⟩ : Option Addr) = some ⟨g, 0, none⟩ := .inr ⟨dg, rfl⟩
          refine (grow_m_in wi K dg (by omega) (by omega) s.i tb eb dc us es w0 w h hK eo po _ ec _ pc s.zs (hs.z.fr0 h.fr) (by have := hs.zl; omega) (fun z hz => (hs.zb z hz).1)).mono ?_
          rintro e w' ⟨rfl, hf⟩
          exact ⟨rfl, _, _, _, _, h.fr0 hf, hfm, by simp⟩
  · refine (grow_m_nm j s.n hj s.i tb eb dO dc us es w0 w h hs.nb.2 eo po _ ec _ pc s.zs (hs.z.fr0 h.fr) (by have := hs.zl; omega) (fun z hz => (hs.zb z hz).1)).mono ?_
    rintro e w' ⟨rfl, hf⟩
    exact ⟨rfl, _, _, _, _, h.fr0 hf, hfm, by simp⟩
set_option maxRecDepth 100000 in
theorem grow_x_any (j : Int) (tb eb : Nat) (dO : Option Addr) (dc : Nat) (us : List Value) (es : List (List Nat)) (w0 w : World) (h : TS w0 w j tb eb dO dc us es) (hfm : (dO = none ∧ dc = 0 ∧ es = []) ∨ ∃ g, dO = some ⟨g, 0, none⟩) (hlt4 : es.length < 400) (hng : 6 ≤ w0.heap.size) (s : Stp4) (eo po : Option Addr) (ec pc : Nat) (hs : s.ok w0 (.slice eo s.e.length ec) (.slice po s.zs.length pc)) (hop : s.op < 0 ∨ 6 < s.op) (hevb : s.e = [] ∨ Bk (.slice eo s.e.length ec) (fun g => g < w0.heap.size)) :
    Calls Tryd.prog 16 #[.int .i64 j, .pointer (some ⟨tb, 0, none⟩), .pointer (some ⟨eb, 0, none⟩), .agg #[.int .i64 s.op, .int .i64 s.i, .int .i64 s.n, .slice eo s.e.length ec, .slice po s.zs.length pc]] w fun e w' => e = .returned (.bool true) ∧ ∃ dO' dc' us' es', TS w0 w' j tb eb dO' dc' us' es' ∧ ((dO' = none ∧ dc' = 0 ∧ es' = []) ∨ ∃ g, dO' = some ⟨g, 0, none⟩) ∧ es'.length ≤ es.length + 1 := by
  have _ := hng
  have _ := hs
  have _ := hevb
  have _ := hlt4
  by_cases hj : 1 ≤ j ∧ j ≤ 32
  · obtain ⟨wi, rfl⟩ : ∃ wi : Nat, j = (wi : Int) := ⟨j.toNat, by omega⟩
    by_cases hk : s.n < 0
    · refine (grow_x_lo wi s.n (by omega) (by omega) hk s.i tb eb dO dc us es w0 w h s.op hop eo po _ ec _ pc).mono ?_
      rintro e w' ⟨rfl, hf⟩
      exact ⟨rfl, _, _, _, _, h.fr0 hf, hfm, by simp⟩
    · by_cases hk : (es.length : Int) < s.n
      · refine (grow_x_hi wi s.n (by omega) (by omega) s.i tb eb dO dc us es w0 w h hk s.op hop eo po _ ec _ pc).mono ?_
        rintro e w' ⟨rfl, hf⟩
        exact ⟨rfl, _, _, _, _, h.fr0 hf, hfm, by simp⟩
      · obtain ⟨K, hKK⟩ : ∃ K : Nat, s.n = (K : Int) := ⟨s.n.toNat, by omega⟩
        have hK : K ≤ es.length := by omega
        rw [hKK]
        rcases hfm with ⟨rfl, rfl, rfl⟩ | ⟨dg, rfl⟩
        · have hfm : (none = (none : Option Addr) ∧ (0 : Nat) = 0 ∧ ([] : List (List Nat)) = []) ∨ ∃ g, (none : Option Addr) = some ⟨g, 0, none⟩ := .inl ⟨rfl, rfl, rfl⟩
          obtain rfl : K = 0 := by simpa using hK
          refine (grow_x_in0 wi (by omega) (by omega) s.i tb eb us w0 w h s.op hop eo po _ ec _ pc).mono ?_
          rintro e w' ⟨rfl, hf⟩
          exact ⟨rfl, _, _, _, _, h.fr0 hf, hfm, by simp⟩
        · have hfm : ((some ⟨dg, 0, none⟩ : Option Addr) = none ∧ dc = 0 ∧ es = []) ∨ ∃ g, (some ⟨dg, 0, none⟩ : Option Addr) = some ⟨g, 0, none⟩ := .inr ⟨dg, rfl⟩
          refine (grow_x_in wi K dg (by omega) (by omega) s.i tb eb dc us es w0 w h hK s.op hop eo po _ ec _ pc).mono ?_
          rintro e w' ⟨rfl, hf⟩
          exact ⟨rfl, _, _, _, _, h.fr0 hf, hfm, by simp⟩
  · refine (grow_x_nm j s.n hj s.i tb eb dO dc us es w0 w h s.op hop eo po _ ec _ pc).mono ?_
    rintro e w' ⟨rfl, hf⟩
    exact ⟨rfl, _, _, _, _, h.fr0 hf, hfm, by simp⟩
set_option maxRecDepth 100000 in
theorem grow4_any (j : Int) (tb eb : Nat) (dO : Option Addr) (dc : Nat) (us : List Value) (es : List (List Nat)) (w0 w : World) (h : TS w0 w j tb eb dO dc us es) (hfm : (dO = none ∧ dc = 0 ∧ es = []) ∨ ∃ g, dO = some ⟨g, 0, none⟩) (hlt4 : es.length < 400) (hng : 6 ≤ w0.heap.size) (s : Stp4) (eo po : Option Addr) (ec pc : Nat) (hs : s.ok w0 (.slice eo s.e.length ec) (.slice po s.zs.length pc)) (hevb : s.e = [] ∨ Bk (.slice eo s.e.length ec) (fun g => g < w0.heap.size)) :
    Calls Tryd.prog 16 #[.int .i64 j, .pointer (some ⟨tb, 0, none⟩), .pointer (some ⟨eb, 0, none⟩), .agg #[.int .i64 s.op, .int .i64 s.i, .int .i64 s.n, .slice eo s.e.length ec, .slice po s.zs.length pc]] w fun e w' => e = .returned (.bool true) ∧ ∃ dO' dc' us' es', TS w0 w' j tb eb dO' dc' us' es' ∧ ((dO' = none ∧ dc' = 0 ∧ es' = []) ∨ ∃ g, dO' = some ⟨g, 0, none⟩) ∧ es'.length ≤ es.length + 1 := by
  have _ := hng
  have _ := hs
  have _ := hevb
  have _ := hlt4
  by_cases h0 : s.op = 0
  · exact grow_a_any j tb eb dO dc us es w0 w h hfm hlt4 hng s eo po ec pc hs h0 hevb
  by_cases h1 : s.op = 1
  · exact grow_l_any j tb eb dO dc us es w0 w h hfm hlt4 hng s eo po ec pc hs h1 hevb
  by_cases h2 : s.op = 2
  · exact grow_k_any j tb eb dO dc us es w0 w h hfm hlt4 hng s eo po ec pc hs h2 hevb
  by_cases h3 : s.op = 3
  · exact grow_r_any j tb eb dO dc us es w0 w h hfm hlt4 hng s eo po ec pc hs h3 hevb
  by_cases h4 : s.op = 4
  · exact grow_p_any j tb eb dO dc us es w0 w h hfm hlt4 hng s eo po ec pc hs h4 hevb
  by_cases h5 : s.op = 5
  · exact grow_q_any j tb eb dO dc us es w0 w h hfm hlt4 hng s eo po ec pc hs h5 hevb
  by_cases h6 : s.op = 6
  · exact grow_m_any j tb eb dO dc us es w0 w h hfm hlt4 hng s eo po ec pc hs h6 hevb
  exact grow_x_any j tb eb dO dc us es w0 w h hfm hlt4 hng s eo po ec pc hs (by omega) hevb
end Go.Proofs.YthccbfgjekdiiaaDoor

namespace Go.Proofs.YthccbfgjekdiiaaDoor
open Go.RowKit

theorem Stp4.ok.fr0 {s : Stp4} {W W' : World} {v p : Value} (h : s.ok W v p) (hf : Fr (fun _ => False) W W') : s.ok W' v p := ⟨h.e.fr0 hf, h.z.fr0 hf, h.zb, h.nb, h.el, h.zl⟩
theorem frozen_new (w : World) (c : Array Value) (t : TypeId) : (w.alloc (.cells c t)).frozen? ⟨w.heap.size, 0, none⟩ = false := by
  have h : (w.alloc (.cells c t)).heap[w.heap.size]? = some (.cells c t (0, 0)) := by
    show (w.heap.push (.cells c t))[w.heap.size]? = _
    simp
  unfold World.frozen?
  rw [h]
  rfl
set_option maxRecDepth 100000 in
set_option maxHeartbeats 1000000 in
/-- MerkleTrees. -/
theorem trees_any (j : Int) (v : Value) (A : List Stp4) (w : World) (hg : GS w) (hr : GR w) (ht : GT w) (hA : SS4 w v A) (hn : A.length ≤ 2000000) :
    Calls Tryd.prog 4 #[.int .i64 j, v] w fun e w' => e = .returned (.bool true) ∧ Fr (fun _ => False) w w' := by
  have hng : 6 ≤ w.heap.size := ht.2
  have hform : ∃ vo vc, v = .slice vo A.length vc := by
    rcases hA with ⟨a, c, rfl, rfl⟩ | ⟨g, o, c, rfl, _⟩
    · exact ⟨a, c, rfl⟩
    · exact ⟨_, c, rfl⟩
  obtain ⟨vo, vc, rfl⟩ := hform
  have hnew := mnew_any j w
  have hliv := fun w' (hf : Fr (fun _ => False) w w') => mlives_any w' (hg.fr0 hf) (ht.fr0 hf)
  have hstart : ∀ w1 w2 W, TrAt w1 w.heap.size w.heap.size j 0 none 0 [] [] → Fr (fun _ => False) w w1 → Fr (fun _ => False) w1 w2 → w2.alloc (.cells #[.slice none 0 0] 22) = W → TS w W j w.heap.size w2.heap.size none 0 [] [] := fun w1 w2 W hT h1 h2 hW => by
    have h3 : Fr (fun _ => False) w2 W := by rw [← hW]; exact (Fr.refl _ _).alloc _
    have hwW := (h1.trans h2 (fun _ _ h => h)).trans h3 (fun _ _ h => h)
    have hs1 := hT.cells.2.2.2.2
    have hs2 := h2.size
    refine ⟨by rw [← hW]; exact World.cell?_alloc_at _ _ _ _ rfl, by rw [← hW]; exact frozen_new _ _ _, pcs_nil _, Nat.le_refl _, hwW, by omega, fun g o e => (by cases e), ⟨w.heap.size, none, 0, [], [], (hT.fr h2 (fun _ _ h => h)).fr h3 (fun _ _ h => h), Nat.le_refl _, fun _ => rows_nil _, fun hh => ?_, fun g o e => (by cases e)⟩, hg.fr0 hwW, hr.fr0 hwW, ht.fr0 hwW, fun _ h => (by cases h), (Nat.zero_le _), fun i u p h => (by simp at h)⟩
    rcases hh with h | ⟨o, h⟩ | ⟨u, h, _⟩
    · omega
    · cases h
    · cases h
  have hgrow := fun (s : Stp4) w' tb eb dO dc us es (h : TS w w' j tb eb dO dc us es) hfm (hl : es.length < 400) (eo po : Option Addr) (ec pc : Nat) (hs : s.ok w (.slice eo s.e.length ec) (.slice po s.zs.length pc)) => grow4_any j tb eb dO dc us es w w' h hfm hl hng s eo po ec pc hs (hs.e.lt.imp id (fun hh g o n c e => hh g o n c e))
  have HC := hide (And.intro hnew (And.intro hliv (And.intro hstart (And.intro hgrow hA))))
  clear hnew hliv hstart hgrow hA hg hr ht
  generalize hN : A.length = N at *
  have HN := hide hN
  clear hN
  go_enter Tryd.func4, Tryd.ntmps4
  go_wp2_with fail
  refine (unhide HC).1.mono ?_
  rintro e w1 ⟨rfl, hT1, hF1⟩
  have H1 := hide (And.intro hT1 hF1)
  clear hT1 hF1
  go_wp2_with fail
  refine ((unhide HC).2.1 _ (unhide H1).2).mono ?_
  rintro e w2 ⟨rfl, hF2⟩
  obtain ⟨W, hW⟩ : ∃ W, w2.alloc (.cells #[.slice none 0 0] 22) = W := ⟨_, rfl⟩
  have H2 := hide ((unhide HC).2.2.1 w1 w2 W (unhide H1).1 (unhide H1).2 hF2 hW)
  clear hF2
  go_wp2_with fail
  try rw [hW]
  have HW := hide hW
  clear hW
  generalize w2.heap.size = eb at *
  generalize hTB : w.heap.size = tb at *
  have HTB := hide hTB
  clear hTB
  go_loopw [7] (fun iv wr => ∃ (i : Nat) (dO : Option Addr) (dc : Nat) (us : List Value) (es : List (List Nat)), i ≤ N ∧ i ≤ 300 ∧ iv = .int .i64 (i : Nat) ∧ TS w wr j tb eb dO dc us es ∧ ((dO = none ∧ dc = 0 ∧ es = []) ∨ ∃ g, dO = some ⟨g, 0, none⟩) ∧ es.length ≤ i) (fun iv _ => N - (intOf iv).toNat)
  case atStart => exact ⟨0, none, 0, [], [], Nat.zero_le _, by omega, rfl, unhide H2, .inl ⟨rfl, rfl, rfl⟩, Nat.zero_le _⟩
  case round =>
    rename World => wr
    obtain ⟨i, dO, dc, us, es, hi, hi3, rfl, hT, hfm, hel⟩ := hrel
    by_cases hlt : i < N ∧ i < 300
    · have hlt1 : (i : Int) < (N : Int) := by omega
      have hlt2 : (i : Int) < 300 := by omega
      have hss := (unhide HC).2.2.2.2
      have hiA : i < A.length := by rw [unhide HN]; exact hlt.1
      rcases hss with ⟨a, c, e, e2⟩ | ⟨sg, so, sc, e, hc⟩
      · rw [e2] at hiA; simp at hiA
      · simp only [Value.slice.injEq] at e
        obtain ⟨rfl, hNe, rfl⟩ := e
        clear hNe
        obtain ⟨ev, pv, c0, c1, c2, c3, c4, hok⟩ := hc i hiA
        obtain ⟨eo, ec, rfl⟩ := hok.e.form
        obtain ⟨po, pc, rfl⟩ := hok.z.form
        have hcl : ∀ k u, w.cell? ⟨sg, so + i * 5 + k, none⟩ = some u → wr.cell? ⟨sg, so + i * 5 + k, none⟩ = some u := fun k u hu => (hT.fr.cell (p := ⟨sg, so + i * 5 + k, none⟩) (lt_of_cell hu) (fun h => h)).trans hu
        have d0 := hcl 0 _ c0
        rw [Nat.add_zero] at d0
        have d1 := hcl 1 _ c1
        have d2 := hcl 2 _ c2
        have d3 := hcl 3 _ c3
        have d4 := hcl 4 _ c4
        have hcall := (unhide HC).2.2.2.1 A[i] wr tb eb dO dc us es hT hfm (by omega) eo po ec pc hok
        have HG := hide hcall
        clear hcall hcl c0 c1 c2 c3 c4 hok hc hT hfm
        generalize A[i].op = OP at *
        generalize A[i].i = II at *
        generalize A[i].n = NN at *
        generalize A[i].e.length = EL at *
        generalize A[i].zs.length = ZL at *
        go_wp2_with fail
        refine (unhide HG).mono ?_
        rintro e w' ⟨rfl, dO', dc', us', es', hT', hfm', hl'⟩
        have HT' := hide (And.intro hT' hfm')
        clear hT' hfm' d0 d1 d2 d3 d4
        go_wp2_with fail
        exact ⟨⟨i + 1, dO', dc', us', es', by omega, by omega, by go_num, (unhide HT').1, (unhide HT').2, by omega⟩, by simp [intOf]; omega⟩
    · have hlen := fun w' (hf : Fr (fun _ => False) wr w') => tlen4 tb es.length w' (hT.fr0 hf).cs.2
      have hbx := hT.box
      have hbf := fun w' (hf : Fr (fun _ => False) wr w') => (hT.fr0 hf).box
      have HT' := hide (And.intro hT.fr (And.intro hlen hbf))
      clear hlen hbf hT hfm
      generalize es.length = ES at *
      by_cases hlt1 : i < N
      · have hlt1' : (i : Int) < (N : Int) := by omega
        have hlt2 : ¬ (i : Int) < 300 := by omega
        go_wp2_with fail
        go_region_held3 (fun w' => w'.cell? ⟨eb, 0, none⟩ = some (.slice dO ES dc))
          (first | assumption | exact (unhide HT').2.2 _ (Fr.refl _ _).drew)
          (first
            | (go_at_call 17; refine ((unhide HT').2.1 _ (Fr.refl _ _).drew).mono ?_; rintro e wA ⟨rfl, rfl⟩))
        all_goals go_wp2_with fail
        all_goals go_ret
        all_goals exact ⟨rfl, (unhide HT').1.drew⟩
      · have hlt1' : ¬ (i : Int) < (N : Int) := by omega
        go_wp2_with fail
        go_region_held3 (fun w' => w'.cell? ⟨eb, 0, none⟩ = some (.slice dO ES dc))
          (first | assumption | exact (unhide HT').2.2 _ (Fr.refl _ _).drew)
          (first
            | (go_at_call 17; refine ((unhide HT').2.1 _ (Fr.refl _ _).drew).mono ?_; rintro e wA ⟨rfl, rfl⟩))
        all_goals go_wp2_with fail
        all_goals go_ret
        all_goals exact ⟨rfl, (unhide HT').1.drew⟩
end Go.Proofs.YthccbfgjekdiiaaDoor

namespace Go.Proofs.YthccbfgjekdiiaaDoor
open Go.ChangeShapes Go.WideShapes Go.ChangeAt Go.RowKit
set_option maxRecDepth 100000

theorem mtrees_contract (H : Type) (enc : TypeId × Value → H) (W : World) (base : Nat) (args : Array Value) (ds gs : List (DataW H)) (before : List MemPlace)
    (hval : ∀ (j : Nat) t v, Tryd.f4.params[j]? = some t → args[j]? = some v → Value.okWide Tryd.prog W .any base t v)
    (hW : DataW.Whole enc Tryd.prog Tryd.f4.params.toList Rows.merkleTreesSpec.vars false W args.toList ds gs before) (hk : Rows.uptoSmall H (ds ++ gs) = true) (hL : laidMetH Tryd.prog Rows.merkleTreesUptoRow.laid W) (hsh : W.ShapedOpen Tryd.prog) :
    Calls Tryd.prog 4 args W fun e W' => ∃ v, e = .returned v ∧ Rows.merkleTreesSpec.post enc Tryd.prog Tryd.f4 false true false false W args v W' := by
  have hW' := hW
  obtain ⟨p, q, hA0, hV, rfl, hfz, hnd⟩ := hW
  have hA : DataW.TrodAll enc Tryd.prog W 0 (fun _ => true) true Tryd.f4.params.toList args.toList ds p := hA0
  rw [Tryd.params4] at hA hval
  obtain ⟨v0, vs0, d0, ds0, p0, q0, hargs, rfl, rfl, h0, r0⟩ := trodAll_cons hA
  obtain ⟨v1, vs1, d1, ds1, p1, q1, rfl, rfl, rfl, h1, r1⟩ := trodAll_cons r0
  obtain ⟨rfl, rfl, rfl⟩ := trodAll_nil r1
  obtain rfl : args = #[v0, v1] := by cases args; simp_all
  obtain ⟨rfl, rfl⟩ := trodVars_none hV
  obtain ⟨a0, rfl, rfl, rfl, w0⟩ := open_int Tryd.underlying3 (hval 0 3 v0 rfl rfl) h0
  have hkS1 : Rows.uptoBulk d1 ≤ 1048576 := by
    have h := of_decide_eq_true hk
    simp only [List.append_nil, Rows.uptoBulkAll] at h
    omega
  obtain ⟨A1, hSS1, hN1⟩ := ss4_of_reading (hval 1 37 v1 rfl rfl) h1 hkS1
  have hk1 : Rows.uptoBulk d1 ≤ 1048576 := by
    have h := of_decide_eq_true hk
    simp only [List.append_nil, Rows.uptoBulkAll] at h
    omega
  obtain ⟨hg, hr, ht⟩ := g6_of_laid (show laidMet Tryd.prog laid6 W from hL) (heap_enough hsh)
  clear hA0
  refine (trees_any a0 v1 A1 W hg hr ht hSS1 (by omega)).mono fun e W' ⟨he, hf⟩ => ?_
  subst he
  have hlt : ∀ x ∈ [] ++ (p1 ++ []), x.block < W.heap.size := fun x hx => hW'.lt x (by simpa using hx)
  have hb := hf.below
  refine ⟨_, rfl, _, _, _, [], [] ++ (p1 ++ []), [], hW', ?_, ?_, ?_, hb.frame _, fun h => by cases h⟩
  · exact trodAll_cons_mk (shut_bool Tryd.underlying4 true) trodAll_mk0
  · exact (trodAll_cons_mk (shut_int Tryd.underlying3 w0) (trodAll_cons_mk (Below.trod (by kernel_rfl) (by kernel_rfl) (by decide +kernel) h1 hb (fun x hx => hlt x (by simp [hx]))) trodAll_mk0))
  · rfl

theorem mtrees_laid_met (os : Os) : laidMetH Tryd.prog Rows.merkleTreesUptoRow.laid ((mWorld os).forCall (fun _ _ => 0) ⟨#[], #[.int .i64 0, .slice none 0 0], []⟩).memory :=
  laidMetH_of_parts (laidMet_of_run' 8 (by kernel_rfl) (by kernel_rfl)) (by kernel_rfl)
theorem mtrees_reads (os : Os) {H : Type} (enc : TypeId × Value → H) : ∃ places, DataW.whole enc Tryd.prog ((mWorld os).forCall (fun _ _ => 0) ⟨#[], #[.int .i64 0, .slice none 0 0], []⟩).memory Tryd.f4.params.toList Rows.merkleTreesSpec.vars false #[Value.int .i64 0, .slice none 0 0].toList 8 = some ([.lit (.int .i64 0), .nil], [], places) :=
  ⟨[], by kernel_rfl⟩

theorem mtrees_lifted (os : Os) (started : os.Started) (H : Type) (enc : TypeId × Value → H) (F : Stop.Interp) :
    ReturnsInHanded {} Tryd.checked os 4 .any ((Rows.OpenSpec.upto Rows.merkleTreesSpec).preRow enc Tryd.prog Tryd.f4 Rows.merkleTreesUptoRow.domain false Rows.merkleTreesUptoRow.laid) (((Rows.OpenSpec.upto Rows.merkleTreesSpec).at F).post enc Tryd.prog Tryd.f4 false true false false) := by
  obtain ⟨places, hx⟩ := mtrees_reads os enc
  refine returnsInHanded_of_row (C := Tryd.checked) (s := Rows.OpenSpec.upto Rows.merkleTreesSpec) Tryd.ownKnob started (by kernel_rfl) Tryd.func4
    (witness_row_atRef (enc := enc) (C := Tryd.checked) false (mWorld os) #[.int .i64 0, .slice none 0 0] rfl (by kernel_rfl) (by kernel_rfl) (by kernel_rfl)
      (OpenSpec.preRow_of_cond 8 hx (by kernel_rfl) (fun k hk => by cases hk; kernel_rfl) (by kernel_rfl) (mtrees_laid_met os))) ?_
  intro W base args ds gs before hval hW _ hcond _ hL hsh _
  exact mtrees_contract H enc W base args ds gs before hval hW (hcond _ rfl) hL hsh

theorem mtrees_said : Rows.MerkleTreesUptoSaid :=
  OpenClaim.holds_of_cond 4 Tryd.f4 rfl rfl rfl rfl rfl rfl rfl ⟨rfl, rfl, rfl, rfl, rfl⟩ rfl rfl rfl rfl rfl (by kernel_rfl) Tryd.func4 (by kernel_rfl)
    (of_decide_eq_true (by kernel_rfl)) (by unfold Func.isWrapper; first | (rw [if_pos (by decide +kernel)]; kernel_rfl) | (rw [if_neg (by decide +kernel)]; exact ⟨rfl, rfl⟩))
    (fun os started H enc _ F => by rw [OpenClaim.pre_eq_preRow]; exact mtrees_lifted os started H enc F)

theorem mtrees_plain (f : FuncId) (fn : Func) (hf : Tryd.pinned.checked.prog.funcNamed Rows.merkleTreesUptoRow.func = some f) (hfn : Tryd.pinned.checked.prog.funcs[f]? = some fn) :
    false = Tryd.pinned.checked.prog.looks [] ∧ ∀ (j : Nat) t, fn.params[j]? = some t → Tryd.pinned.checked.prog.wantsStandIn t = false := by
  obtain rfl : f = 4 := Option.some.inj ((show Tryd.prog.funcNamed Rows.merkleTreesUptoRow.func = some 4 by kernel_rfl).symm.trans hf) |>.symm
  obtain rfl : fn = Tryd.f4 := (Option.some.inj (Tryd.func4.symm.trans hfn)).symm
  refine ⟨by kernel_rfl, fun j t ht => ?_⟩
  rw [Tryd.params4] at ht
  have ht' : t = 3 ∨ t = 37 := by simpa using Array.mem_of_getElem? ht
  rcases ht' with rfl | rfl
  · exact (show Tryd.prog.wantsStandIn 3 = false by kernel_rfl)
  · exact (show Tryd.prog.wantsStandIn 37 = false by kernel_rfl)

/-- THE SECOND FORM's CARD. -/
theorem mtrees_card : Rows.MerkleTreesUptoCardSaid :=
  Claim7.holds_tied_plain_at .later [] _ _ _ _ mtrees_said (fun _ h => by cases h) (by kernel_rfl) (fun _ h => by cases h) merkleTreesUpto_row_tie rfl ⟨rfl, rfl⟩ (by kernel_rfl) rfl mtrees_plain (by kernel_rfl)
#print axioms mtrees_card
end Go.Proofs.YthccbfgjekdiiaaDoor

