import Derived.Test.YtmgoohgophcbaaaPk1
import Derived.Test.YtmgoohgophcbaaaBase
import Derived.Test.YtmgoohgophcbaaaRows
import Derived.WalkKit
import Derived.ProofKit
import Derived.OpenShut
import Derived.SizedLaws
import Derived.JoinedCond
import Derived.Deep.DeepHandedRow
namespace Go.Proofs.Ytmgoohgophcbaaa
open Go.RowKit Go.Maps

set_option maxRecDepth 100000 in
set_option maxHeartbeats 16000000 in
/-- SessionKnown. -/
theorem sknown_any (w : World) : Calls Try.prog 3 #[] w fun e w' => e = .returned (.bool true) ∧ Fr (fun _ => False) w w' := by
  go_enter Try.func3, Try.ntmps3
  go_wp2_with fail
  refine (snew_no 16 w (by omega)).mono ?_
  rintro e w0 ⟨rfl, hw0⟩
  obtain rfl := hw0.symm
  go_wp2_with fail
  refine (SS.new 3 w (by omega)).mono ?_
  rintro e w1 ⟨d, rfl, hs1, hf1⟩
  have H1 := hide (And.intro hs1 hf1)
  clear hs1 hf1
  go_wp2_with fail
  refine (awake17 w1).mono ?_
  rintro e w2 ⟨rfl, hf2⟩
  have H2 := hide (And.intro ((unhide H1).1.fr0 hf2) ((unhide H1).2.trans0 hf2))
  clear hf2
  go_wp2_with fail
  have HB := hide ((unhide H2).1.bad ⟨0, 0, 0, 9, 0, 0, 0, 0, .slice none 0 0, ⟨#[]⟩⟩ [] (Rd.nil w2 5) (by simp) (fun f hf => by simp at hf) rfl)
  simp only [RQ.v] at HB
  refine (unhide HB).mono ?_
  rintro e w3 ⟨rfl, hf3⟩
  have H3 := hide (And.intro ((unhide H2).1.fr0 hf3) ((unhide H2).2.trans0 hf3))
  clear hf3 HB H2
  go_wp2_with fail
  refine (create_any _).mono ?_
  rintro e w4 ⟨rfl, hf4⟩
  have H4 := hide (And.intro ((unhide H3).1.fr0 hf4) ((unhide H3).2.trans0 hf4))
  clear hf4 H3
  have HC : Hid (Calls Try.prog 10 #[.pointer (some ⟨d, 0, none⟩), crR.v] w4 fun e w' => e = .returned (.tuple #[.agg #[.int .u32 3, .int .u32 1], .int .i64 0]) ∧ (∃ v1, SS w' d 3 [(⟨⟨3, 1, 1, 1, 0, 0, 7, 6, v1, ⟨#[]⟩⟩, [], 0, 0, none⟩ : SC)] [] (Tn (Nb w w1) w4 w')) ∧ Fr (Nb w w1) w4 w') := hide ((unhide H4).1.call crR [] (Rd.nil w4 5) (by simp) (fun f hf => by simp at hf) rfl (by simp))
  go_wp2_with fail
  refine (unhide HC).mono ?_
  rintro e w5 ⟨rfl, ⟨v1, hs5⟩, hf5⟩
  have hfw5 : Fr (fun _ => False) w w5 := (unhide H4).2.trans hf5 (fun g hg e => by have := e.1; omega)
  have ht5 : ∀ g, Tn (Nb w w1) w4 w5 g → w.heap.size ≤ g ∧ g < w5.heap.size := fun g hg => ⟨by
    rcases hg with hg | hg
    · exact hg.1
    · have := hg.1; have := (unhide H4).2.size; omega, hs5.lt g hg⟩
  have H5 := hide (And.intro hs5 (And.intro hfw5 ht5))
  clear hs5 hf5 HC H4 hfw5 ht5
  go_wp2_with fail
  obtain ⟨w6, hw6⟩ : ∃ w6, w5.alloc (.cells #[.int .u32 3, .int .u32 1] 29) = w6 := ⟨_, rfl⟩
  have hf6 : Fr (fun _ => False) w5 w6 := by rw [← hw6]; exact box1 w5 _
  have ha6 : w6.heap[w5.heap.size]? = some (.cells #[.int .u32 3, .int .u32 1] 29) := by rw [← hw6]; exact heap_alloc_new w5 _
  rw [hw6]
  clear hw6
  have H6 := hide (And.intro hf6 ha6)
  clear hf6 ha6
  refine (create_any _).mono ?_
  rintro e w7 ⟨rfl, hf7⟩
  have ha7 := (hf7.block _ (lt_of_block (unhide H6).2) (fun h => h)).trans (unhide H6).2
  have H7 := hide (And.intro ((unhide H6).1.trans0 hf7) ha7)
  clear hf7 ha7 H6
  have HC : Hid (Calls Try.prog 10 #[.pointer (some ⟨d, 0, none⟩), crR.v] w7 fun e w' => e = .returned (.tuple #[.agg #[.int .u32 3, .int .u32 2], .int .i64 0]) ∧ (∃ v2, SS w' d 3 [(⟨⟨3, 1, 1, 1, 0, 0, 7, 6, v1, ⟨#[]⟩⟩, [], 0, 0, none⟩ : SC), (⟨⟨3, 2, 1, 1, 0, 0, 7, 6, v2, ⟨#[]⟩⟩, [], 0, 0, none⟩ : SC)] [] (Tn (Tn (Nb w w1) w4 w5) w7 w')) ∧ Fr (Tn (Nb w w1) w4 w5) w7 w') := hide (((unhide H5).1.fr0 (unhide H7).1).call crR [] (Rd.nil w7 5) (by simp) (fun f hf => by simp at hf) rfl (by simp))
  go_wp2_with fail
  refine (unhide HC).mono ?_
  rintro e w8 ⟨rfl, ⟨v2, hs8⟩, hf8⟩
  have a8 := (hf8.block _ (lt_of_block (unhide H7).2) (fun e => by have := ((unhide H5).2.2 _ e).2; omega)).trans (unhide H7).2
  have a0 : w8.cell? ⟨w5.heap.size, 0, none⟩ = some (.int .u32 3) := cell_of_blk a8 rfl
  have a1 : w8.cell? ⟨w5.heap.size, 1, none⟩ = some (.int .u32 1) := cell_of_blk a8 rfl
  have al : w5.heap.size < w8.heap.size := lt_of_block a8
  have H8 := hide (And.intro hs8 hf8)
  clear hs8 hf8 a8
  go_wp2_with fail
  obtain ⟨hs8, hf8⟩ := unhide H8
  obtain ⟨w9, hw9⟩ : ∃ w9, w8.alloc (.cells #[.int .u32 3, .int .u32 2] 29) = w9 := ⟨_, rfl⟩
  have hf9 : Fr (fun _ => False) w8 w9 := by rw [← hw9]; exact box1 w8 _
  have hb9 : w9.heap[w8.heap.size]? = some (.cells #[.int .u32 3, .int .u32 2] 29) := by rw [← hw9]; exact heap_alloc_new w8 _
  have HK9 : Hid (KW w w9 d w5.heap.size w8.heap.size [(⟨⟨3, 1, 1, 1, 0, 0, 7, 6, v1, ⟨#[]⟩⟩, [], 0, 0, none⟩ : SC), (⟨⟨3, 2, 1, 1, 0, 0, 7, 6, v2, ⟨#[]⟩⟩, [], 0, 0, none⟩ : SC)] [] (Tn (Tn (Nb w w1) w4 w5) w7 w8)) := hide (by
    have h5 := unhide H5
    have h7 := unhide H7
    have a8 := (hf8.block _ (lt_of_block h7.2) (fun e => by have := (h5.2.2 _ e).2; omega)).trans h7.2
    have hfw8 : Fr (fun _ => False) w w8 := (h5.2.1.trans0 h7.1).trans hf8 (fun g hg e => by have := (h5.2.2 g e).1; omega)
    refine ⟨hs8.fr0 hf9, (hf9.block _ (lt_of_block a8) (fun h => h)).trans a8, hb9, fun g hg => ?_, hfw8.trans0 hf9⟩
    have hlt := hs8.lt g hg
    rcases hg with hg | hg
    · have := h5.2.2 g hg; exact ⟨this.1, by omega, by omega⟩
    · have h1 := hg.1
      have h2 := lt_of_block h7.2
      have h3 := (h5.2.1.trans0 h7.1).size
      exact ⟨by omega, by omega, by omega⟩)
  have hz9 : w9.heap.size = w8.heap.size + 1 := by
    have := lt_of_block hb9
    rw [← hw9]
    simp
  rw [hw9]
  obtain ⟨w11, hw11⟩ : ∃ w11, (w9.alloc (.cells #[.int .u32 3, .int .u32 1, .int .u32 3, .int .u32 2] 29)).alloc (.cells #[.int .i64 1, .int .i64 2] 3) = w11 := ⟨_, rfl⟩
  have hf11 : Fr (fun _ => False) w9 w11 := by rw [← hw11]; exact (box1 w9 _).alloc _
  have hi11 : w11.heap[w8.heap.size + 1]? = some (.cells #[.int .u32 3, .int .u32 1, .int .u32 3, .int .u32 2] 29) := by rw [← hw11, ← hz9]; exact (Below.heap_alloc _ _ _ (by simp)).trans (heap_alloc_new w9 _)
  have hn11 : w11.heap[w8.heap.size + 1 + 1]? = some (.cells #[.int .i64 1, .int .i64 2] 3) := by
    rw [← hw11, ← hz9]
    have := heap_alloc_new (w9.alloc (.cells #[.int .u32 3, .int .u32 1, .int .u32 3, .int .u32 2] 29)) (.cells #[.int .i64 1, .int .i64 2] 3)
    rwa [World.size_alloc] at this
  rw [hw11]
  clear a0 a1 al hz9 hw9 hw11
  generalize w5.heap.size = A at HK9 ⊢
  generalize w8.heap.size = B at HK9 hi11 hn11 ⊢
  generalize Tn (Tn (Nb w w1) w4 w5) w7 w8 = T9 at HK9
  clear hs8 hf8 hf9 hb9 HC H5 H7 H1 H8
  have HI : Hid (Calls Try.prog 12 #[.slice (some ⟨B + 1, 0, none⟩) 2 2, .int .u32 3, .slice (some ⟨B + 1 + 1, 0, none⟩) 2 2] w11 fun e w' => e = .returned (.bool true) ∧ Fr (fun _ => False) w11 w') := hide (by
    have r1 : Rd w11 (.slice (some ⟨B + 1, 0, none⟩) 2 2) 2 2 (icells ([1, 2].map fun k => (3, k))) := rd_at (n := 2) (z := 2) (t := 29) (xs := icells ([1, 2].map fun k => (3, k))) hi11 rfl (List.all_eq_true.1 (show List.all (icells ([1, 2].map fun k => (3, k))) (fun v => v.oneCell') = true from rfl))
    have r2 : Rd w11 (.slice (some ⟨B + 1 + 1, 0, none⟩) 2 2) 2 1 ([1, 2].map fun k : Nat => .int .i64 (k : Nat)) := rd_at (n := 2) (z := 1) (t := 3) (xs := [1, 2].map fun k : Nat => .int .i64 (k : Nat)) hn11 rfl (List.all_eq_true.1 (show List.all ([1, 2].map fun k : Nat => Value.int .i64 (k : Nat)) (fun v => v.oneCell') = true from rfl))
    exact ids_true _ _ 3 [1, 2] w11 r1 r2 (by simp) (fun k hk => by simp at hk; omega))
  have HK11 := hide ((unhide HK9).fr0 hf11)
  clear hf11 hi11 hn11 HK9
  refine (unhide HI).mono ?_
  rintro e w12 ⟨rfl, hf12⟩
  have HK12 := hide ((unhide HK11).fr0 hf12)
  clear hf12 HI HK11
  go_wp2_with fail
  refine (unhide HK12).s.out.mono ?_
  rintro e w13 ⟨hv, tv, rfl, W2, R, hfo, hO⟩
  have hwl : wl [(⟨⟨3, 1, 1, 1, 0, 0, 7, 6, v1, ⟨#[]⟩⟩, [], 0, 0, none⟩ : SC), (⟨⟨3, 2, 1, 1, 0, 0, 7, 6, v2, ⟨#[]⟩⟩, [], 0, 0, none⟩ : SC)] = [1, 2] := rfl
  rw [hwl] at hO
  have hR1 : R.length = 2 := hO.rl
  obtain ⟨r1, r2, rfl⟩ : ∃ r1 r2, R = [r1, r2] := by
    match R, hR1 with
    | [r1, r2], _ => exact ⟨r1, r2, rfl⟩
  obtain ⟨k1, q1, hk1, hq1, x1, hr1, _⟩ := hO.rr 0 r1 rfl
  obtain ⟨k2, q2, hk2, hq2, x2, hr2, _⟩ := hO.rr 1 r2 rfl
  rw [hwl] at hk1 hk2
  obtain rfl : 1 = k1 := by simpa using hk1
  obtain rfl : 2 = k2 := by simpa using hk2
  obtain rfl : (⟨⟨3, 1, 1, 1, 0, 0, 7, 6, v1, ⟨#[]⟩⟩, [], 0, 0, none⟩ : SC) = q1 := by simpa using hq1
  obtain rfl : (⟨⟨3, 2, 1, 1, 0, 0, 7, 6, v2, ⟨#[]⟩⟩, [], 0, 0, none⟩ : SC) = q2 := by simpa using hq2
  subst hr1
  subst hr2
  obtain ⟨gh, ch, rfl, _, hgc⟩ := own_one_form hO.h (by simp)
  obtain ⟨gt, ct, rfl, _, htc⟩ := own_one_form hO.t (by simp)
  have HK13 := hide ((unhide HK12).fr0 (hfo.trans0 hO.fr))
  obtain ⟨a0, a1, b0, b1⟩ := (unhide HK13).cells
  have g0 : w13.cell? ⟨gh, 0, none⟩ = some (.int .u8 1) := hgc 0 _ rfl
  have g1 : w13.cell? ⟨gh, 36, none⟩ = some (.int .u32 3) := hgc 36 _ rfl
  have g2 : w13.cell? ⟨gh, 37, none⟩ = some (.int .u32 2) := hgc 37 _ rfl
  have t0 : w13.cell? ⟨gt, 11, none⟩ = some (.int .u32 3) := htc 11 _ rfl
  have t1 : w13.cell? ⟨gt, 12, none⟩ = some (.int .u32 1) := htc 12 _ rfl
  have t2 : w13.cell? ⟨gt, 35, none⟩ = some (.int .u8 2) := htc 35 _ rfl
  have n1 := neq_32
  have n2 := neq_31
  clear hO hfo hR1 hk1 hk2 hq1 hq2 hgc htc hwl HK12
  go_wp2_with fail
  go_quiet (fail)
  obtain ⟨w14, hw14⟩ : ∃ w14, w13.drewN nq = w14 := ⟨_, rfl⟩
  have HK14 := hide ((unhide HK13).fr0 (W' := w14) (by rw [← hw14]; exact (Fr.refl _ _).drewN _))
  rw [hw14]
  clear hw14 a0 a1 b0 b1 g0 g1 g2 t0 t1 t2 n1 n2 HK13
  obtain ⟨_, _, b0, b1⟩ := (unhide HK14).cells
  obtain ⟨W15, hst, hb15, hf15⟩ := st_all (P := Try.prog) (ty := 49) zM busM (heap_alloc_new w14 (.cells zM.toArray 49)) rfl Try.sizeMs busM_one
  have HST := hide hst
  have HK15 := hide ((unhide HK14).fr0 ((box1 w14 (.cells zM.toArray 49)).trans hf15 (fun g hg e => by omega)))
  have HR15 := hide (range_of_block hb15)
  clear hst hb15 hf15 HK14
  go_wp2_with (first | refine wpList_stN rfl 49 (.tmp 10) (.tmp 118) rfl _ _ rfl rfl (unhide HST) ?_ | refine wpList_load_mid rfl 49 (.tmp 10) rfl w14.heap.size 0 rfl _ _ (unhide HR15) Try.underlying49 rfl Try.sizeMs ?_)
  clear b0 b1 HST
  have HT := hide ((unhide HK15).s.busy busM 5 _ 1 busM_x (by omega) (⟨⟨3, 2, 1, 1, 0, 0, 7, 6, v2, ⟨#[]⟩⟩, [], 0, 0, none⟩ : SC) rfl rfl (by simp))
  refine (unhide HT).mono ?_
  rintro e w16 ⟨r16, rfl, rfl, hs16, hf16⟩
  have HK16 : Hid (KW w w16 d A B [(⟨⟨3, 1, 1, 1, 0, 0, 7, 6, v1, ⟨#[]⟩⟩, [], 0, 0, none⟩ : SC), (⟨⟨3, 2, 1, 1, 0, 0, 7, 6, v2, ⟨#[]⟩⟩, [], 5, 1, none⟩ : SC)] [] T9) := hide ((unhide HK15).same hs16 hf16)
  clear HT hs16 hf16 HK15 HR15
  obtain ⟨_, _, b0, b1⟩ := (unhide HK16).cells
  go_wp2_with fail
  clear b0 b1
  have HT : Hid (Calls Try.prog 15 #[.pointer (some ⟨d, 0, none⟩), .agg #[.int .u32 3, .int .u32 2]] w16 fun e w' => e = .returned (.tuple #[.int .i64 5, .int .i64 1]) ∧ Fr (fun _ => False) w16 w') := hide ((unhide HK16).s.bYes 1 (⟨⟨3, 2, 1, 1, 0, 0, 7, 6, v2, ⟨#[]⟩⟩, [], 5, 1, none⟩ : SC) rfl rfl)
  refine (unhide HT).mono ?_
  rintro e w17 ⟨rfl, hf17⟩
  have HK17 := hide ((unhide HK16).fr0 hf17)
  clear hf17 HT HK16
  go_wp2_with fail
  have HT : Hid (Calls Try.prog 15 #[.pointer (some ⟨d, 0, none⟩), .agg #[.int .u32 3, .int .u32 9]] w17 fun e w' => e = .returned (.tuple #[.int .i64 0, .int .i64 0]) ∧ Fr (fun _ => False) w17 w') := hide ((unhide HK17).s.bNo 3 9 (by omega) (by omega) (fun _ => rfl))
  refine (unhide HT).mono ?_
  rintro e w18 ⟨rfl, hf18⟩
  have HK18 := hide ((unhide HK17).fr0 hf18)
  clear hf18 HT HK17
  go_wp2_with fail
  refine (answered_any 3 2 1 _).mono ?_
  rintro e w19 ⟨rfl, hf19⟩
  have HK19 := hide ((unhide HK18).fr0 hf19)
  clear hf19
  clear HK18
  go_wp2_with fail
  have HT := hide ((unhide HK19).s.answer (ansM 3 2 1) 0 0 0 (ansA 3 2 1) (ansM_x 3 2 1) 1 (⟨⟨3, 2, 1, 1, 0, 0, 7, 6, v2, ⟨#[]⟩⟩, [], 5, 1, none⟩ : SC) rfl rfl rfl rfl [] [] (Rd.nil w19 5) (Rd.nil w19 4) (by simp) (by simp) (by simp))
  refine (unhide HT).mono ?_
  rintro e w20 ⟨r20, rfl, rfl, ⟨v3, u3, hs20⟩, hf20⟩
  have HK20 : Hid (KW w w20 d A B [(⟨⟨3, 1, 1, 1, 0, 0, 7, 6, v1, ⟨#[]⟩⟩, [], 0, 0, none⟩ : SC), (⟨⟨3, 2, 1, 1, 0, 0, 7, 6, v2, ⟨#[]⟩⟩, [], 5, 1, some ⟨⟨3, 2, 0, 1, 1, v3, u3⟩, [], []⟩⟩ : SC)] [2] (Tn T9 w19 w20)) := hide ((unhide HK19).more hs20 hf20)
  generalize Tn T9 w19 w20 = T at HK20
  clear HT hs20 hf20 HK19
  have HQ : Hid (∀ (W : World) (b : AN), KW w W d A B [(⟨⟨3, 1, 1, 1, 0, 0, 7, 6, v1, ⟨#[]⟩⟩, [], 0, 0, none⟩ : SC), (⟨⟨3, 2, 1, 1, 0, 0, 7, 6, v2, ⟨#[]⟩⟩, [], 5, 1, some ⟨⟨3, 2, 0, 1, 1, v3, u3⟩, [], []⟩⟩ : SC)] [2] T → b.fv = .slice none 0 0 → b.hv = .slice none 0 0 → ∀ W', Fr (fun _ => False) W W' → Calls Try.prog 43 #[.agg ((⟨⟨3, 2, 0, 1, 1, v3, u3⟩, [], []⟩ : AD)).a.cs.toArray, .agg b.cs.toArray] W' fun e w' => e = .returned (.bool (sameA ((⟨⟨3, 2, 0, 1, 1, v3, u3⟩, [], []⟩ : AD)).a b [] [] [] [])) ∧ Fr (fun _ => False) W' w') := hide (fun W b hk h1 h2 W' hf => by
    have hx := (hk.s.fr0 hf).fdsX (q := (⟨⟨3, 2, 1, 1, 0, 0, 7, 6, v2, ⟨#[]⟩⟩, [], 5, 1, some ⟨⟨3, 2, 0, 1, 1, v3, u3⟩, [], []⟩⟩ : SC)) (x := (⟨⟨3, 2, 0, 1, 1, v3, u3⟩, [], []⟩ : AD)) (by simp) rfl
    exact sameAnswer_any ((⟨⟨3, 2, 0, 1, 1, v3, u3⟩, [], []⟩ : AD)).a b [] [] [] [] W' hx.1 (by rw [h1]; exact .inl ⟨none, 0, rfl, rfl⟩) hx.2.1 (by rw [h2]; exact .inl ⟨none, 0, rfl, rfl⟩) (by simp) (by simp))
  go_wp2_with fail
  refine (answered_any 3 2 1 _).mono ?_
  rintro e w21 ⟨rfl, hf21⟩
  have HK21 := hide ((unhide HK20).fr0 hf21)
  clear hf21
  clear HK20
  go_wp2_with fail
  have HT := hide ((unhide HK21).s.ansDone (ansM 3 2 1) 0 0 0 (ansA 3 2 1) (ansM_x 3 2 1) 1 (⟨⟨3, 2, 1, 1, 0, 0, 7, 6, v2, ⟨#[]⟩⟩, [], 5, 1, some ⟨⟨3, 2, 0, 1, 1, v3, u3⟩, [], []⟩⟩ : SC) (⟨⟨3, 2, 0, 1, 1, v3, u3⟩, [], []⟩ : AD) rfl rfl rfl rfl true ((unhide HQ) w21 (ansA 3 2 1) (unhide HK21) rfl rfl))
  refine (unhide HT).mono ?_
  rintro e w22 ⟨r22, rfl, hr22, hf22⟩
  obtain rfl : r22 = 0 := hr22
  have HK22 := hide ((unhide HK21).fr0 hf22)
  clear HT hf22 HK21
  go_wp2_with fail
  refine (answered_any 3 2 2 _).mono ?_
  rintro e w23 ⟨rfl, hf23⟩
  have HK23 := hide ((unhide HK22).fr0 hf23)
  clear hf23
  clear HK22
  go_wp2_with fail
  have HT := hide ((unhide HK23).s.ansDone (ansM 3 2 2) 0 0 0 (ansA 3 2 2) (ansM_x 3 2 2) 1 (⟨⟨3, 2, 1, 1, 0, 0, 7, 6, v2, ⟨#[]⟩⟩, [], 5, 1, some ⟨⟨3, 2, 0, 1, 1, v3, u3⟩, [], []⟩⟩ : SC) (⟨⟨3, 2, 0, 1, 1, v3, u3⟩, [], []⟩ : AD) rfl rfl rfl rfl false ((unhide HQ) w23 (ansA 3 2 2) (unhide HK23) rfl rfl))
  refine (unhide HT).mono ?_
  rintro e w24 ⟨r24, rfl, hr24, hf24⟩
  obtain rfl : r24 = 4 := hr24
  have HK24 := hide ((unhide HK23).fr0 hf24)
  clear HT hf24 HK23 HQ
  go_wp2_with fail
  refine (answered_any 3 5 1 _).mono ?_
  rintro e w25 ⟨rfl, hf25⟩
  have HK25 := hide ((unhide HK24).fr0 hf25)
  clear hf25
  clear HK24
  go_wp2_with fail
  have HT := hide ((unhide HK25).s.ansNone (ansM 3 5 1) 0 0 0 (ansA 3 5 1) (ansM_x 3 5 1) (fun _ => .inr (by simp [ansA])) (by simp [ansA]) (by simp [ansA]))
  refine (unhide HT).mono ?_
  rintro e w26 ⟨r26, rfl, rfl, hf26⟩
  have HK26 := hide ((unhide HK25).fr0 hf26)
  clear HT hf26 HK25
  go_wp2_with fail
  refine (answered_any 2 1 1 _).mono ?_
  rintro e w27 ⟨rfl, hf27⟩
  have HK27 := hide ((unhide HK26).fr0 hf27)
  clear hf27
  clear HK26
  go_wp2_with fail
  have HT := hide ((unhide HK27).s.ansNone (ansM 2 1 1) 0 0 0 (ansA 2 1 1) (ansM_x 2 1 1) (fun e => by simp [ansA] at e) (by simp [ansA]) (by simp [ansA]))
  refine (unhide HT).mono ?_
  rintro e w28 ⟨r28, rfl, rfl, hf28⟩
  have HK28 := hide ((unhide HK27).fr0 hf28)
  clear HT hf28 HK27
  go_wp2_with fail
  refine (stake_no d havM 6 0 0 0 _ havM_x (by omega) (by omega) w28).mono ?_
  rintro e w29 ⟨rfl, hf29⟩
  have HK29 := hide ((unhide HK28).fr0 hf29)
  clear hf29 HK28
  go_wp2_with fail
  refine (unhide HK29).s.waiting.mono ?_
  rintro e w30 ⟨v30, rfl, ho30, hf30⟩
  have hwl : wl [(⟨⟨3, 1, 1, 1, 0, 0, 7, 6, v1, ⟨#[]⟩⟩, [], 0, 0, none⟩ : SC), (⟨⟨3, 2, 1, 1, 0, 0, 7, 6, v2, ⟨#[]⟩⟩, [], 5, 1, some ⟨⟨3, 2, 0, 1, 1, v3, u3⟩, [], []⟩⟩ : SC)] = [1] := rfl
  rw [hwl] at ho30
  have HO30 := hide ho30
  obtain ⟨o30, c30, e30⟩ := own_formX ho30
  have e30' : v30 = .slice o30 1 c30 := e30
  subst e30'
  have HK30 := hide ((unhide HK29).fr0 hf30)
  clear ho30 hf30 HK29 hwl e30
  go_wp2_with fail
  have HI : Hid (Calls Try.prog 12 #[.slice o30 1 c30, .int .u32 3, .slice (some ⟨w30.heap.size, 0, none⟩) 1 1] (w30.alloc (.cells #[.int .i64 1] 3)) fun e w' => e = .returned (.bool true) ∧ Fr (fun _ => False) (w30.alloc (.cells #[.int .i64 1] 3)) w') := hide (by
    have r1 : Rd (w30.alloc (.cells #[.int .i64 1] 3)) (.slice o30 1 c30) 1 2 (icells ([1].map fun k => (3, k))) := (own_rd (unhide HO30) (List.all_eq_true.1 (show List.all (icells ([1].map fun k => (3, k))) (fun v => v.oneCell') = true from rfl))).fr0 (box1 w30 _)
    have r2 : Rd (w30.alloc (.cells #[.int .i64 1] 3)) (.slice (some ⟨w30.heap.size, 0, none⟩) 1 1) 1 1 ([1].map fun k : Nat => .int .i64 (k : Nat)) := rd_new (W := w30) (n := 1) (z := 1) (t := 3) (xs := [1].map fun k : Nat => .int .i64 (k : Nat)) (heap_alloc_new w30 _) rfl (List.all_eq_true.1 (show List.all ([1].map fun k : Nat => Value.int .i64 (k : Nat)) (fun v => v.oneCell') = true from rfl))
    exact ids_true _ _ 3 [1] _ r1 r2 (by simp) (fun k hk => by simp at hk; omega))
  refine (unhide HI).mono ?_
  rintro e w32 ⟨rfl, hf32⟩
  have HK32 := hide ((unhide HK30).fr0 ((box1 w30 _).trans0 hf32))
  clear hf32 HI HK30 HO30
  go_wp2_with fail
  refine (unhide HK32).s.done.mono ?_
  rintro e w33 ⟨v33, rfl, ho33, hf33⟩
  have HO33 := hide ho33
  obtain ⟨o33, c33, e33⟩ := own_formX ho33
  have e33' : v33 = .slice o33 1 c33 := e33
  subst e33'
  have HK33 := hide ((unhide HK32).fr0 hf33)
  clear ho33 hf33 HK32 e33
  go_wp2_with fail
  have HI : Hid (Calls Try.prog 12 #[.slice o33 1 c33, .int .u32 3, .slice (some ⟨w33.heap.size, 0, none⟩) 1 1] (w33.alloc (.cells #[.int .i64 2] 3)) fun e w' => e = .returned (.bool true) ∧ Fr (fun _ => False) (w33.alloc (.cells #[.int .i64 2] 3)) w') := hide (by
    have r1 : Rd (w33.alloc (.cells #[.int .i64 2] 3)) (.slice o33 1 c33) 1 2 (icells ([2].map fun k => (3, k))) := (own_rd (unhide HO33) (List.all_eq_true.1 (show List.all (icells ([2].map fun k => (3, k))) (fun v => v.oneCell') = true from rfl))).fr0 (box1 w33 _)
    have r2 : Rd (w33.alloc (.cells #[.int .i64 2] 3)) (.slice (some ⟨w33.heap.size, 0, none⟩) 1 1) 1 1 ([2].map fun k : Nat => .int .i64 (k : Nat)) := rd_new (W := w33) (n := 1) (z := 1) (t := 3) (xs := [2].map fun k : Nat => .int .i64 (k : Nat)) (heap_alloc_new w33 _) rfl (List.all_eq_true.1 (show List.all ([2].map fun k : Nat => Value.int .i64 (k : Nat)) (fun v => v.oneCell') = true from rfl))
    exact ids_true _ _ 3 [2] _ r1 r2 (by simp) (fun k hk => by simp at hk; omega))
  refine (unhide HI).mono ?_
  rintro e w35 ⟨rfl, hf35⟩
  have HK35 := hide ((unhide HK33).fr0 ((box1 w33 _).trans0 hf35))
  clear hf35 HI HK33 HO33
  obtain ⟨a0, a1, b0, b1⟩ := (unhide HK35).cells
  go_wp2_with fail
  clear a0 a1 b0 b1
  have HT : Hid (Calls Try.prog 19 #[.pointer (some ⟨d, 0, none⟩), .agg #[.int .u32 3, .int .u32 2]] w35 fun e w' => ∃ v u, e = .returned (.tuple #[.agg #[.int .u32 3, .int .u32 2, .int .u8 0, .int .u32 1, .int .u32 1, v, u], .bool true]) ∧ OwF w' w35.heap.size v [] ∧ OwS w' w35.heap.size u [] ∧ Fr (fun _ => False) w35 w') := hide ((unhide HK35).s.aYes 1 (⟨⟨3, 2, 1, 1, 0, 0, 7, 6, v2, ⟨#[]⟩⟩, [], 5, 1, some ⟨⟨3, 2, 0, 1, 1, v3, u3⟩, [], []⟩⟩ : SC) (⟨⟨3, 2, 0, 1, 1, v3, u3⟩, [], []⟩ : AD) rfl rfl)
  refine (unhide HT).mono ?_
  rintro e w36 ⟨v36, u36, rfl, hF36, hH36, hf36⟩
  obtain ⟨fo, fc, rfl⟩ := own_formX hF36
  obtain ⟨ho, hc, rfl⟩ := own_formX hH36
  have HK36 := hide ((unhide HK35).fr0 hf36)
  clear HT hF36 hH36 hf36 HK35
  obtain ⟨a0, a1, b0, b1⟩ := (unhide HK36).cells
  have al : A < w36.heap.size := lt_of_cell a0
  go_wp2_with fail
  obtain ⟨w37, hw37⟩ : ∃ w37, w36.alloc (.cells #[.int .u32 3, .int .u32 2, .int .u8 0, .int .u32 1, .int .u32 1, .slice fo 0 fc, .slice ho 0 hc] 44) = w37 := ⟨_, rfl⟩
  have hf37 : Fr (fun _ => False) w36 w37 := by rw [← hw37]; exact box1 w36 _
  have hc37 : w37.heap[w36.heap.size]? = some (.cells #[.int .u32 3, .int .u32 2, .int .u8 0, .int .u32 1, .int .u32 1, .slice fo 0 fc, .slice ho 0 hc] 44) := by rw [← hw37]; exact heap_alloc_new w36 _
  have HK37 := hide ((unhide HK36).fr0 hf37)
  rw [hw37]
  clear hw37 a0 a1 b0 b1 al HK36 hf37
  have HT : Hid (Calls Try.prog 19 #[.pointer (some ⟨d, 0, none⟩), .agg #[.int .u32 3, .int .u32 1]] w37 fun e w' => ∃ v u, e = .returned (.tuple #[.agg #[.int .u32 0, .int .u32 0, .int .u8 0, .int .u32 0, .int .u32 0, v, u], .bool false]) ∧ OwF w' w37.heap.size v [] ∧ OwS w' w37.heap.size u [] ∧ Fr (fun _ => False) w37 w') := hide ((unhide HK37).s.aNo 3 1 (by omega) (by omega) (fun _ => rfl))
  refine (unhide HT).mono ?_
  rintro e w38 ⟨v38, u38, rfl, hF38, hH38, hf38⟩
  obtain ⟨fo2, fc2, rfl⟩ := own_formX hF38
  obtain ⟨ho2, hc2, rfl⟩ := own_formX hH38
  have HK38 := hide ((unhide HK37).fr0 hf38)
  have hc38 := (hf38.block _ (lt_of_block hc37) (fun h => h)).trans hc37
  have HC38 := hide hc38
  clear HT hF38 hH38 hf38 HK37 hc37 hc38
  obtain ⟨a0, a1, b0, b1⟩ := (unhide HK38).cells
  have bl : B < w38.heap.size := lt_of_cell b0
  go_wp2_with fail
  have HT : Hid (∀ W, KW w W d A B [(⟨⟨3, 1, 1, 1, 0, 0, 7, 6, v1, ⟨#[]⟩⟩, [], 0, 0, none⟩ : SC), (⟨⟨3, 2, 1, 1, 0, 0, 7, 6, v2, ⟨#[]⟩⟩, [], 5, 1, some ⟨⟨3, 2, 0, 1, 1, v3, u3⟩, [], []⟩⟩ : SC)] [2] T → Calls Try.prog 15 #[.pointer (some ⟨d, 0, none⟩), .agg #[.int .u32 3, .int .u32 2]] W fun e w' => e = .returned (.tuple #[.int .i64 0, .int .i64 0]) ∧ Fr (fun _ => False) W w') := hide (fun W hk => hk.s.bNo 3 2 (by omega) (by omega) (fun _ => rfl))
  refine ((unhide HT) _ ((unhide HK38).fr0 (box1 w38 _))).mono ?_
  rintro e w39 ⟨rfl, hf39⟩
  have hfx := (box1 w38 (.cells #[.int .u32 0, .int .u32 0, .int .u8 0, .int .u32 0, .int .u32 0, .slice fo2 0 fc2, .slice ho2 0 hc2] 44)).trans0 hf39
  have hc39 := (hfx.block _ (lt_of_block (unhide HC38)) (fun h => h)).trans (unhide HC38)
  have c3 : w39.cell? ⟨w36.heap.size, 3, none⟩ = some (.int .u32 1) := cell_of_blk hc39 rfl
  have c4 : w39.cell? ⟨w36.heap.size, 4, none⟩ = some (.int .u32 1) := cell_of_blk hc39 rfl
  have HF39 := hide ((unhide HK38).f.trans0 hfx)
  clear HT hf39 hfx hc39 a0 a1 b0 b1 bl HK38 HC38
  go_wp2_with fail
  go_ret
  exact ⟨rfl, unhide HF39⟩
end Go.Proofs.Ytmgoohgophcbaaa

namespace Go.Proofs.Ytmgoohgophcbaaa
open Go.ChangeShapes Go.WideShapes Go.ChangeAt Go.RowKit
set_option maxRecDepth 100000

theorem Try.ownKnob : ownKnob Try.prog.godebug = none := by kernel_rfl
theorem Fr.below {w w' : World} (h : Fr (fun _ => False) w w') : Below w.heap.size w w' := ⟨h.os, h.tape, h.output, h.size, fun k hk => h.block k hk (fun x => x)⟩
end Go.Proofs.Ytmgoohgophcbaaa

namespace Go.Proofs.Ytmgoohgophcbaaa
open Go.ChangeShapes Go.WideShapes Go.ChangeAt Go.RowKit
set_option maxRecDepth 100000

theorem sknown_lifted (os : Os) (started : os.Started) (H : Type) (enc : TypeId × Value → H) :
    ReturnsInHanded {} Try.checked os 3 .any (Rows.sessionKnownSpec.pre6 enc Try.prog Try.f3 Rows.sessionKnownRow.domain false) (Rows.sessionKnownSpec.post enc Try.prog Try.f3 false true false false) := by
  refine returnsInHanded_of_change_sized (C := Try.checked) Try.ownKnob started (by kernel_rfl) Try.func3
    (ChangeSpec.witness6 (enc := enc) (C := Try.checked) false ⟨#[], #[], []⟩ 8 (by kernel_rfl) (by kernel_rfl) (by kernel_rfl) (by kernel_rfl)) ?_
  intro W base args ds gs before _ hW _ _ _
  have hW' := hW
  obtain ⟨p, q, hA0, hV, rfl, hfz, hnd⟩ := hW
  have hA : DataW.TrodAll enc Try.prog W 0 (fun _ => true) true Try.f3.params.toList args.toList ds p := hA0
  rw [Try.params3] at hA
  obtain ⟨hargs, rfl, rfl⟩ := trodAll_nil hA
  obtain rfl : args = #[] := by cases args; simp_all
  obtain ⟨rfl, rfl⟩ := trodVars_none hV
  refine (sknown_any W).mono fun e W' ⟨he, hf⟩ => ?_
  subst he
  have hb := hf.below
  refine ⟨_, rfl, _, _, _, [], [], [], hW', ?_, ?_, ?_, hb.frame _, fun h => by cases h⟩
  · exact trodAll_cons_mk (shut_bool Try.underlying4 true) trodAll_mk0
  · exact trodAll_mk0
  · rfl
theorem sknown_said : Rows.SessionKnownSaid :=
  OpenClaim.holds_of_wide 3 Try.f3 rfl rfl rfl rfl rfl rfl rfl ⟨rfl, rfl, rfl, rfl, rfl⟩ rfl rfl rfl rfl rfl (by kernel_rfl) Try.func3 (by kernel_rfl)
    (of_decide_eq_true (by kernel_rfl)) (by unfold Func.isWrapper; first | (rw [if_pos (by decide +kernel)]; kernel_rfl) | (rw [if_neg (by decide +kernel)]; exact ⟨rfl, rfl⟩))
    (fun os started H enc _ => sknown_lifted os started H enc)
#print axioms sknown_said
end Go.Proofs.Ytmgoohgophcbaaa

