import Derived.Test.YtheehhplopbceaaDoorSgb
import Derived.Test.YtheehhplopbceaaDoorSfb
import Derived.Test.YtheehhplopbceaaDoorSgd
namespace Go.Proofs.YtheehhplopbceaaDoor
open Go.RowKit

theorem roots3 : ∀ i, i < 64 → rtk (fun x => bl3 x (prl.getD i 0)) 38 % 4294967296 = kf i := by decide +kernel
theorem roots2 : ∀ i, i < 8 → rtk (fun x => bl2 x (prl.getD i 0)) 38 % 4294967296 = st0.vals.getD i 0 := by decide +kernel
theorem made_1000 (w : World) : ∃ w', (Instr.makeSlice 24 (.int .i64 1000) (.int .i64 1000)).run Tryd.prog w = .ok (.slice (some ⟨w.heap.size, 0, none⟩) 1000 1000) w' ∧ Ow w' w.heap.size (some ⟨w.heap.size, 0, none⟩) 1000 (List.replicate 1000 0) ∧ Fr (fun _ => False) w w' := by
  obtain ⟨i0, hi, hz0, hz1, hz2⟩ := info_parts Tryd.infoU8
  have hmk := run_make (P := Tryd.prog) (w := w) 24 5 i0 (.int .u8 0) Tryd.underlying24 hi hz0 .i64 .i64 (1000 : Int) (1000 : Int) (by omega) (by omega) (by rw [hz2]; omega) (by omega)
  rw [hz1] at hmk
  have e : madeCells (Value.int .u8 0).cells ((1000 : Int).toNat * 1) = (V8 (List.replicate 1000 0)).toArray := made_zeros 1000
  rw [e] at hmk
  refine ⟨_, hmk, ?_, (Fr.refl _ _).alloc _⟩
  have hl : (List.replicate 1000 0 : List Nat).length = 1000 := List.length_replicate
  have hc : cellsOf (List.replicate 1000 0) = V8 (List.replicate 1000 0) := cells_of_lt _ (fun c hc => by rw [List.mem_replicate] at hc; omega)
  have := World.ownsRow_lit (e := 5) (size := 1) w (V8 (List.replicate 1000 0)).toArray 1000 (Nat.le_refl _) (by simp only [maxLen]; omega) (by rw [List.size_toArray, V8_len, hl])
  unfold Ow
  rw [hl, hc]
  exact this
set_option maxRecDepth 100000 in
set_option maxHeartbeats 1000000 in
theorem roots_any (w : World) (hg : GS w) (hr : GR w) : Calls Tryd.prog 4 #[] w fun e w' => e = .returned (.bool true) ∧ Fr (fun _ => False) w w' := by
  have HG := hide (And.intro hg hr)
  clear hg hr
  go_enter Tryd.func4, Tryd.ntmps4
  go_wp2_with fail
  refine (primes_any w).mono ?_
  rintro e w1 ⟨ao, cp, rfl, hO⟩
  obtain ⟨g, rfl⟩ : ∃ g, ao = some ⟨g, 0, none⟩ := by
    rcases hO.own.2 with ⟨_, e⟩ | ⟨g, cap, cur, e, _⟩
    · exact absurd e (by decide)
    · simp only [Value.slice.injEq] at e
      exact ⟨g, e.1⟩
  have H1 := hide (And.intro hO.fr (And.intro hO.own ((unhide HG).2.fr0 hO.fr)))
  clear hO
  go_wp2_with fail
  go_loopw [2] (fun iv wr => ∃ (k q : Nat), k ≤ 64 ∧ iv = .int .i64 (k : Nat) ∧ wr = w1.drewN q) (fun iv _ => 64 - (intOf iv).toNat)
  case atStart => exact ⟨0, 0, Nat.zero_le _, rfl, rfl⟩
  case round =>
    obtain ⟨k, q, hk, rfl, rfl⟩ := hrel
    by_cases hlt : k < 64
    · have hlt' : (k : Int) < 64 := by omega
      have hc : w1.cell? ⟨g, k, none⟩ = some (.int .u64 ((prl.getD k 0 : Nat) : Int)) := by
        rw [(unhide H1).2.1.cellAt k (show k < 64 * 1 by omega)]
        exact V64_get prl k hlt
      have hK : w1.cell? ⟨0, k, none⟩ = some (.int .u64 ((kf k : Nat) : Int)) := (unhide H1).2.2.1 k hlt
      have r3 : ∀ w, Calls Tryd.prog 18 #[.int .u64 ((prl.getD k 0 : Nat) : Int), .int .i64 3] w fun e w' => e = .returned (.int .u64 ((kf k : Nat) : Int)) ∧ w' = w := fun w => by
        rw [← roots3 k hlt]
        exact root_any (prl.getD k 0) 3 (fun x => bl3 x (prl.getD k 0)) w (fun x hx w => below3_any x _ w hx)
      by_cases h8 : k < 8
      · have h8' : (k : Int) < 8 := by omega
        have hB : w1.cell? ⟨1, k, none⟩ = some (.int .u64 ((st0.vals.getD k 0 : Nat) : Int)) := (unhide H1).2.2.2.1 k h8
        have r2 : ∀ w, Calls Tryd.prog 18 #[.int .u64 ((prl.getD k 0 : Nat) : Int), .int .i64 2] w fun e w' => e = .returned (.int .u64 ((st0.vals.getD k 0 : Nat) : Int)) ∧ w' = w := fun w => by
          rw [← roots2 k h8]
          exact root_any (prl.getD k 0) 2 (fun x => bl2 x (prl.getD k 0)) w (fun x hx w => below2_any x _ w hx)
        generalize prl.getD k 0 = P at *
        generalize kf k = K at *
        generalize st0.vals.getD k 0 = S at *
        have hR : ∀ (kd : Int) (w : World), (kd = 3 ∨ kd = 2) → Calls Tryd.prog 18 #[.int .u64 (P : Int), .int .i64 kd] w fun e w' => e = .returned (.int .u64 (if kd = 3 then (K : Int) else (S : Int))) ∧ w' = w := fun kd w h => by
          rcases h with rfl | rfl
          · exact r3 w
          · exact r2 w
        have HR := hide hR
        clear r3 r2 hR
        go_wp2_with fail
        go_quiet ((go_at_call 18; refine ((unhide HR) _ _ (by decide)).mono ?_; rintro e w' ⟨rfl, rfl⟩; exact ⟨rfl, _, by first | rfl | simp [World.drewN_drewN]⟩))
        go_wp2_with fail
        exact ⟨⟨k + 1, q + nq, by omega, by go_num, rfl⟩, by simp [intOf]; omega⟩
      · have h8' : decide ((k : Int) < 8) = false := decide_eq_false (by omega)
        generalize prl.getD k 0 = P at *
        generalize kf k = K at *
        have hR : ∀ (kd : Int) (w : World), kd = 3 → Calls Tryd.prog 18 #[.int .u64 (P : Int), .int .i64 kd] w fun e w' => e = .returned (.int .u64 (K : Int)) ∧ w' = w := fun kd w h => by
          subst h
          exact r3 w
        have HR := hide hR
        clear r3 hR
        go_wp2_with fail
        go_quiet ((go_at_call 18; refine ((unhide HR) _ _ (by decide)).mono ?_; rintro e w' ⟨rfl, rfl⟩; exact ⟨rfl, _, by first | rfl | simp [World.drewN_drewN]⟩))
        go_wp2_with fail
        exact ⟨⟨k + 1, q + nq, by omega, by go_num, rfl⟩, by simp [intOf]; omega⟩
    · have hlt' : ¬ (k : Int) < 64 := by omega
      obtain ⟨w2, hmk, hO2, hF2⟩ := made_1000 (w1.drewN q)
      have hF02 : Fr (fun _ => False) w w2 := ((unhide H1).1.drewN q).trans hF2 (fun _ _ h => h)
      have H2 := hide (And.intro hO2 hF02)
      clear hO2 hF02 hF2
      go_wp2_with fail
      clear hmk
      go_loopw [4] (fun iv wr => ∃ (j : Nat) (L : List Nat), j ≤ 1000 ∧ iv = .int .i64 (j : Nat) ∧ L.length = 1000 ∧ (∀ i, i < j → L.getD i 0 = 97) ∧ Ow wr w1.heap.size (some ⟨w1.heap.size, 0, none⟩) 1000 L ∧ Fr (fun x => x = w1.heap.size) w2 wr) (fun iv _ => 1000 - (intOf iv).toNat)
      case atStart => exact ⟨0, List.replicate 1000 0, Nat.zero_le _, rfl, List.length_replicate, fun i h => by omega, (unhide H2).1, Fr.refl _ _⟩
      case round =>
        obtain ⟨j, L, hj, rfl, hL, hA, hO, hF⟩ := hrel
        rename World => wr
        by_cases hjl : j < 1000
        · have hjl' : (j : Int) < 1000 := by omega
          have hc : ∃ u, wr.cell? ⟨w1.heap.size, j, none⟩ = some u := by
            rw [World.ownsRow.cellAt hO j (by rw [hL]; omega), List.getElem?_eq_getElem (by rw [cellsOf_length, hL]; omega)]
            exact ⟨_, rfl⟩
          obtain ⟨u, hu⟩ := hc
          have hz := hO.fz j
          have hP := hO.set j 97 (by decide)
          have hF2 : Fr (fun x => x = w1.heap.size) w2 (wr.setCell ⟨w1.heap.size, j, none⟩ (.int .u8 97)) := Fr.setCell hF (p := ⟨w1.heap.size, j, none⟩) (.inl rfl) _
          have hA2 : ∀ i, i < j + 1 → (L.set j 97).getD i 0 = 97 := fun i hi => by
            rw [List.getD, List.getElem?_set]
            by_cases e : j = i
            · rw [if_pos e, if_pos (by omega)]; rfl
            · rw [if_neg e]; exact hA i (by omega)
          have HP := hide (And.intro hP (And.intro hF2 (And.intro hL hA2)))
          clear hP hF2 hL hO hF hA hA2
          go_wp2_with fail
          exact ⟨⟨j + 1, _, by omega, by go_num, by rw [List.length_set]; exact (unhide HP).2.2.1, (unhide HP).2.2.2, (unhide HP).1, (unhide HP).2.1⟩, by simp [intOf]; omega⟩
        · have hjl' : ¬ (j : Int) < 1000 := by omega
          have hLe : L = List.replicate 1000 97 := by
            apply List.ext_getElem?
            intro i
            by_cases hi : i < 1000
            · have := hA i (by omega)
              rw [List.getD, List.getElem?_eq_getElem (by omega), Option.getD_some] at this
              rw [List.getElem?_eq_getElem (by omega), this, List.getElem?_replicate, if_pos hi]
            · rw [List.getElem?_eq_none (by omega), List.getElem?_eq_none (by rw [List.length_replicate]; omega)]
          have hS : Src wr (.slice (some ⟨w1.heap.size, 0, none⟩) 1000 1000) (List.replicate 1000 97) := by
            have := hO.src
            rw [hL, hLe] at this
            exact this
          have hF0 : Fr (fun _ => False) w wr := fr_new hF (unhide H2).2 (unhide H1).1.size
          have hlt1 := hO.lt.2
          have H3 := hide (And.intro hS (And.intro hF0 hlt1))
          clear hS hF0 hlt1 hLe hO hF hA hL
          go_wp2_with fail
          refine (sum_O 32 (List.replicate 1000 97) _ wr ((unhide HG).1.fr0 (unhide H3).2.1) (unhide H3).1 (fun v hv => by rw [List.mem_replicate] at hv; omega) (by rw [List.length_replicate]; decide) (fun _ _ _ e => by cases e; exact Nat.le_refl _) (fun _ _ _ _ e => by cases e; exact (unhide H3).2.2)).mono ?_
          rintro e w5 ⟨yo, rfl, hO⟩
          have hsm : sm 32 (List.replicate 1000 97) = (sby (dig (List.replicate 1000 97))).take 32 := rfl
          have H5 := hide (And.intro hO.ow (And.intro ((unhide H3).2.1.trans hO.fr (fun _ _ h => h)) hsm))
          clear hO hsm
          generalize sm 32 (List.replicate 1000 97) = SM at *
          go_wp2_with fail
          refine (hex_any ⟨#[52, 49, 101, 100, 101, 99, 101, 52, 50, 100, 54, 51, 101, 56, 100, 57, 98, 102, 53, 49, 53, 97, 57, 98, 97, 54, 57, 51, 50, 101, 49, 99, 50, 48, 99, 98, 99, 57, 102, 53, 97, 53, 100, 49, 51, 52, 54, 52, 53, 97, 100, 98, 53, 100, 98, 49, 98, 57, 55, 51, 55, 101, 97, 51]⟩ w5 (by decide)).mono ?_
          rintro e w6 ⟨v6, rfl, hS6, hF6⟩
          have hsrc := (unhide H5).1.src.fr0 hF6
          have H6 := hide (And.intro hsrc (And.intro hS6 ((unhide H5).2.1.trans hF6 (fun _ _ h => h))))
          clear hsrc hS6 hF6
          go_wp2_with fail
          refine (same_T (unhide H6).1 (unhide H6).2.1 (by rw [(unhide H5).2.2]; exact take_len _ _) (by rw [(unhide H5).2.2]; exact sv_k)).mono ?_
          rintro e w7 ⟨rfl, hF7⟩
          have H7 := hide ((unhide H6).2.2.trans hF7 (fun _ _ h => h))
          clear hF7
          go_wp2_with fail
          go_ret
          exact ⟨rfl, unhide H7⟩
end Go.Proofs.YtheehhplopbceaaDoor
