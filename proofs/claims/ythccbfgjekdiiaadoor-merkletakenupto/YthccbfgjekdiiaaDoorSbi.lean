import Derived.Test.YthccbfgjekdiiaaDoorSbh
namespace Go.Proofs.YthccbfgjekdiiaaDoor
open Go.RowKit

theorem zero_st (w : World) : (zeroValue 88).run Tryd.prog w = .ok (.agg (Array.replicate 8 (.int .u32 0))) w := by kernel_rfl
theorem info_st : (Tryd.prog.info? 88).map (·.size) = some 8 := by kernel_rfl
theorem info_bl : (Tryd.prog.info? 90).map (·.size) = some 64 := by kernel_rfl
/-- The words are laid into a block of their own. -/
theorem lay_words (l : List Nat) (w1 : World) : ∃ (cs : List Value) (w3 : World), u32s (wl l 48) = cs.toArray ∧ (w1.alloc (.cells (Array.replicate 64 (.int .u32 0)) 134)).there w1.heap.size 0 cs.toArray.size ∧
    (Tryd.prog.info? 134).map (·.size) = some cs.toArray.size ∧ cs.toArray.all (·.oneCell') = true ∧
    (w1.alloc (.cells (Array.replicate 64 (.int .u32 0)) 134)).setCells w1.heap.size 0 cs = w3 ∧ NumsAt w3 w1.heap.size .u32 64 (fun j => (wl l 48).getD j 0) ∧ Fr (fun _ => False) w1 w3 := by
  obtain ⟨cs, hcs⟩ : ∃ cs, V32 (wl l 48) = cs := ⟨_, rfl⟩
  have hlen : cs.length = 64 := by rw [← hcs, V32_len, wl_len]
  have hone : ∀ v ∈ cs, v.oneCell' = true := by rw [← hcs]; exact V32_one _
  have e : u32s (wl l 48) = cs.toArray := by rw [u32s_V, hcs]
  have hth : (w1.alloc (.cells (Array.replicate 64 (.int .u32 0)) 134)).there w1.heap.size 0 cs.length := fun j hj => by
    rw [Nat.zero_add, World.cell?_alloc_at _ _ _ _ rfl, World.frozen?_alloc_at _ _ _ _ rfl, rep64 j (by omega)]
    exact ⟨rfl, rfl⟩
  refine ⟨cs, _, e, by rw [List.size_toArray]; exact hth, by rw [List.size_toArray, hlen]; exact info_w32, all_oneCell_toArray hone, rfl, fun j hj => ?_, Fr.setCells ((Fr.refl _ _).alloc _) (.inr (Nat.le_refl _)) _⟩
  have := World.rangeAt_setCells_same (w1.alloc (.cells (Array.replicate 64 (.int .u32 0)) 134)) w1.heap.size 0 cs hth j (.int .u32 (((wl l 48).getD j 0 : Nat) : Int)) (by
    have hj2 : j < (wl l 48).length := by rw [wl_len]; exact hj
    rw [← hcs, V32, List.getElem?_map, List.getElem?_eq_getElem hj2, Option.map_some, List.getD, List.getElem?_eq_getElem hj2, Option.getD_some])
  rw [Nat.zero_add] at this
  exact this
set_option maxRecDepth 100000 in
set_option maxHeartbeats 16000000 in
theorem fold_any (s : S8) (l : List Nat) (w : World) (hs : s.ok) (hl : l.length = 64) (hb : ∀ j, l.getD j 0 < 256) (hk : GK w) :
    Calls Tryd.prog 83 #[.agg #[.int .u32 s.a, .int .u32 s.b, .int .u32 s.c, .int .u32 s.d, .int .u32 s.e, .int .u32 s.f, .int .u32 s.g, .int .u32 s.h], .agg (u8s l)] w fun e w' => e = .returned (.agg #[.int .u32 (fo s l).a, .int .u32 (fo s l).b, .int .u32 (fo s l).c, .int .u32 (fo s l).d, .int .u32 (fo s l).e, .int .u32 (fo s l).f, .int .u32 (fo s l).g, .int .u32 (fo s l).h]) ∧ Fr (fun _ => False) w w' := by
  have hz1 := zero_st
  have hz2 := zero_w32
  have hsg : IntKind.u32.signed = false := rfl
  obtain ⟨s0, s1, s2, s3, s4, s5, s6, s7⟩ := s
  have HK := hide (And.intro hk (And.intro hs (And.intro hl hb)))
  clear hk hs hl hb
  simp only
  -- the world in which schedule is called
  obtain ⟨w0, hw0⟩ : ∃ w0, ((w.alloc (.cells #[.int .u32 s0, .int .u32 s1, .int .u32 s2, .int .u32 s3, .int .u32 s4, .int .u32 s5, .int .u32 s6, .int .u32 s7] 88)).alloc (.cells (u8s l) 90)).alloc (.cells (Array.replicate 8 (.int .u32 0)) 88) = w0 := ⟨_, rfl⟩
  go_enter Tryd.func83, Tryd.ntmps83
  have hF0 : Fr (fun _ => False) w w0 := by rw [← hw0]; exact (((Fr.refl _ _).alloc _).alloc _).alloc _
  have hlen8 : (V8 l).length = 64 := by rw [V8_len]; exact (unhide HK).2.2.1
  have hsz0 : w0.heap.size = w.heap.size + 1 + 1 + 1 := by rw [← hw0]; simp
  have hrg0 : w0.rangeAt (w.heap.size + 1) 0 (V8 l) := fun j v hv => by
    obtain ⟨hj, rfl⟩ := V8_at l j v hv
    rw [Nat.zero_add, ← hw0, World.cell?_alloc_past _ _ _ (by simp), show w.heap.size + 1 = (w.alloc (.cells #[.int .u32 s0, .int .u32 s1, .int .u32 s2, .int .u32 s3, .int .u32 s4, .int .u32 s5, .int .u32 s6, .int .u32 s7] 88)).heap.size by simp, World.cell?_alloc_at _ _ _ _ rfl]
    exact u8s_at l j hj
  have hst0 : ∀ j, j < 8 → w0.cell? ⟨w.heap.size, j, none⟩ = (#[.int .u32 s0, .int .u32 s1, .int .u32 s2, .int .u32 s3, .int .u32 s4, .int .u32 s5, .int .u32 s6, .int .u32 s7] : Array Value)[j]? := fun j hj => by
    rw [← hw0, World.cell?_alloc_past _ _ _ (by simp; omega), World.cell?_alloc_past _ _ _ (by simp), World.cell?_alloc_at _ _ _ _ rfl]
  have hre0 : ∀ j, j < 8 → w0.cell? ⟨w.heap.size + 1 + 1, j, none⟩ = some (.int .u32 0) ∧ w0.frozen? ⟨w.heap.size + 1 + 1, j, none⟩ = false := fun j hj => by
    have e : w.heap.size + 1 + 1 = ((w.alloc (.cells #[.int .u32 s0, .int .u32 s1, .int .u32 s2, .int .u32 s3, .int .u32 s4, .int .u32 s5, .int .u32 s6, .int .u32 s7] 88)).alloc (.cells (u8s l) 90)).heap.size := by simp
    rw [← hw0, e, World.cell?_alloc_at _ _ _ _ rfl, World.frozen?_alloc_at _ _ _ _ rfl]
    exact ⟨by rw [Array.getElem?_replicate, if_pos hj], rfl⟩
  have HW := hide (And.intro hF0 (And.intro hrg0 (And.intro (show (Tryd.prog.info? 90).map (·.size) = some (V8 l).length by rw [hlen8]; exact info_bl) (And.intro hst0 hre0))))
  have HZ := hide hsz0
  clear hF0 hlen8 hsz0 hrg0 hst0 hre0
  go_wp2_with (refine wpList_load_mid rfl 90 (.tmp 3) rfl (w.heap.size + 1) 0 rfl (V8 l) _ (unhide HW).2.1 Tryd.underlying90 rfl (unhide HW).2.2.1 ?_)
  clear hw0
  refine (sched_any l w0 (unhide HK).2.2.1 (unhide HK).2.2.2).mono ?_
  rintro e w1 ⟨rfl, hF1⟩
  obtain ⟨cs, w3, hcs, hth, hi, hone, hw3, hn3, hF3⟩ := lay_words l w1
  rw [hcs]
  have hF13 := hF1.trans hF3 (fun _ _ h => h)
  have H3 := hide (And.intro hth (And.intro hi (And.intro hone (And.intro hn3 hF13))))
  clear hcs hth hi hone hn3 hF1 hF3 hF13
  go_wp2_with (refine wpList_store_mid rfl 134 (.tmp 5) (.tmp 18) rfl w1.heap.size 0 cs.toArray rfl rfl (unhide H3).1 (unhide H3).2.1 (unhide H3).2.2.1 ?_; rw [show cs.toArray.toList = cs from rfl, hw3])
  have hF03 := (unhide H3).2.2.2.2
  have e0 : w3.cell? ⟨w.heap.size, 0, none⟩ = some (.int .u32 s0) := (hF03.cell (p := ⟨w.heap.size, 0, none⟩) (by rw [unhide HZ]; simp only; omega) (fun h => h)).trans ((unhide HW).2.2.2.1 0 (by decide))
  have e1 : w3.cell? ⟨w.heap.size, 1, none⟩ = some (.int .u32 s1) := (hF03.cell (p := ⟨w.heap.size, 1, none⟩) (by rw [unhide HZ]; simp only; omega) (fun h => h)).trans ((unhide HW).2.2.2.1 1 (by decide))
  have e2 : w3.cell? ⟨w.heap.size, 2, none⟩ = some (.int .u32 s2) := (hF03.cell (p := ⟨w.heap.size, 2, none⟩) (by rw [unhide HZ]; simp only; omega) (fun h => h)).trans ((unhide HW).2.2.2.1 2 (by decide))
  have e3 : w3.cell? ⟨w.heap.size, 3, none⟩ = some (.int .u32 s3) := (hF03.cell (p := ⟨w.heap.size, 3, none⟩) (by rw [unhide HZ]; simp only; omega) (fun h => h)).trans ((unhide HW).2.2.2.1 3 (by decide))
  have e4 : w3.cell? ⟨w.heap.size, 4, none⟩ = some (.int .u32 s4) := (hF03.cell (p := ⟨w.heap.size, 4, none⟩) (by rw [unhide HZ]; simp only; omega) (fun h => h)).trans ((unhide HW).2.2.2.1 4 (by decide))
  have e5 : w3.cell? ⟨w.heap.size, 5, none⟩ = some (.int .u32 s5) := (hF03.cell (p := ⟨w.heap.size, 5, none⟩) (by rw [unhide HZ]; simp only; omega) (fun h => h)).trans ((unhide HW).2.2.2.1 5 (by decide))
  have e6 : w3.cell? ⟨w.heap.size, 6, none⟩ = some (.int .u32 s6) := (hF03.cell (p := ⟨w.heap.size, 6, none⟩) (by rw [unhide HZ]; simp only; omega) (fun h => h)).trans ((unhide HW).2.2.2.1 6 (by decide))
  have e7 : w3.cell? ⟨w.heap.size, 7, none⟩ = some (.int .u32 s7) := (hF03.cell (p := ⟨w.heap.size, 7, none⟩) (by rw [unhide HZ]; simp only; omega) (fun h => h)).trans ((unhide HW).2.2.2.1 7 (by decide))
  have hgk := ((unhide HK).1.fr0 (unhide HW).1).fr0 hF03
  have hre3 : ∀ j, j < 8 → w3.cell? ⟨w.heap.size + 1 + 1, j, none⟩ = some (.int .u32 0) ∧ w3.frozen? ⟨w.heap.size + 1 + 1, j, none⟩ = false := fun j hj =>
    ⟨(hF03.cell (p := ⟨w.heap.size + 1 + 1, j, none⟩) (by rw [unhide HZ]; simp only; omega) (fun h => h)).trans ((unhide HW).2.2.2.2 j hj).1, (hF03.frozen (p := ⟨w.heap.size + 1 + 1, j, none⟩) (by rw [unhide HZ]; simp only; omega) (fun h => h)).trans ((unhide HW).2.2.2.2 j hj).2⟩
  have hFw := (unhide HW).1.trans hF03 (fun _ _ h => h)
  have HG := hide (And.intro hgk (And.intro hre3 (And.intro hFw (unhide H3).2.2.2.1)))
  clear hgk hre3 hFw hF03 hw3 H3 HW HZ
  go_quiet (fail)
  go_wp2_with fail
  go_loopw [6, 7, 8, 9, 10, 11, 12, 13, 35] (fun va vb vc vd ve vf vg vh i wr => ∃ (n q : Nat) (r : S8), n ≤ 64 ∧ r = rnds kf (fun j => (wl l 48).getD j 0) ⟨s0, s1, s2, s3, s4, s5, s6, s7⟩ n ∧ i = .int .i64 n ∧ va = .int .u32 r.a ∧ vb = .int .u32 r.b ∧ vc = .int .u32 r.c ∧ vd = .int .u32 r.d ∧ ve = .int .u32 r.e ∧ vf = .int .u32 r.f ∧ vg = .int .u32 r.g ∧ vh = .int .u32 r.h ∧ wr = w3.drewN q) (fun _ _ _ _ _ _ _ _ i _ => 64 - (intOf i).toNat)
  case atStart => exact ⟨0, _, ⟨s0, s1, s2, s3, s4, s5, s6, s7⟩, Nat.zero_le _, rfl, rfl, rfl, rfl, rfl, rfl, rfl, rfl, rfl, rfl, rfl⟩
  case round =>
    obtain ⟨n, q, r, hn, hr, rfl, rfl, rfl, rfl, rfl, rfl, rfl, rfl, rfl, rfl⟩ := hrel
    by_cases hlt : n < 64
    · have hok : r.ok := by rw [hr]; exact rnds_ok _ _ _ (unhide HK).2.1 n
      have hrn : rnds kf (fun j => (wl l 48).getD j 0) ⟨s0, s1, s2, s3, s4, s5, s6, s7⟩ (n + 1) = rnd r (kf n) ((wl l 48).getD n 0) := by rw [hr]; rfl
      have ck : (w3.drewN q).cell? ⟨1, n, none⟩ = some (.int .u32 (kf n : Nat)) := by rw [World.cell?_drewN]; exact (unhide HG).1.1 n hlt
      have cw : (w3.drewN q).cell? ⟨w1.heap.size, n, none⟩ = some (.int .u32 ((wl l 48).getD n 0 : Nat)) := by rw [World.cell?_drewN]; exact (unhide HG).2.2.2 n hlt
      have HR := hide hrn
      clear hr hrn
      generalize kf n = K at *
      generalize (wl l 48).getD n 0 = W at *
      obtain ⟨A, B1, C, D, E, F1, G, H⟩ := r
      obtain ⟨bA, bB, bC, bD, bE, bF, bG, bH⟩ := hok
      simp only at bA bB bC bD bE bF bG bH
      have r6 := rr_lt E 6 bE
      have r11 := rr_lt E 11 bE
      have r25 := rr_lt E 25 bE
      have r2 := rr_lt A 2 bA
      have r13 := rr_lt A 13 bA
      have r22 := rr_lt A 22 bA
      have f1 := u32_xor_nat _ _ r6 r11
      have f2 := u32_xor_nat _ _ (xor_lt32 _ _ r6 r11) r25
      have f3 := u32_and_nat E F1 bE bF
      have f4 := not_u32 E bE
      have bN := xor_lt32 E 4294967295 bE (by decide)
      have f5 := u32_and_nat (E ^^^ 4294967295) G bN bG
      have f6 := u32_xor_nat _ _ (and_lt32 E F1 bE) (and_lt32 (E ^^^ 4294967295) G bN)
      have f7 := u32_xor_nat _ _ r2 r13
      have f8 := u32_xor_nat _ _ (xor_lt32 _ _ r2 r13) r22
      have f9 := u32_and_nat A B1 bA bB
      have f10 := u32_and_nat A C bA bC
      have f11 := u32_and_nat B1 C bB bC
      have f12 := u32_xor_nat _ _ (and_lt32 A B1 bA) (and_lt32 A C bA)
      have f13 := u32_xor_nat _ _ (xor_lt32 _ _ (and_lt32 A B1 bA) (and_lt32 A C bA)) (and_lt32 B1 C bB)
      have hx : rx E F1 G H K W = (H + (rr E 6 ^^^ rr E 11 ^^^ rr E 25) + ((E &&& F1) ^^^ ((E ^^^ 4294967295) &&& G)) + K + W) % 4294967296 := rfl
      have hy : ry A B1 C = ((rr A 2 ^^^ rr A 13 ^^^ rr A 22) + ((A &&& B1) ^^^ (A &&& C) ^^^ (B1 &&& C))) % 4294967296 := rfl
      have HXY := hide (And.intro hx hy)
      clear hx hy r6 r11 r25 r2 r13 r22 bN
      have n64 : (n : Int) < 64 := by omega
      go_wp2_with fail
      go_region_held3 (fun w' => w'.cell? ⟨1, n, none⟩ = some (.int .u32 K) ∧ w'.cell? ⟨w1.heap.size, n, none⟩ = some (.int .u32 W)) (first | exact ⟨ck, cw⟩ | assumption | (refine ⟨?_, ?_⟩ <;> (simp only [World.cell?_drew, World.cell?_drewN] at *; assumption)))
        (first
          | (go_at_call 100; refine (ror_6 E _ bE).mono ?_; rintro e w' ⟨rfl, rfl⟩)
          | (go_at_call 100; refine (ror_11 E _ bE).mono ?_; rintro e w' ⟨rfl, rfl⟩)
          | (go_at_call 100; refine (ror_25 E _ bE).mono ?_; rintro e w' ⟨rfl, rfl⟩))
      rw [sum5, ← (unhide HXY).1]
      generalize hX : rx E F1 G H K W = X at *
      have HX := hide hX
      clear hX ck cw f1 f2 f3 f4 f5 f6
      go_wp2_with fail
      refine (ror_2 A _ bA).mono ?_
      rintro e w' ⟨rfl, rfl⟩
      go_wp2_with fail
      refine (ror_13 A _ bA).mono ?_
      rintro e w' ⟨rfl, rfl⟩
      go_wp2_with fail
      refine (ror_22 A _ bA).mono ?_
      rintro e w' ⟨rfl, rfl⟩
      have f14 := sum2 (rr A 2 ^^^ rr A 13 ^^^ rr A 22) ((A &&& B1) ^^^ (A &&& C) ^^^ (B1 &&& C))
      rw [← (unhide HXY).2] at f14
      generalize hY : ry A B1 C = Y at *
      have HY := hide hY
      clear hY
      have f15 := sum2 X Y
      have f16 := sum2 D X
      go_wp2_with fail
      refine ⟨⟨n + 1, _, ⟨(X + Y) % 4294967296, A, B1, C, (D + X) % 4294967296, E, F1, G⟩, by omega, by rw [unhide HR, ← unhide HX, ← unhide HY]; rfl, by go_num, by first | rfl | (congr 1; omega), rfl, rfl, rfl, by first | rfl | (congr 1; omega), rfl, rfl, rfl, rfl⟩, by simp [intOf]; omega⟩
    · obtain rfl : n = 64 := by omega
      obtain ⟨A, B1, C, D, E, F1, G, H⟩ := r
      have hfo : fo ⟨s0, s1, s2, s3, s4, s5, s6, s7⟩ l = ⟨(s0 + A) % 4294967296, (s1 + B1) % 4294967296, (s2 + C) % 4294967296, (s3 + D) % 4294967296, (s4 + E) % 4294967296, (s5 + F1) % 4294967296, (s6 + G) % 4294967296, (s7 + H) % 4294967296⟩ := by rw [fo, ← hr]; rfl
      have hth : (w3.drewN q).there (w.heap.size + 1 + 1) 0 8 := fun j hj => by
        rw [Nat.zero_add, World.cell?_drewN, World.frozen?_drewN, ((unhide HG).2.1 j hj).1, ((unhide HG).2.1 j hj).2]
        exact ⟨rfl, rfl⟩
      have HO := hide (And.intro hfo hth)
      clear hfo hth hr
      simp only
      have g0 := sum2 s0 A
      have k0 : (w3.drewN q).cell? ⟨w.heap.size, 0, none⟩ = some (.int .u32 s0) := by rw [World.cell?_drewN]; exact e0
      generalize (s0 + A) % 4294967296 = u0 at *
      have g1 := sum2 s1 B1
      have k1 : (w3.drewN q).cell? ⟨w.heap.size, 1, none⟩ = some (.int .u32 s1) := by rw [World.cell?_drewN]; exact e1
      generalize (s1 + B1) % 4294967296 = u1 at *
      have g2 := sum2 s2 C
      have k2 : (w3.drewN q).cell? ⟨w.heap.size, 2, none⟩ = some (.int .u32 s2) := by rw [World.cell?_drewN]; exact e2
      generalize (s2 + C) % 4294967296 = u2 at *
      have g3 := sum2 s3 D
      have k3 : (w3.drewN q).cell? ⟨w.heap.size, 3, none⟩ = some (.int .u32 s3) := by rw [World.cell?_drewN]; exact e3
      generalize (s3 + D) % 4294967296 = u3 at *
      have g4 := sum2 s4 E
      have k4 : (w3.drewN q).cell? ⟨w.heap.size, 4, none⟩ = some (.int .u32 s4) := by rw [World.cell?_drewN]; exact e4
      generalize (s4 + E) % 4294967296 = u4 at *
      have g5 := sum2 s5 F1
      have k5 : (w3.drewN q).cell? ⟨w.heap.size, 5, none⟩ = some (.int .u32 s5) := by rw [World.cell?_drewN]; exact e5
      generalize (s5 + F1) % 4294967296 = u5 at *
      have g6 := sum2 s6 G
      have k6 : (w3.drewN q).cell? ⟨w.heap.size, 6, none⟩ = some (.int .u32 s6) := by rw [World.cell?_drewN]; exact e6
      generalize (s6 + G) % 4294967296 = u6 at *
      have g7 := sum2 s7 H
      have k7 : (w3.drewN q).cell? ⟨w.heap.size, 7, none⟩ = some (.int .u32 s7) := by rw [World.cell?_drewN]; exact e7
      generalize (s7 + H) % 4294967296 = u7 at *
      clear e0 e1 e2 e3 e4 e5 e6 e7
      have hi8 : (Tryd.prog.info? 88).map (·.size) = some (#[.int .u32 (u0 : Int), .int .u32 (u1 : Int), .int .u32 (u2 : Int), .int .u32 (u3 : Int), .int .u32 (u4 : Int), .int .u32 (u5 : Int), .int .u32 (u6 : Int), .int .u32 (u7 : Int)] : Array Value).size := info_st
      have ht8 : (w3.drewN q).there (w.heap.size + 1 + 1) 0 (#[.int .u32 (u0 : Int), .int .u32 (u1 : Int), .int .u32 (u2 : Int), .int .u32 (u3 : Int), .int .u32 (u4 : Int), .int .u32 (u5 : Int), .int .u32 (u6 : Int), .int .u32 (u7 : Int)] : Array Value).size := (unhide HO).2
      have H8 := hide (And.intro hi8 ht8)
      clear hi8 ht8
      go_wp2_with (refine wpList_store_mid rfl 88 (.tmp 4) (.tmp 130) rfl (w.heap.size + 1 + 1) 0 #[.int .u32 (u0 : Int), .int .u32 (u1 : Int), .int .u32 (u2 : Int), .int .u32 (u3 : Int), .int .u32 (u4 : Int), .int .u32 (u5 : Int), .int .u32 (u6 : Int), .int .u32 (u7 : Int)] rfl rfl (unhide H8).2 (unhide H8).1 (all_oneCell_toArray (V32_one [u0, u1, u2, u3, u4, u5, u6, u7])) ?_)
      have hrs := World.rangeAt_setCells_same (w3.drewN q) (w.heap.size + 1 + 1) 0 [.int .u32 (u0 : Int), .int .u32 (u1 : Int), .int .u32 (u2 : Int), .int .u32 (u3 : Int), .int .u32 (u4 : Int), .int .u32 (u5 : Int), .int .u32 (u6 : Int), .int .u32 (u7 : Int)] (unhide H8).2
      have hi9 : (Tryd.prog.info? 88).map (·.size) = some ([.int .u32 (u0 : Int), .int .u32 (u1 : Int), .int .u32 (u2 : Int), .int .u32 (u3 : Int), .int .u32 (u4 : Int), .int .u32 (u5 : Int), .int .u32 (u6 : Int), .int .u32 (u7 : Int)] : List Value).length := info_st
      try simp only [Exit.inBlock, Exit.then]
      refine bodyPost_ret (results_cell_mid (p := 4) (ty := 88) rfl _ _ (w.heap.size + 1 + 1) 0 _ _ rfl hrs Tryd.underlying88 rfl hi9) rfl ?_
      exact ⟨by rw [(unhide HO).1], Fr.setCells (show Fr (fun _ => False) w (w3.drewN q) from ⟨(unhide HG).2.2.1.os, (unhide HG).2.2.1.tape, (unhide HG).2.2.1.output, (unhide HG).2.2.1.size, (unhide HG).2.2.1.block⟩) (.inr (by omega)) _⟩
end Go.Proofs.YthccbfgjekdiiaaDoor
