import Derived.Test.YtkiepcdncegniaaPk2
namespace Go.Proofs.Ytkiepcdncegniaa
open Go.RowKit Go.Maps

set_option maxRecDepth 100000 in
set_option maxHeartbeats 16000000 in
theorem gfields_any (x y : Value) (F G : List F5) (w : World) (hx : Fds w x F) (hy : Fds w y G) (hl : F.length ≤ 1048576) :
    Calls Try.prog 41 #[x, y] w fun e w' => e = .returned (.bool (sameL sameF F G)) ∧ Fr (fun _ => False) w w' := by
  obtain ⟨xo, xc, rfl⟩ := hx.form
  obtain ⟨yo, yc, rfl⟩ := hy.form
  have HX := hide (And.intro hx hy)
  clear hx hy
  have hfb := Try.fbitsO
  by_cases hne : F.length = G.length
  · rw [← hne] at HX ⊢
    obtain ⟨N, hN⟩ : ∃ N, F.length = N := ⟨_, rfl⟩
    have HN := hide (And.intro hN hne)
    rw [hN] at HX ⊢
    rw [hN] at hl
    clear hN hne
    obtain ⟨b, hb⟩ : ∃ b, sameL sameF F G = b := ⟨_, rfl⟩
    have HB := hide hb
    rw [hb]
    clear hb
    go_enter Try.func41, Try.ntmps41
    go_wp2_with fail
    go_loopw [5] (fun iv wr => ∃ j : Nat, j ≤ N ∧ iv = .int .i64 (j : Nat) ∧ (∀ (i : Nat) f g, i < j → F[i]? = some f → G[i]? = some g → sameF f g = true) ∧ Fr (fun _ => False) w wr) (fun iv _ => N - (intOf iv).toNat)
    case atStart => exact ⟨0, Nat.zero_le _, rfl, fun i _ _ h => by omega, Fr.refl _ _⟩
    case round =>
      obtain ⟨j, hj, rfl, hall, hfr⟩ := hrel
      rename World => wr
      have HA := hide (And.intro hall hfr)
      clear hall
      by_cases hlt : j < N
      · have hN := (unhide HN).1
        have hG := (unhide HN).2
        obtain ⟨f, hf⟩ : ∃ f, F[j]? = some f := ⟨_, List.getElem?_eq_getElem (by omega)⟩
        obtain ⟨g, hg⟩ : ∃ g, G[j]? = some g := ⟨_, List.getElem?_eq_getElem (by omega)⟩
        obtain ⟨g1, o1, rfl, c0, c1, c2, c3, c4⟩ := ((unhide HX).1.fr hfr).at_ j (by omega)
        obtain ⟨g2, o2, rfl, d0, d1, d2, d3, d4⟩ := ((unhide HX).2.fr hfr).at_ j (by omega)
        have e1 : F[j]'(by omega) = f := (List.getElem?_eq_some_iff.1 hf).2
        have e2 : G[j]'(by omega) = g := (List.getElem?_eq_some_iff.1 hg).2
        rw [e1] at c0 c1 c2 c3 c4
        rw [e2] at d0 d1 d2 d3 d4
        have hl1 : g1 < wr.heap.size := lt_of_cell c0
        have hl2 : g2 < wr.heap.size := lt_of_cell d0
        have hl2' : g2 < wr.heap.size + 1 := by omega
        have hjj : (0 : Int) ≤ (j : Int) := by omega
        have HE := hide (And.intro hf hg)
        obtain ⟨fn, fk, ft, fv, fu⟩ := f
        obtain ⟨gn, gk, gt, gv, gu⟩ := g
        simp only at c0 c1 c2 c3 c4 d0 d1 d2 d3 d4
        clear e1 e2 hf hg hfr hN hG
        have HS : ∀ bb, sameF ⟨fn, fk, ft, fv, fu⟩ ⟨gn, gk, gt, gv, gu⟩ = bb → Hid (sameF ⟨fn, fk, ft, fv, fu⟩ ⟨gn, gk, gt, gv, gu⟩ = bb) := fun _ h => hide h
        cases h1 : (fn.toList == gn.toList)
        · obtain rfl : b = false := (unhide HB).symm.trans (sameL_at (unhide HE).1 (unhide HE).2 (by simp [sameF, h1]))
          clear HS
          go_wp2_with fail
          go_quiet (fail)
          go_wp2_with fail
          go_ret
          exact ⟨rfl, (unhide HA).2.trans0 (((box1 wr _).alloc _).drewN _)⟩
        · cases h2 : decide (fk = gk)
          · have eh2 : (((fk : Nat) : Int) == ((gk : Nat) : Int)) = false := by rw [nat_eq]; exact h2
            have gh2 : ¬ ((fk : Nat) : Int) = ((gk : Nat) : Int) := by have := of_decide_eq_false h2; omega
            obtain rfl : b = false := (unhide HB).symm.trans (sameL_at (unhide HE).1 (unhide HE).2 (by simp [sameF, h1, of_decide_eq_false h2]))
            clear HS
            go_wp2_with fail
            go_quiet (fail)
            go_wp2_with fail
            go_ret
            exact ⟨rfl, (unhide HA).2.trans0 (((box1 wr _).alloc _).drewN _)⟩
          · obtain rfl : fk = gk := of_decide_eq_true h2
            clear h2
            cases h3 : (ft.toList == gt.toList)
            · obtain rfl : b = false := (unhide HB).symm.trans (sameL_at (unhide HE).1 (unhide HE).2 (by simp [sameF, h1, h3]))
              clear HS
              go_wp2_with fail
              go_quiet (fail)
              go_wp2_with fail
              go_ret
              exact ⟨rfl, (unhide HA).2.trans0 (((box1 wr _).alloc _).drewN _)⟩
            · cases h4 : decide (fu = gu)
              · have eh4 : (((fu : Nat) : Int) == ((gu : Nat) : Int)) = false := by rw [nat_eq]; exact h4
                have gh4 : ¬ ((fu : Nat) : Int) = ((gu : Nat) : Int) := by have := of_decide_eq_false h4; omega
                obtain rfl : b = false := (unhide HB).symm.trans (sameL_at (unhide HE).1 (unhide HE).2 (by simp [sameF, h1, h3, of_decide_eq_false h4]))
                clear HS
                go_wp2_with fail
                go_quiet (fail)
                go_wp2_with fail
                go_ret
                exact ⟨rfl, (unhide HA).2.trans0 (((box1 wr _).alloc _).drewN _)⟩
              · obtain rfl : fu = gu := of_decide_eq_true h4
                clear h4
                cases h5 : decide (fv = gv)
                · have eh5 : (((fv : Nat) : Int) == ((gv : Nat) : Int)) = false := by rw [nat_eq]; exact h5
                  have gh5 : ¬ ((fv : Nat) : Int) = ((gv : Nat) : Int) := by have := of_decide_eq_false h5; omega
                  obtain rfl : b = false := (unhide HB).symm.trans (sameL_at (unhide HE).1 (unhide HE).2 (by simp [sameF, h1, h3, of_decide_eq_false h5]))
                  clear HS
                  go_wp2_with fail
                  go_quiet (fail)
                  go_wp2_with fail
                  go_ret
                  exact ⟨rfl, (unhide HA).2.trans0 (((box1 wr _).alloc _).drewN _)⟩
                · obtain rfl : fv = gv := of_decide_eq_true h5
                  clear h5
                  have HS := HS true (by simp [sameF, h1, h3])
                  go_wp2_with fail
                  go_quiet (fail)
                  go_wp2_with fail
                  go_roundw
                  case rel =>
                    refine ⟨j + 1, by omega, by go_num, fun i f g hi hf hg => ?_, (unhide HA).2.trans0 (((box1 wr _).alloc _).drewN _)⟩
                    by_cases e : i < j
                    · exact (unhide HA).1 i f g e hf hg
                    · obtain rfl : i = j := by omega
                      rw [(unhide HE).1] at hf
                      rw [(unhide HE).2] at hg
                      cases hf
                      cases hg
                      exact unhide HS
                  case measure => simp [intOf]; omega
      · obtain rfl : b = true := (unhide HB).symm.trans (sameL_all (unhide HN).2 (fun i f g hf hg => (unhide HA).1 i f g (by have h1 := (List.getElem?_eq_some_iff.1 hf).1; have h2 := (unhide HN).1; omega) hf hg))
        obtain rfl : j = N := by omega
        clear hfr hlt hj
        go_wp2_with fail
        go_ret
        exact ⟨rfl, (unhide HA).2⟩
  · rw [sameL_ne hne]
    have hne2 : ¬ (F.length : Int) = (G.length : Int) := by omega
    obtain ⟨N, hN⟩ : ∃ N, F.length = N := ⟨_, rfl⟩
    obtain ⟨M, hM⟩ : ∃ M, G.length = M := ⟨_, rfl⟩
    rw [hN, hM] at hne2 ⊢
    clear HX hN hM hne hl
    go_enter Try.func41, Try.ntmps41
    go_wp2_with fail
    go_ret
    exact ⟨rfl, Fr.refl _ _⟩
end Go.Proofs.Ytkiepcdncegniaa

