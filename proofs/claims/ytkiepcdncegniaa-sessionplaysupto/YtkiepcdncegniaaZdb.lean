import Derived.Test.YtkiepcdncegniaaZda
import Derived.Test.YtkiepcdncegniaaPk2
namespace Go.Proofs.Ytkiepcdncegniaa
open Go.RowKit Go.Maps

/-- Are two answers the same? -/
def gsameA (a b : AN) (F G : List F5) (H K : List SM) : Bool := (decide (a.cl = b.cl) && decide (a.nu = b.nu)) && sameA a b F G H K
set_option maxRecDepth 100000 in
set_option maxHeartbeats 16000000 in
theorem gsameAnswer_any (a b : AN) (F G : List F5) (H K : List SM) (w : World) (hF : Fds w a.fv F) (hG : Fds w b.fv G) (hH : Sms w a.hv H) (hK : Sms w b.hv K) (lF : F.length ≤ 1048576) (lH : H.length ≤ 1048576) :
    Calls Try.prog 25 #[.agg a.cs.toArray, .agg b.cs.toArray] w fun e w' => e = .returned (.bool (gsameA a b F G H K)) ∧ Fr (fun _ => False) w w' := by
  obtain ⟨acl, anu, aco, arc, ave, afv, ahv⟩ := a
  obtain ⟨bcl, bnu, bco, brc, bve, bfv, bhv⟩ := b
  simp only at hF hG hH hK
  have HE := hide (fun W (hf : Fr (fun _ => False) w W) => gfields_any afv bfv F G W (hF.fr hf) (hG.fr hf) lF)
  have HM := hide (fun W (hf : Fr (fun _ => False) w W) => And.intro (hH.fr hf) (hK.fr hf))
  clear hF hG lF
  simp only [AN.cs, gsameA, sameA]
  obtain ⟨b1, hb1⟩ : ∃ b1, sameL sameF F G = b1 := ⟨_, rfl⟩
  rw [hb1] at HE ⊢
  clear hb1
  obtain ⟨xo, xc, rfl⟩ := hH.form
  obtain ⟨yo, yc, rfl⟩ := hK.form
  clear hH hK
  by_cases hid : acl = bcl ∧ anu = bnu
  case neg =>
    have hbb : (decide (acl = bcl) && decide (anu = bnu)) = false := by
      cases hx : (decide (acl = bcl) && decide (anu = bnu)) with
      | false => rfl
      | true => simp only [Bool.and_eq_true, decide_eq_true_eq] at hx; exact absurd hx hid
    have hq : ∀ w : World, (binOp .neq 29 (.agg #[.int .u32 (acl : Nat), .int .u32 (anu : Nat)]) (.agg #[.int .u32 (bcl : Nat), .int .u32 (bnu : Nat)])).run Try.prog w = .ok (.bool true) w := fun w => by rw [neq_id, hbb]; rfl
    rw [hbb, Bool.false_and]
    clear hbb hid HE HM
    go_enter Try.func25, Try.ntmps25
    go_wp2_with fail
    go_ret
    exact ⟨rfl, (box1 w _).alloc _⟩
  obtain ⟨rfl, rfl⟩ := hid
  have hq : ∀ w : World, (binOp .neq 29 (.agg #[.int .u32 (acl : Nat), .int .u32 (anu : Nat)]) (.agg #[.int .u32 (acl : Nat), .int .u32 (anu : Nat)])).run Try.prog w = .ok (.bool false) w := fun w => by rw [neq_id]; simp
  rw [show (decide (acl = acl) && decide (anu = anu)) = true by simp, Bool.true_and]
  cases h1 : decide (aco = bco)
  · have eh1 : (((aco : Nat) : Int) == ((bco : Nat) : Int)) = false := by rw [nat_eq]; exact h1
    have gh1 : ¬ ((aco : Nat) : Int) = ((bco : Nat) : Int) := by have := of_decide_eq_false h1; omega
    go_enter Try.func25, Try.ntmps25
    go_wp2_with fail
    go_ret
    exact ⟨rfl, (box1 w _).alloc _⟩
  · obtain rfl : aco = bco := of_decide_eq_true h1
    clear h1
    cases h2 : decide (arc = brc)
    · have eh2 : (((arc : Nat) : Int) == ((brc : Nat) : Int)) = false := by rw [nat_eq]; exact h2
      have gh2 : ¬ ((arc : Nat) : Int) = ((brc : Nat) : Int) := by have := of_decide_eq_false h2; omega
      go_enter Try.func25, Try.ntmps25
      go_wp2_with fail
      go_ret
      exact ⟨rfl, (box1 w _).alloc _⟩
    · obtain rfl : arc = brc := of_decide_eq_true h2
      clear h2
      cases h3 : decide (ave = bve)
      · have eh3 : (((ave : Nat) : Int) == ((bve : Nat) : Int)) = false := by rw [nat_eq]; exact h3
        have gh3 : ¬ ((ave : Nat) : Int) = ((bve : Nat) : Int) := by have := of_decide_eq_false h3; omega
        go_enter Try.func25, Try.ntmps25
        go_wp2_with fail
        go_ret
        exact ⟨rfl, (box1 w _).alloc _⟩
      · obtain rfl : ave = bve := of_decide_eq_true h3
        clear h3
        cases b1
        · go_enter Try.func25, Try.ntmps25
          go_wp2_with fail
          refine ((unhide HE) _ ((box1 w _).alloc _)).mono ?_
          rintro e w2 ⟨rfl, hf2⟩
          go_wp2_with fail
          go_ret
          exact ⟨rfl, ((box1 w _).alloc _).trans0 hf2⟩
        · by_cases hne : H.length = K.length
          · rw [← hne] at HM ⊢
            obtain ⟨N, hN⟩ : ∃ N, H.length = N := ⟨_, rfl⟩
            have HN := hide (And.intro hN hne)
            rw [hN] at HM ⊢
            rw [hN] at lH
            clear hN hne
            obtain ⟨b, hb⟩ : ∃ b, sameL sameM H K = b := ⟨_, rfl⟩
            have HB := hide hb
            rw [hb, Bool.true_and]
            clear hb
            go_enter Try.func25, Try.ntmps25
            go_wp2_with fail
            refine ((unhide HE) _ ((box1 w _).alloc _)).mono ?_
            rintro e w2 ⟨rfl, hf2⟩
            obtain ⟨W1, hW1⟩ : ∃ W1, (w.alloc (.cells #[.int .u32 (acl : Nat), .int .u32 (anu : Nat), .int .u8 (aco : Nat), .int .u32 (arc : Nat), .int .u32 (ave : Nat), afv, (.slice xo N xc)] 44)).alloc (.cells #[.int .u32 (acl : Nat), .int .u32 (anu : Nat), .int .u8 (aco : Nat), .int .u32 (arc : Nat), .int .u32 (ave : Nat), bfv, (.slice yo N yc)] 44) = W1 := ⟨_, rfl⟩
            have hfw : Fr (fun _ => False) w W1 := by rw [← hW1]; exact (box1 w _).alloc _
            have k1 : W1.heap[w.heap.size]? = some (.cells #[.int .u32 (acl : Nat), .int .u32 (anu : Nat), .int .u8 (aco : Nat), .int .u32 (arc : Nat), .int .u32 (ave : Nat), afv, (.slice xo N xc)] 44) := by rw [← hW1]; exact (Below.heap_alloc _ _ _ (by simp)).trans (heap_alloc_new w _)
            have k2 : W1.heap[w.heap.size + 1]? = some (.cells #[.int .u32 (acl : Nat), .int .u32 (anu : Nat), .int .u8 (aco : Nat), .int .u32 (arc : Nat), .int .u32 (ave : Nat), bfv, (.slice yo N yc)] 44) := by
              rw [← hW1]
              have := heap_alloc_new (w.alloc (.cells #[.int .u32 (acl : Nat), .int .u32 (anu : Nat), .int .u8 (aco : Nat), .int .u32 (arc : Nat), .int .u32 (ave : Nat), afv, (.slice xo N xc)] 44)) (.cells #[.int .u32 (acl : Nat), .int .u32 (anu : Nat), .int .u8 (aco : Nat), .int .u32 (arc : Nat), .int .u32 (ave : Nat), bfv, (.slice yo N yc)] 44)
              rwa [World.size_alloc] at this
            rw [hW1] at hf2
            clear hW1
            have q1 : w2.cell? ⟨w.heap.size, 6, none⟩ = some (.slice xo N xc) := cell_of_blk ((hf2.block _ (lt_of_block k1) (fun h => h)).trans k1) rfl
            have q2 : w2.cell? ⟨w.heap.size + 1, 6, none⟩ = some (.slice yo N yc) := cell_of_blk ((hf2.block _ (lt_of_block k2) (fun h => h)).trans k2) rfl
            have HW2 := hide (hfw.trans0 hf2)
            clear hf2 hfw k1 k2
            go_wp2_with fail
            go_loopw [5] (fun iv wr => ∃ j : Nat, j ≤ N ∧ iv = .int .i64 (j : Nat) ∧ (∀ (i : Nat) f g, i < j → H[i]? = some f → K[i]? = some g → sameM f g = true) ∧ Fr (fun _ => False) w2 wr) (fun iv _ => N - (intOf iv).toNat)
            case atStart => exact ⟨0, Nat.zero_le _, rfl, fun i _ _ h => by omega, Fr.refl _ _⟩
            case round =>
              obtain ⟨j, hj, rfl, hall, hfr⟩ := hrel
              rename World => wr
              have HA := hide (And.intro hall hfr)
              clear hall
              replace q1 := (hfr.cell (p := ⟨w.heap.size, 6, none⟩) (lt_of_cell q1) (fun h => h)).trans q1
              replace q2 := (hfr.cell (p := ⟨w.heap.size + 1, 6, none⟩) (lt_of_cell q2) (fun h => h)).trans q2
              by_cases hlt : j < N
              · have hN := (unhide HN).1
                have hG := (unhide HN).2
                obtain ⟨f, hf⟩ : ∃ f, H[j]? = some f := ⟨_, List.getElem?_eq_getElem (by omega)⟩
                obtain ⟨g, hg⟩ : ∃ g, K[j]? = some g := ⟨_, List.getElem?_eq_getElem (by omega)⟩
                have hm := (unhide HM) wr ((unhide HW2).trans0 hfr)
                obtain ⟨g1, o1, rfl, c0, c1, c2, c3⟩ := hm.1.at_ j (by omega)
                obtain ⟨g2, o2, rfl, d0, d1, d2, d3⟩ := hm.2.at_ j (by omega)
                have e1 : H[j]'(by omega) = f := (List.getElem?_eq_some_iff.1 hf).2
                have e2 : K[j]'(by omega) = g := (List.getElem?_eq_some_iff.1 hg).2
                rw [e1] at c0 c1 c2 c3
                rw [e2] at d0 d1 d2 d3
                have HE := hide (And.intro hf hg)
                have hjj : (0 : Int) ≤ (j : Int) := by omega
                clear e1 e2 hf hg hfr hN hG hm
                cases hs : sameM f g
                · have hq : ∀ w : World, (binOp .neq 81 (.agg #[.int .u32 (f.au : Nat), .int .u32 (f.ev : Nat), .int .u32 (f.nf : Nat), .bool f.rd]) (.agg #[.int .u32 (g.au : Nat), .int .u32 (g.ev : Nat), .int .u32 (g.nf : Nat), .bool g.rd])).run Try.prog w = .ok (.bool true) w := fun w => by rw [neq_sm, hs]; rfl
                  obtain rfl : b = false := (unhide HB).symm.trans (sameL_at (unhide HE).1 (unhide HE).2 hs)
                  clear hs
                  go_wp2_with fail
                  go_quiet (fail)
                  go_wp2_with fail
                  go_ret
                  exact ⟨rfl, (unhide HW2).trans0 ((unhide HA).2.drewN _)⟩
                · have hq : ∀ w : World, (binOp .neq 81 (.agg #[.int .u32 (f.au : Nat), .int .u32 (f.ev : Nat), .int .u32 (f.nf : Nat), .bool f.rd]) (.agg #[.int .u32 (g.au : Nat), .int .u32 (g.ev : Nat), .int .u32 (g.nf : Nat), .bool g.rd])).run Try.prog w = .ok (.bool false) w := fun w => by rw [neq_sm, hs]; rfl
                  have HS := hide hs
                  clear hs
                  go_wp2_with fail
                  go_quiet (fail)
                  go_wp2_with fail
                  go_roundw
                  case rel =>
                    refine ⟨j + 1, by omega, by go_num, fun i f' g' hi hf hg => ?_, (unhide HA).2.drewN _⟩
                    by_cases e : i < j
                    · exact (unhide HA).1 i f' g' e hf hg
                    · obtain rfl : i = j := by omega
                      rw [(unhide HE).1] at hf
                      rw [(unhide HE).2] at hg
                      cases hf
                      cases hg
                      exact unhide HS
                  case measure => simp [intOf]; omega
              · obtain rfl : b = true := (unhide HB).symm.trans (sameL_all (unhide HN).2 (fun i f g hf hg => (unhide HA).1 i f g (by have h1 := (List.getElem?_eq_some_iff.1 hf).1; have h2 := (unhide HN).1; omega) hf hg))
                obtain rfl : j = N := by omega
                clear hfr hlt hj
                go_wp2_with fail
                go_ret
                exact ⟨rfl, (unhide HW2).trans0 (unhide HA).2⟩
          · rw [sameL_ne hne, Bool.and_false]
            have hne2 : ¬ (H.length : Int) = (K.length : Int) := by omega
            obtain ⟨N, hN⟩ : ∃ N, H.length = N := ⟨_, rfl⟩
            obtain ⟨M, hM⟩ : ∃ M, K.length = M := ⟨_, rfl⟩
            rw [hN, hM] at hne2 ⊢
            rw [hN, hM] at HM
            rw [hN] at lH
            clear HM hN hM hne
            go_enter Try.func25, Try.ntmps25
            go_wp2_with fail
            refine ((unhide HE) _ ((box1 w _).alloc _)).mono ?_
            rintro e w2 ⟨rfl, hf2⟩
            obtain ⟨W1, hW1⟩ : ∃ W1, (w.alloc (.cells #[.int .u32 (acl : Nat), .int .u32 (anu : Nat), .int .u8 (aco : Nat), .int .u32 (arc : Nat), .int .u32 (ave : Nat), afv, (.slice xo N xc)] 44)).alloc (.cells #[.int .u32 (acl : Nat), .int .u32 (anu : Nat), .int .u8 (aco : Nat), .int .u32 (arc : Nat), .int .u32 (ave : Nat), bfv, (.slice yo M yc)] 44) = W1 := ⟨_, rfl⟩
            have hfw : Fr (fun _ => False) w W1 := by rw [← hW1]; exact (box1 w _).alloc _
            have k1 : W1.heap[w.heap.size]? = some (.cells #[.int .u32 (acl : Nat), .int .u32 (anu : Nat), .int .u8 (aco : Nat), .int .u32 (arc : Nat), .int .u32 (ave : Nat), afv, (.slice xo N xc)] 44) := by rw [← hW1]; exact (Below.heap_alloc _ _ _ (by simp)).trans (heap_alloc_new w _)
            have k2 : W1.heap[w.heap.size + 1]? = some (.cells #[.int .u32 (acl : Nat), .int .u32 (anu : Nat), .int .u8 (aco : Nat), .int .u32 (arc : Nat), .int .u32 (ave : Nat), bfv, (.slice yo M yc)] 44) := by
              rw [← hW1]
              have := heap_alloc_new (w.alloc (.cells #[.int .u32 (acl : Nat), .int .u32 (anu : Nat), .int .u8 (aco : Nat), .int .u32 (arc : Nat), .int .u32 (ave : Nat), afv, (.slice xo N xc)] 44)) (.cells #[.int .u32 (acl : Nat), .int .u32 (anu : Nat), .int .u8 (aco : Nat), .int .u32 (arc : Nat), .int .u32 (ave : Nat), bfv, (.slice yo M yc)] 44)
              rwa [World.size_alloc] at this
            rw [hW1] at hf2
            clear hW1
            have q1 : w2.cell? ⟨w.heap.size, 6, none⟩ = some (.slice xo N xc) := cell_of_blk ((hf2.block _ (lt_of_block k1) (fun h => h)).trans k1) rfl
            have q2 : w2.cell? ⟨w.heap.size + 1, 6, none⟩ = some (.slice yo M yc) := cell_of_blk ((hf2.block _ (lt_of_block k2) (fun h => h)).trans k2) rfl
            have HW2 := hide (hfw.trans0 hf2)
            clear hf2 hfw k1 k2
            go_wp2_with fail
            go_ret
            exact ⟨rfl, unhide HW2⟩
theorem sameL_refl {α : Type} {e : α → α → Bool} (he : ∀ x, e x x = true) : ∀ F : List α, sameL e F F = true
  | [] => rfl
  | f :: r => by simp [sameL, he, sameL_refl he r]
theorem sameF_refl (f : F5) : sameF f f = true := by simp [sameF]
theorem sameM_refl (f : SM) : sameM f f = true := by simp [sameM]
/-- An answer is the same as itself, wherever its lists lie. -/
theorem gsameA_refl (a b : AN) (F : List F5) (H : List SM) (h1 : a.cl = b.cl) (h2 : a.nu = b.nu) (h3 : a.co = b.co) (h4 : a.rc = b.rc) (h5 : a.ve = b.ve) : gsameA a b F F H H = true := by
  simp [gsameA, sameA, h1, h2, h3, h4, h5, sameL_refl sameF_refl, sameL_refl sameM_refl]
end Go.Proofs.Ytkiepcdncegniaa

