import Derived.Test.YtficeloegepdkaaPos
import Derived.Test.YtficeloegepdkaaPor
namespace Go.Proofs.Ytficeloegepdkaa
open Go.RowKit

set_option maxHeartbeats 2000000 in
set_option maxRecDepth 100000 in
/-- The law's left. -/
theorem left_any (av lv : Value) (l : List P3) (wd ow : Nat) (sl : Bool) (pv' sv' : Value) (G : List Nat) (w : World) (ha : MkS w av l) (hl : Stf w lv l) (hp : MkU w pv' G) (hs : Us w sv' G) (hn : l.length ≤ 1048575) (hg : G.length ≤ 1048575) :
    Calls Try.prog 29 #[av, lv, .agg #[.int .u32 (wd : Nat), .int .u32 (ow : Nat), .bool sl, pv'], .agg #[.int .u32 (wd : Nat), .int .u32 (ow : Nat), .bool sl, sv']] w fun e w' => e = .returned (.bool true) ∧ Fr (fun _ => False) w w' := by
  have HA := hide ha
  have HL := hide hl
  have HP := hide hp
  have HS := hide hs
  obtain ⟨ga, ca, rfl, ha1, ha2, -⟩ := ha.at_
  obtain ⟨gp, cp, rfl, hp1, hp2, -⟩ := hp.at_
  obtain ⟨xo, xc, rfl⟩ := hl.form
  obtain ⟨so, sc, rfl⟩ := hs.form
  clear ha hl hp hs
  have ne := ne_staff
  go_enter Try.func29, Try.ntmps29
  go_wp2_with fail
  obtain ⟨W, hW⟩ : ∃ W, (w.alloc (.cells #[.int .u32 (wd : Nat), .int .u32 (ow : Nat), .bool sl, .slice (some ⟨gp, 0, none⟩) G.length cp] 29)).alloc (.cells #[.int .u32 (wd : Nat), .int .u32 (ow : Nat), .bool sl, .slice so G.length sc] 46) = W := ⟨_, rfl⟩
  have hf1 : Fr (fun _ => False) w W := by rw [← hW]; exact ((Fr.refl _ _).alloc _).alloc _
  have hb1 : W.heap[w.heap.size]? = some (.cells #[.int .u32 (wd : Nat), .int .u32 (ow : Nat), .bool sl, .slice (some ⟨gp, 0, none⟩) G.length cp] 29) := by
    rw [← hW]; exact (Below.heap_alloc _ _ _ (by simp)).trans Array.getElem?_push_size
  have hb2 : W.heap[w.heap.size + 1]? = some (.cells #[.int .u32 (wd : Nat), .int .u32 (ow : Nat), .bool sl, .slice so G.length sc] 46) := by
    rw [← hW]
    have h0 : (w.alloc (.cells #[.int .u32 (wd : Nat), .int .u32 (ow : Nat), .bool sl, .slice (some ⟨gp, 0, none⟩) G.length cp] 29)).heap.size = w.heap.size + 1 := by simp
    rw [← h0]
    exact Array.getElem?_push_size
  have B1 : W.cell? ⟨w.heap.size, 3, none⟩ = some (.slice (some ⟨gp, 0, none⟩) G.length cp) := by simp only [World.cell?, hb1]; rfl
  have B2 : W.cell? ⟨w.heap.size + 1, 3, none⟩ = some (.slice so G.length sc) := by simp only [World.cell?, hb2]; rfl
  have HB := hide (And.intro B1 B2)
  have HW := hide hf1
  have HA1 := hide ((unhide HA).fr hf1)
  have HL1 := hide ((unhide HL).fr hf1)
  have HP1 := hide ((unhide HP).fr hf1)
  have HS1 := hide ((unhide HS).fr hf1)
  rw [hW]
  clear hW hf1 hb1 hb2 B1 B2 HA HL HP HS
  go_loopw [9] (fun iv wr => ∃ j : Nat, j ≤ l.length ∧ iv = .int .i64 (j : Nat) ∧ Fr (fun _ => False) W wr) (fun iv _ => l.length - (intOf iv).toNat)
  case atStart => exact ⟨0, Nat.zero_le _, rfl, Fr.refl _ _⟩
  case round =>
    obtain ⟨j, hj, rfl, hfr⟩ := hrel
    have HF := hide hfr
    by_cases hlt : j < l.length
    · obtain ⟨g, o, e0, c0, c1, c2⟩ := ((unhide HA1).fr hfr).stf.at_ j hlt
      obtain ⟨rfl, rfl⟩ : ga = g ∧ 0 = o := by simpa using e0
      obtain ⟨g', o', rfl, d0, d1, d2⟩ := ((unhide HL1).fr hfr).at_ j hlt
      obtain ⟨P, hPe⟩ : ∃ P, l[j] = P := ⟨_, rfl⟩
      rw [hPe] at c0 c1 c2 d0 d1 d2
      obtain ⟨pa, pr, pw⟩ := P
      simp only [Nat.zero_add] at c0 c1 c2
      simp only at d0 d1 d2
      clear hPe hfr e0
      go_wp2_with fail
      go_quiet (fail)
      go_wp2_with fail
      go_roundw
      case rel => exact ⟨j + 1, hlt, by go_num, (unhide HF).drewN _⟩
      case measure => simp [intOf]; omega
    · clear hfr
      go_wp2_with fail
      go_loopw [10] (fun iv wq => ∃ i : Nat, i ≤ G.length ∧ iv = .int .i64 (i : Nat) ∧ Fr (fun _ => False) W wq) (fun iv _ => G.length - (intOf iv).toNat)
      case atStart => exact ⟨0, Nat.zero_le _, rfl, unhide HF⟩
      case round =>
        obtain ⟨i, hi, rfl, hfq⟩ := hrel
        have HQ := hide hfq
        have b1 := (hfq.cell (p := ⟨w.heap.size, 3, none⟩) (lt_of_cell (unhide HB).1) (fun h => h)).trans (unhide HB).1
        have b2 := (hfq.cell (p := ⟨w.heap.size + 1, 3, none⟩) (lt_of_cell (unhide HB).2) (fun h => h)).trans (unhide HB).2
        by_cases hlg : i < G.length
        · obtain ⟨g, o, e0, c0⟩ := ((unhide HP1).fr hfq).us.at_ i hlg
          obtain ⟨rfl, rfl⟩ : gp = g ∧ 0 = o := by simpa using e0
          obtain ⟨g', o', rfl, d0⟩ := ((unhide HS1).fr hfq).at_ i hlg
          obtain ⟨P, hPe⟩ : ∃ P, G[i] = P := ⟨_, rfl⟩
          rw [hPe] at c0 d0
          simp only [Nat.zero_add] at c0
          clear hPe hfq e0
          go_wp2_with fail
          go_quiet (fail)
          go_wp2_with fail
          go_roundw
          case rel => exact ⟨i + 1, hlg, by go_num, (unhide HQ).drewN _⟩
          case measure => simp [intOf]; omega
        · obtain ⟨g, cap, e1, m1, m2, m3⟩ := ((unhide HA1).fr hfq).at_
          obtain ⟨g2, cap2, e2, n1, n2, n3⟩ := ((unhide HP1).fr hfq).at_
          obtain ⟨rfl, rfl⟩ : ga = g ∧ ca = cap := by simpa using e1
          obtain ⟨rfl, rfl⟩ : gp = g2 ∧ cp = cap2 := by simpa using e2
          have c0 := m3 (l.length * 3) (.int .u32 77) (by
            have := (pcells_at (l ++ [⟨77, 77, 77⟩]) l.length (by simp)).1
            rw [this]; simp)
          have d0 := n3 G.length (.int .u32 77) (by simp [ucells])
          have s0 : (0 : Int) ≤ (l.length : Int) + 1 := by omega
          have s1 : (l.length : Int) + 1 ≤ (ca : Int) := by omega
          have s2 : (0 : Int) ≤ (G.length : Int) + 1 := by omega
          have s3 : (G.length : Int) + 1 ≤ (cp : Int) := by omega
          clear hfq e1 e2 m1 m2 m3 n1 n2 n3
          go_wp2_with fail
          go_quiet (fail)
          go_wp2_with fail
          go_ret
          exact ⟨rfl, (unhide HW).trans ((unhide HQ).drewN _) (fun _ _ h => h)⟩
end Go.Proofs.Ytficeloegepdkaa
