import Derived.Test.YtmmaddlphclpnaaGreatDoorPk2
import Derived.Test.YtmmaddlphclpnaaGreatDoorPk1
import Derived.Test.YtmmaddlphclpnaaGreatDoorDkr
import Derived.Test.YtmmaddlphclpnaaGreatDoorCards
import Derived.Test.YtmmaddlphclpnaaGreatDoorTie
import Derived.Deep.DeepWitnessRowRef
import Derived.Lib.TrailingZeros
import Derived.Lib.ItoaNum
namespace Go.Proofs.YtmmaddlphclpnaaGreatDoor
open Go.RowKit Go.ChangeShapes Go.WideShapes Go.Maps Go.Sort

set_option maxHeartbeats 4000000 in
set_option maxRecDepth 100000 in
/-- begun. -/
theorem begun_pos (w : World) (size synced : Int) (xo : Option Addr) (xc : Nat) (pays : List (List Nat)) (W : World) (hw : Fr (fun _ => False) w W) (hP : KJ w xo pays) (hl : pays.length < 9223372036854775808) (hneg : ¬ size.tmod 500 < 0) :
    Calls Tryz.prog 31 #[.int .i64 size, .slice xo pays.length xc, .int .i64 synced] W fun e W' => ∃ l d m kv, e = .returned (.tuple #[.pointer (some ⟨d, 0, none⟩), .pointer (some ⟨l, 0, none⟩), .int .i64 (segZ size : Nat), kv]) ∧ BI w W' l d m (segZ size) kv (kps (segZ size) pays (min pays.length 60)) 60 (decide (synced < 0)) := by
  have hz := segZ_lt size
  obtain ⟨Z, hZ⟩ : ∃ Z, Z = segZ size := ⟨_, rfl⟩
  rw [← hZ] at hz ⊢
  have hA1 : IntKind.i64.wrap (size.tmod 500 + 16) = (Z : Int) := by rw [IntKind.wrap_i64]; unfold segZ at hZ; omega
  have HP := hide (And.intro hw hP)
  clear hZ hw hP
  go_enter Tryz.func31, Tryz.ntmps31
  go_wp2_with fail
  refine (new_any 1048576 W (by decide) (by decide)).mono ?_
  rintro e w2 ⟨d, m, q, O, rfl, hD2, hf2, hO2⟩
  have H2 := hide (DS.mk (w := w) hD2 ((unhide HP).1.trans hf2 (fun _ _ h => h)) (fun k hk => Nat.le_trans (unhide HP).1.size (hO2 k hk)))
  clear hD2 hf2 hO2
  go_wp2_with fail
  refine (open_new w d m Z _ q O sLog w2 (unhide H2) (by decide) (by decide) (by omega) (by omega) rfl rfl (by decide)).mono ?_
  rintro e w3 ⟨l, rfl, fb, q3, O3, sv3, hW3⟩
  have H3 := hide (BI.start hW3 (by omega) (decide (synced < 0)))
  clear hW3 H2
  go_wp2_with fail
  go_loopw [14, 15] (fun kv iv wr => ∃ k : Nat, iv = .int .i64 (k : Nat) ∧ k ≤ pays.length ∧ k ≤ 60 ∧ BI w wr l d m Z kv (kps Z pays k) k (decide (synced < 0))) (fun _ iv _ => 60 - (intOf iv).toNat)
  case atStart => exact ⟨0, rfl, Nat.zero_le _, Nat.zero_le _, unhide H3⟩
  case round =>
    obtain ⟨k, rfl, hk1, hk2, hB⟩ := hrel
    obtain ⟨ao, cap, rfl⟩ := hB.kv
    have hkn := kps_len Z pays k hk1
    rw [hkn] at hB ⊢
    by_cases hkl : k < pays.length ∧ k < 60
    · obtain ⟨hk3, hk4⟩ := hkl
      obtain ⟨g, o, ho, hc, hxo, hcell, hsrc, hcap, hplen⟩ := (unhide HP).2.at hB.fr hk3
      have hks := kps_succ Z pays k hk3
      generalize hPP : pays[k] = P at hcell hsrc hcap hplen hks
      clear hPP
      obtain ⟨N, hN⟩ : ∃ N, N = (P.take (Z - 12)).length := ⟨_, rfl⟩
      have hNm : N = min (Z - 12) P.length := by rw [hN, List.length_take]
      have hsrcN : Src w (.slice ho N hc) (P.take (Z - 12)) := by
        have := hsrc.takeN (min (Z - 12) P.length) (by omega)
        rw [take_min, ← hNm] at this
        exact this
      have hAp := hB.append (.slice ho N hc) (P.take (Z - 12)) hsrcN (by omega) (by omega) (by omega)
      rw [hkn] at hAp
      have HA := hide hAp
      have HQ : Hid (∀ W' kv', kv' = Value.slice ao k cap → (∃ s q O sv pv I ps j us, WL w W' l d m (LM.of sLog Z (I ++ [ps])) s q O sv pv ∧ LS s Z I ps j (k + 1) ∧ I.flatten ++ ps = kps Z pays k ++ [P.take (Z - 12)] ∧ KV w W' kv' (kps Z pays k) us ∧ (∀ g, kv'.ownBlock = some g → ¬ Ours l O sv pv g) ∧ (decide (synced < 0) = true → j = 0)) → ∃ ao' cap' w', (Builtin.append_ #[67, 67] 67 #[.slice ao k cap, .slice (some ⟨W'.heap.size, 0, none⟩) 1 1]).run Tryz.prog (W'.alloc (.cells #[.slice ho N hc] 35)) = .ok (.slice ao' (k + 1) cap') w' ∧ BI w w' l d m Z (.slice ao' (k + 1) cap') (kps Z pays (k + 1)) (k + 1) (decide (synced < 0))) := fun W' kv' ek hex => by
        subst ek
        have := kept_more hex (by rw [← hN]; exact hsrcN) (by rw [← hN]; omega) (by omega)
        rw [hkn, ← hks, ← hN] at this
        exact this
      have hi1 : (k : Int) < (pays.length : Int) := by omega
      have hi2 : (k : Int) < 60 := by omega
      have hw12 : IntKind.i64.wrap ((Z : Int) - 12) = (Z : Int) - 12 := by rw [IntKind.wrap_i64]; omega
      have HKS := hide (And.intro hkn hks)
      clear hAp hsrc hB hks hkn hsrcN hN
      subst hxo
      by_cases hbig : (Z : Int) - 12 < (P.length : Int)
      · have s0 : (0 : Int) ≤ (Z : Int) - 12 := by omega
        have s1 : (Z : Int) - 12 ≤ (hc : Int) := by omega
        have s3 : ((Z : Int) - 12).toNat = N := by omega
        clear hplen hcap hNm
        go_wp2_with fail
        refine (unhide HA).mono ?_
        rintro e w4 ⟨rfl, hex⟩
        obtain ⟨ao2, cap2, w5, hr5, hB5⟩ := (unhide HQ) w4 _ rfl hex
        have HR5 := hide hr5
        have H5 := hide hB5
        clear hex hr5 hB5 HA HQ
        by_cases hsy : (k : Int) = synced
        · subst hsy
          go_wp2_with (at_builtin; refine wpList_app rfl _ _ 67 67 rfl _ _ _ rfl rfl (unhide HR5) ?_; clear HR5)
          refine (unhide H5).sync.mono ?_
          rintro e w6 ⟨rfl, hB6⟩
          have H6 := hide (hB6.weak (decide ((k : Int) < 0)) (fun e => absurd (of_decide_eq_true e) (by omega)))
          clear hB6 H5
          go_wp2_with fail
          exact ⟨⟨k + 1, by simp, by omega, by omega, unhide H6⟩, by simp only [intOf]; omega⟩
        · go_wp2_with (at_builtin; refine wpList_app rfl _ _ 67 67 rfl _ _ _ rfl rfl (unhide HR5) ?_; clear HR5)
          exact ⟨⟨k + 1, by simp, by omega, by omega, unhide H5⟩, by simp only [intOf]; omega⟩
      · have hNP : N = P.length := by omega
        subst hNP
        clear hplen hcap hNm
        go_wp2_with fail
        refine (unhide HA).mono ?_
        rintro e w4 ⟨rfl, hex⟩
        obtain ⟨ao2, cap2, w5, hr5, hB5⟩ := (unhide HQ) w4 _ rfl hex
        have HR5 := hide hr5
        have H5 := hide hB5
        clear hex hr5 hB5 HA HQ
        by_cases hsy : (k : Int) = synced
        · subst hsy
          go_wp2_with (at_builtin; refine wpList_app rfl _ _ 67 67 rfl _ _ _ rfl rfl (unhide HR5) ?_; clear HR5)
          refine (unhide H5).sync.mono ?_
          rintro e w6 ⟨rfl, hB6⟩
          have H6 := hide (hB6.weak (decide ((k : Int) < 0)) (fun e => absurd (of_decide_eq_true e) (by omega)))
          clear hB6 H5
          go_wp2_with fail
          exact ⟨⟨k + 1, by simp, by omega, by omega, unhide H6⟩, by simp only [intOf]; omega⟩
        · go_wp2_with (at_builtin; refine wpList_app rfl _ _ 67 67 rfl _ _ _ rfl rfl (unhide HR5) ?_; clear HR5)
          exact ⟨⟨k + 1, by simp, by omega, by omega, unhide H5⟩, by simp only [intOf]; omega⟩
    · have hmin : min pays.length 60 = k := by omega
      have hB2 := hide (And.intro hB hmin)
      have hnot : ¬ ((k : Int) < (pays.length : Int) ∧ (k : Int) < 60) := by omega
      clear hB hkn hmin
      by_cases hi1 : (k : Int) < (pays.length : Int)
      · have hi2 : ¬ (k : Int) < 60 := by omega
        go_wp2_with fail
        refine bodyPost_ret (results4 rfl _ _ _) rfl ?_
        exact ⟨l, d, m, _, rfl, by rw [(unhide hB2).2]; exact (unhide hB2).1.upV hk2⟩
      · go_wp2_with fail
        refine bodyPost_ret (results4 rfl _ _ _) rfl ?_
        exact ⟨l, d, m, _, rfl, by rw [(unhide hB2).2]; exact (unhide hB2).1.upV hk2⟩
end Go.Proofs.YtmmaddlphclpnaaGreatDoor

namespace Go.Proofs.YtmmaddlphclpnaaGreatDoor
open Go.RowKit Go.ChangeShapes Go.WideShapes Go.Maps Go.Sort

set_option maxHeartbeats 4000000 in
set_option maxRecDepth 100000 in
/-- begun. -/
theorem begun_neg (w : World) (size synced : Int) (xo : Option Addr) (xc : Nat) (pays : List (List Nat)) (W : World) (hw : Fr (fun _ => False) w W) (hP : KJ w xo pays) (hl : pays.length < 9223372036854775808) (hneg : size.tmod 500 < 0) :
    Calls Tryz.prog 31 #[.int .i64 size, .slice xo pays.length xc, .int .i64 synced] W fun e W' => ∃ l d m kv, e = .returned (.tuple #[.pointer (some ⟨d, 0, none⟩), .pointer (some ⟨l, 0, none⟩), .int .i64 (segZ size : Nat), kv]) ∧ BI w W' l d m (segZ size) kv (kps (segZ size) pays (min pays.length 60)) 60 (decide (synced < 0)) := by
  have hz := segZ_lt size
  obtain ⟨Z, hZ⟩ : ∃ Z, Z = segZ size := ⟨_, rfl⟩
  rw [← hZ] at hz ⊢
  have hB1 : IntKind.i64.wrap (-size.tmod 500) = -size.tmod 500 := by rw [IntKind.wrap_i64]; unfold segZ at hZ; omega
  have hB2 : IntKind.i64.wrap (-size.tmod 500 + 16) = (Z : Int) := by rw [IntKind.wrap_i64]; unfold segZ at hZ; omega
  have HP := hide (And.intro hw hP)
  clear hZ hw hP
  go_enter Tryz.func31, Tryz.ntmps31
  go_wp2_with fail
  refine (new_any 1048576 W (by decide) (by decide)).mono ?_
  rintro e w2 ⟨d, m, q, O, rfl, hD2, hf2, hO2⟩
  have H2 := hide (DS.mk (w := w) hD2 ((unhide HP).1.trans hf2 (fun _ _ h => h)) (fun k hk => Nat.le_trans (unhide HP).1.size (hO2 k hk)))
  clear hD2 hf2 hO2
  go_wp2_with fail
  refine (open_new w d m Z _ q O sLog w2 (unhide H2) (by decide) (by decide) (by omega) (by omega) rfl rfl (by decide)).mono ?_
  rintro e w3 ⟨l, rfl, fb, q3, O3, sv3, hW3⟩
  have H3 := hide (BI.start hW3 (by omega) (decide (synced < 0)))
  clear hW3 H2
  go_wp2_with fail
  go_loopw [14, 15] (fun kv iv wr => ∃ k : Nat, iv = .int .i64 (k : Nat) ∧ k ≤ pays.length ∧ k ≤ 60 ∧ BI w wr l d m Z kv (kps Z pays k) k (decide (synced < 0))) (fun _ iv _ => 60 - (intOf iv).toNat)
  case atStart => exact ⟨0, rfl, Nat.zero_le _, Nat.zero_le _, unhide H3⟩
  case round =>
    obtain ⟨k, rfl, hk1, hk2, hB⟩ := hrel
    obtain ⟨ao, cap, rfl⟩ := hB.kv
    have hkn := kps_len Z pays k hk1
    rw [hkn] at hB ⊢
    by_cases hkl : k < pays.length ∧ k < 60
    · obtain ⟨hk3, hk4⟩ := hkl
      obtain ⟨g, o, ho, hc, hxo, hcell, hsrc, hcap, hplen⟩ := (unhide HP).2.at hB.fr hk3
      have hks := kps_succ Z pays k hk3
      generalize hPP : pays[k] = P at hcell hsrc hcap hplen hks
      clear hPP
      obtain ⟨N, hN⟩ : ∃ N, N = (P.take (Z - 12)).length := ⟨_, rfl⟩
      have hNm : N = min (Z - 12) P.length := by rw [hN, List.length_take]
      have hsrcN : Src w (.slice ho N hc) (P.take (Z - 12)) := by
        have := hsrc.takeN (min (Z - 12) P.length) (by omega)
        rw [take_min, ← hNm] at this
        exact this
      have hAp := hB.append (.slice ho N hc) (P.take (Z - 12)) hsrcN (by omega) (by omega) (by omega)
      rw [hkn] at hAp
      have HA := hide hAp
      have HQ : Hid (∀ W' kv', kv' = Value.slice ao k cap → (∃ s q O sv pv I ps j us, WL w W' l d m (LM.of sLog Z (I ++ [ps])) s q O sv pv ∧ LS s Z I ps j (k + 1) ∧ I.flatten ++ ps = kps Z pays k ++ [P.take (Z - 12)] ∧ KV w W' kv' (kps Z pays k) us ∧ (∀ g, kv'.ownBlock = some g → ¬ Ours l O sv pv g) ∧ (decide (synced < 0) = true → j = 0)) → ∃ ao' cap' w', (Builtin.append_ #[67, 67] 67 #[.slice ao k cap, .slice (some ⟨W'.heap.size, 0, none⟩) 1 1]).run Tryz.prog (W'.alloc (.cells #[.slice ho N hc] 35)) = .ok (.slice ao' (k + 1) cap') w' ∧ BI w w' l d m Z (.slice ao' (k + 1) cap') (kps Z pays (k + 1)) (k + 1) (decide (synced < 0))) := fun W' kv' ek hex => by
        subst ek
        have := kept_more hex (by rw [← hN]; exact hsrcN) (by rw [← hN]; omega) (by omega)
        rw [hkn, ← hks, ← hN] at this
        exact this
      have hi1 : (k : Int) < (pays.length : Int) := by omega
      have hi2 : (k : Int) < 60 := by omega
      have hw12 : IntKind.i64.wrap ((Z : Int) - 12) = (Z : Int) - 12 := by rw [IntKind.wrap_i64]; omega
      have HKS := hide (And.intro hkn hks)
      clear hAp hsrc hB hks hkn hsrcN hN
      subst hxo
      by_cases hbig : (Z : Int) - 12 < (P.length : Int)
      · have s0 : (0 : Int) ≤ (Z : Int) - 12 := by omega
        have s1 : (Z : Int) - 12 ≤ (hc : Int) := by omega
        have s3 : ((Z : Int) - 12).toNat = N := by omega
        clear hplen hcap hNm
        go_wp2_with fail
        refine (unhide HA).mono ?_
        rintro e w4 ⟨rfl, hex⟩
        obtain ⟨ao2, cap2, w5, hr5, hB5⟩ := (unhide HQ) w4 _ rfl hex
        have HR5 := hide hr5
        have H5 := hide hB5
        clear hex hr5 hB5 HA HQ
        by_cases hsy : (k : Int) = synced
        · subst hsy
          go_wp2_with (at_builtin; refine wpList_app rfl _ _ 67 67 rfl _ _ _ rfl rfl (unhide HR5) ?_; clear HR5)
          refine (unhide H5).sync.mono ?_
          rintro e w6 ⟨rfl, hB6⟩
          have H6 := hide (hB6.weak (decide ((k : Int) < 0)) (fun e => absurd (of_decide_eq_true e) (by omega)))
          clear hB6 H5
          go_wp2_with fail
          exact ⟨⟨k + 1, by simp, by omega, by omega, unhide H6⟩, by simp only [intOf]; omega⟩
        · go_wp2_with (at_builtin; refine wpList_app rfl _ _ 67 67 rfl _ _ _ rfl rfl (unhide HR5) ?_; clear HR5)
          exact ⟨⟨k + 1, by simp, by omega, by omega, unhide H5⟩, by simp only [intOf]; omega⟩
      · have hNP : N = P.length := by omega
        subst hNP
        clear hplen hcap hNm
        go_wp2_with fail
        refine (unhide HA).mono ?_
        rintro e w4 ⟨rfl, hex⟩
        obtain ⟨ao2, cap2, w5, hr5, hB5⟩ := (unhide HQ) w4 _ rfl hex
        have HR5 := hide hr5
        have H5 := hide hB5
        clear hex hr5 hB5 HA HQ
        by_cases hsy : (k : Int) = synced
        · subst hsy
          go_wp2_with (at_builtin; refine wpList_app rfl _ _ 67 67 rfl _ _ _ rfl rfl (unhide HR5) ?_; clear HR5)
          refine (unhide H5).sync.mono ?_
          rintro e w6 ⟨rfl, hB6⟩
          have H6 := hide (hB6.weak (decide ((k : Int) < 0)) (fun e => absurd (of_decide_eq_true e) (by omega)))
          clear hB6 H5
          go_wp2_with fail
          exact ⟨⟨k + 1, by simp, by omega, by omega, unhide H6⟩, by simp only [intOf]; omega⟩
        · go_wp2_with (at_builtin; refine wpList_app rfl _ _ 67 67 rfl _ _ _ rfl rfl (unhide HR5) ?_; clear HR5)
          exact ⟨⟨k + 1, by simp, by omega, by omega, unhide H5⟩, by simp only [intOf]; omega⟩
    · have hmin : min pays.length 60 = k := by omega
      have hB2 := hide (And.intro hB hmin)
      have hnot : ¬ ((k : Int) < (pays.length : Int) ∧ (k : Int) < 60) := by omega
      clear hB hkn hmin
      by_cases hi1 : (k : Int) < (pays.length : Int)
      · have hi2 : ¬ (k : Int) < 60 := by omega
        go_wp2_with fail
        refine bodyPost_ret (results4 rfl _ _ _) rfl ?_
        exact ⟨l, d, m, _, rfl, by rw [(unhide hB2).2]; exact (unhide hB2).1.upV hk2⟩
      · go_wp2_with fail
        refine bodyPost_ret (results4 rfl _ _ _) rfl ?_
        exact ⟨l, d, m, _, rfl, by rw [(unhide hB2).2]; exact (unhide hB2).1.upV hk2⟩
end Go.Proofs.YtmmaddlphclpnaaGreatDoor

namespace Go.Proofs.YtmmaddlphclpnaaGreatDoor
open Go.RowKit Go.ChangeShapes Go.WideShapes Go.Maps Go.Sort

theorem begun_any (w : World) (size synced : Int) (xo : Option Addr) (xc : Nat) (pays : List (List Nat)) (W : World) (hw : Fr (fun _ => False) w W) (hP : KJ w xo pays) (hl : pays.length < 9223372036854775808) :
    Calls Tryz.prog 31 #[.int .i64 size, .slice xo pays.length xc, .int .i64 synced] W fun e W' => ∃ l d m kv, e = .returned (.tuple #[.pointer (some ⟨d, 0, none⟩), .pointer (some ⟨l, 0, none⟩), .int .i64 (segZ size : Nat), kv]) ∧ BI w W' l d m (segZ size) kv (kps (segZ size) pays (min pays.length 60)) 60 (decide (synced < 0)) := by
  by_cases h : size.tmod 500 < 0
  · exact begun_neg w size synced xo xc pays W hw hP hl h
  · exact begun_pos w size synced xo xc pays W hw hP hl h
end Go.Proofs.YtmmaddlphclpnaaGreatDoor

namespace Go.Proofs.YtmmaddlphclpnaaGreatDoor
open Go.RowKit Go.ChangeShapes Go.WideShapes Go.Maps Go.Sort

/-- At of a payload. -/
theorem wat_of (w : World) (l d m : Nat) (s : DM) (q : DW) (O : Nat → Prop) (sv pv : Value) (Z j V : Nat) (I : List (List (List Nat))) (ps : List (List Nat)) (k : Nat) (p : List Nat) (W : World) (h : WL w W l d m (LM.of sLog Z (I ++ [ps])) s q O sv pv) (hS : LS s Z I ps j V) (hk : (I.flatten ++ ps)[k]? = some p) :
    Calls Tryz.prog 20 #[.pointer (some ⟨l, 0, none⟩), .int .i64 (k : Nat)] W fun e W' => ∃ v, e = .returned (.tuple #[v, .int .i64 0]) ∧ W'.ownsRow W.heap.size 5 1 v p.length (cellsOf p) ∧ Fr (fun _ => False) W W' := by
  have hfl : (I ++ [ps]).flatten = I.flatten ++ ps := by simp
  obtain ⟨a, b, qs, h1, h2, h3, h4⟩ := plc_at (I ++ [ps]) 0 k p (by rw [hfl]; exact hk)
  rw [Nat.zero_add] at h2
  have hn := hS.n
  have hz := hS.z
  have ha : a < I.length + 1 := by
    have := (List.getElem?_eq_some_iff.1 h1).1
    simpa using this
  have hF : (s.F (nm (seg sLog a))).b = fby qs := by
    by_cases e : a = I.length
    · subst e
      rw [List.getElem?_append_right (Nat.le_refl _), Nat.sub_self] at h1
      obtain ⟨pc, hl, _⟩ := hS.last
      rw [hl]
      simp at h1
      rw [h1]
    · rw [List.getElem?_append_left (by omega)] at h1
      rw [hS.old h1]
  have hsg := hS.sg qs (List.mem_of_getElem? h1)
  have := wat_ok w l d m (LM.of sLog Z (I ++ [ps])) s q O sv pv k a b p.length W h h2 (by show (3 : Nat) ≤ 32; decide) (by omega) hS.good.off (hS.has (by omega)) (by show (s.F (nm (seg sLog a))).b.length ≤ _; rw [hF]; omega) (by show _ ≤ (s.F (nm (seg sLog a))).b.length; rw [hF]; exact h4)
  rw [show (s.F (nm (seg (LM.of sLog Z (I ++ [ps])).name a))).b = fby qs from hF, h3] at this
  exact this
/-- Synced. -/
theorem wsyn_of (w : World) (l d m : Nat) (s : DM) (q : DW) (O : Nat → Prop) (sv pv : Value) (Z j V : Nat) (I : List (List (List Nat))) (ps : List (List Nat)) (W : World) (h : WL w W l d m (LM.of sLog Z (I ++ [ps])) s q O sv pv) (hS : LS s Z I ps j V) :
    Calls Tryz.prog 14 #[.pointer (some ⟨l, 0, none⟩)] W fun e W' => e = .returned (.int .i64 ((I.flatten.length + j : Nat) : Int)) ∧ Fr (fun _ => False) W W' := by
  have hn := hS.n
  have hz := hS.z
  have hj := hS.jle
  have ilen : (I.map (fun ps => (fby ps).length)).length = I.length := List.length_map _
  obtain ⟨pc, hF, _⟩ := hS.last
  have hpl : (LM.of sLog Z (I ++ [ps])).pls.length = I.flatten.length + ps.length := of_plen ..
  have hfl : (I ++ [ps]).flatten.length = I.flatten.length + ps.length := by simp
  have hun : ∀ i, i < I.flatten.length + ps.length → (LM.of sLog Z (I ++ [ps])).uns I.length (fby (ps.take j)).length i = decide (I.flatten.length + j ≤ i) := fun i hi => of_uns sLog Z I ps j i (by rw [hfl]; exact hi)
  have hpb : ∀ p ∈ (LM.of sLog Z (I ++ [ps])).pls, p.2.1 ≤ 10000000 ∧ p.2.2 ≤ 10000000 := fun p hp => by
    obtain ⟨k, hk⟩ := List.mem_iff_getElem?.1 hp
    have hkl : k < (I ++ [ps]).flatten.length := by
      have := (List.getElem?_eq_some_iff.1 hk).1
      rw [hpl] at this
      rw [hfl]
      exact this
    obtain ⟨a, b, qs, h1, h2, _, h4⟩ := plc_at (I ++ [ps]) 0 k _ (List.getElem?_eq_getElem hkl)
    have e : p = (0 + a, b, ((I ++ [ps]).flatten[k]).length) := Option.some.inj (hk.symm.trans h2)
    rw [e]
    have := hS.sg qs (List.mem_of_getElem? h1)
    simp only
    omega
  have hs := wsynced_any w l d m (LM.of sLog Z (I ++ [ps])) s q O sv pv _ _ W h (of_segs ..) (by rw [ilen]; omega) (by show (3 : Nat) ≤ 32; decide) (by rw [hpl]; have := hS.few; omega) hpb hS.good.off (by rw [ilen]; exact hS.has (Nat.le_refl _)) (fun a b hab hb => by
    rw [ilen]
    show (LM.of sLog Z (I ++ [ps])).uns I.length (s.F (nm (seg sLog I.length))).safe a = true → (LM.of sLog Z (I ++ [ps])).uns I.length (s.F (nm (seg sLog I.length))).safe b = true
    rw [hF]
    simp only
    rw [hpl] at hb
    rw [hun a (by omega), hun b hb]
    simp only [decide_eq_true_eq]
    omega)
  rw [ilen] at hs
  refine hs.mono ?_
  rintro e W' ⟨r, rfl, h1, h2, h3, hf⟩
  refine ⟨?_, hf⟩
  have h2' : ∀ i, i < r → (LM.of sLog Z (I ++ [ps])).uns I.length (s.F (nm (seg sLog I.length))).safe i = false := h2
  have h3' : ∀ i, r ≤ i → i < (LM.of sLog Z (I ++ [ps])).pls.length → (LM.of sLog Z (I ++ [ps])).uns I.length (s.F (nm (seg sLog I.length))).safe i = true := h3
  rw [hF] at h2' h3'
  simp only at h2' h3'
  rw [hpl] at h1 h3'
  have er : r = I.flatten.length + j := by
    rcases Nat.lt_trichotomy r (I.flatten.length + j) with h | h | h
    · have := h3' r (Nat.le_refl _) (by omega)
      rw [hun r (by omega)] at this
      have := of_decide_eq_true this
      omega
    · exact h
    · have := h2' (I.flatten.length + j) h
      rw [hun _ (by omega)] at this
      have := of_decide_eq_false this
      omega
  rw [er]
end Go.Proofs.YtmmaddlphclpnaaGreatDoor

namespace Go.Proofs.YtmmaddlphclpnaaGreatDoor
open Go.RowKit Go.ChangeShapes Go.WideShapes Go.Maps Go.Sort

/-- A list of slices that can be read. -/
def Rds (W : World) (ko : Option Addr) (ks : List (List Nat)) : Prop := ∀ (j : Nat) p, ks[j]? = some p → ∃ g, ko = some ⟨g, 0, none⟩ ∧ ∃ ho hc, W.cell? ⟨g, j, none⟩ = some (.slice ho p.length hc) ∧ Src W (.slice ho p.length hc) p
theorem Rds.fr0 {W W' : World} {ko : Option Addr} {ks : List (List Nat)} (h : Rds W ko ks) (hf : Fr (fun _ => False) W W') : Rds W' ko ks := fun j p hp => by
  obtain ⟨g, h1, ho, hc, h2, h3⟩ := h j p hp
  exact ⟨g, h1, ho, hc, cell_fr0 h2 hf, h3.fr0 hf⟩
set_option maxHeartbeats 2000000 in
set_option maxRecDepth 100000 in
/-- holds. -/
theorem holds_of (w : World) (l d m : Nat) (s : DM) (q : DW) (O : Nat → Prop) (sv pv : Value) (Z V : Nat) (I : List (List (List Nat))) (ps : List (List Nat)) (ks : List (List Nat)) (ko : Option Addr) (kc : Nat) (W : World) (h : WL w W l d m (LM.of sLog Z (I ++ [ps])) s q O sv pv) (hS : LS s Z I ps ps.length V) (hks : I.flatten ++ ps = ks) (hR : Rds W ko ks) :
    Calls Tryz.prog 34 #[.pointer (some ⟨l, 0, none⟩), .slice ko ks.length kc] W fun e W' => e = .returned (.bool true) ∧ Fr (fun _ => False) W W' := by
  have hlen : I.flatten.length + ps.length = ks.length := by rw [← hks, List.length_append]
  have hfew := hS.few
  have hz := hS.z
  have hkn : ks.length ≤ 70 := by omega
  have HL : Hid (∀ W', Fr (fun _ => False) W W' → Calls Tryz.prog 12 #[.pointer (some ⟨l, 0, none⟩)] W' fun e w' => e = .returned (.int .i64 (ks.length : Nat)) ∧ w' = W') := fun W' hf => by
    have := wlen_any l d (LM.of sLog Z (I ++ [ps])) sv pv W' (h.quiet hf).G
    rw [of_plen, hlen] at this
    exact this
  have HS : Hid (∀ W', Fr (fun _ => False) W W' → Calls Tryz.prog 14 #[.pointer (some ⟨l, 0, none⟩)] W' fun e w' => e = .returned (.int .i64 (ks.length : Nat)) ∧ Fr (fun _ => False) W w') := fun W' hf => by
    have := wsyn_of w l d m s q O sv pv Z ps.length V I ps W' (h.quiet hf) hS
    rw [hlen] at this
    exact this.mono (fun e w' h => ⟨h.1, hf.trans h.2 (fun _ _ h => h)⟩)
  have hpl : ∀ p ∈ ks, p.length ≤ 600 := fun p hp => by
    rw [← hks] at hp
    have : p.length + 12 ≤ Z := by
      rcases List.mem_append.1 hp with hp | hp
      · obtain ⟨qs, h1, h2⟩ := List.mem_flatten.1 hp
        exact hS.pay qs (List.mem_append_left _ h1) p h2
      · exact hS.pay ps (by simp) p hp
    omega
  have HA : Hid (∀ W' (k : Nat) (hk : k < ks.length), Fr (fun _ => False) W W' → Calls Tryz.prog 20 #[.pointer (some ⟨l, 0, none⟩), .int .i64 (k : Nat)] W' fun e W2 => ∃ v, e = .returned (.tuple #[v, .int .i64 0]) ∧ Src W2 v ks[k] ∧ Fr (fun _ => False) W W2) := fun W' k hk hf => by
    refine (wat_of w l d m s q O sv pv Z ps.length V I ps k ks[k] W' (h.quiet hf) hS (by rw [hks]; exact List.getElem?_eq_getElem hk)).mono ?_
    rintro e W2 ⟨v, rfl, h1, h2⟩
    exact ⟨v, rfl, own_src h1, hf.trans h2 (fun _ _ h => h)⟩
  have HR := hide hR
  clear h hS hks hlen hR hfew hz
  have hpl := hide hpl
  go_enter Tryz.func34, Tryz.ntmps34
  go_wp2_with fail
  refine ((unhide HL) _ (Fr.refl _ _)).mono ?_
  rintro e w1 ⟨rfl, rfl⟩
  go_wp2_with fail
  refine ((unhide HS) _ (Fr.refl _ _)).mono ?_
  rintro e w2 ⟨rfl, hf2⟩
  have H2 := hide hf2
  clear hf2 HL HS
  go_wp2_with fail
  go_loopw [5] (fun iv wr => ∃ k : Nat, iv = .int .i64 (k : Nat) ∧ k ≤ ks.length ∧ Fr (fun _ => False) w1 wr) (fun iv _ => ks.length - (intOf iv).toNat)
  case atStart => exact ⟨0, rfl, Nat.zero_le _, unhide H2⟩
  case round =>
    obtain ⟨k, rfl, hk, hf⟩ := hrel
    by_cases hkl : k < ks.length
    · have HA1 := hide ((unhide HA) wr k hkl hf)
      have hpk := (unhide hpl) _ (List.getElem_mem hkl)
      have hR1 := (unhide HR) k _ (List.getElem?_eq_getElem hkl)
      obtain ⟨g, hko, ho, hc, hcell, hsr⟩ := hR1
      have HC : Hid (∀ W', Fr (fun _ => False) w1 W' → W'.cell? ⟨g, k, none⟩ = some (.slice ho (ks[k]).length hc) ∧ Src W' (.slice ho (ks[k]).length hc) ks[k]) := fun W' hf => ⟨cell_fr0 hcell hf, hsr.fr0 hf⟩
      generalize ks[k] = P at HA1 hpk HC
      subst hko
      have hi : (k : Int) < (ks.length : Int) := by omega
      clear hcell hsr hf HA HR
      go_wp2_with fail
      refine (unhide HA1).mono ?_
      rintro e w3 ⟨v, rfl, hv, hf3⟩
      obtain ⟨vo, vc, rfl⟩ := hv.form
      obtain ⟨hc3, hs3⟩ := (unhide HC) _ hf3
      have HSm := hide (same_any (.slice vo P.length vc) (.slice ho P.length hc) P P w3 hv hs3 (by omega))
      rw [show sameB P P = true by simp [sameB]] at HSm
      have H3 := hide hf3
      clear hv hs3 hf3 HA1 HC
      go_wp2_with fail
      refine (unhide HSm).mono ?_
      rintro e w4 ⟨rfl, n4, rfl⟩
      go_wp2_with fail
      exact ⟨⟨k + 1, by simp, by omega, (unhide H3).drewN _⟩, by simp only [intOf]; omega⟩
    · have hi : ¬ (k : Int) < (ks.length : Int) := by omega
      have HF := hide hf
      clear hf
      go_wp2_with fail
      go_ret
      exact ⟨rfl, unhide HF⟩
end Go.Proofs.YtmmaddlphclpnaaGreatDoor

namespace Go.Proofs.YtmmaddlphclpnaaGreatDoor
open Go.RowKit Go.ChangeShapes Go.WideShapes Go.Maps Go.Sort

theorem WL.ds {w W : World} {l d m : Nat} {L : LM} {s : DM} {q : DW} {O : Nat → Prop} {sv pv : Value} (h : WL w W l d m L s q O sv pv) : DS w W d m s q O := ⟨h.D, h.fr, h.o⟩
/-- Pending of a log's disk. -/
theorem wpend_any (w : World) (d m : Nat) (s : DM) (q : DW) (O : Nat → Prop) (Z j V : Nat) (I : List (List (List Nat))) (ps : List (List Nat)) (W : World) (h : DS w W d m s q O) (hS : LS s Z I ps j V) :
    Calls Tryz.prog 35 #[.pointer (some ⟨d, 0, none⟩)] W fun e W' => e = .returned (.int .i64 (((fby ps).length - (fby (ps.take j)).length : Nat) : Int)) ∧ Fr (fun _ => False) W W' := by
  obtain ⟨pc, hf, hsm, _⟩ := hS.fl
  have hn := hS.n
  have hz := hS.z
  let s' : DM := { s with F := fun k => if Maps.has s.D (.string k) = true then s.F k else ⟨[], 0, []⟩ }
  have hD : DkAt W d m s' q O := h.D.reF _ (fun k hk => by rw [if_pos hk])
  have hF' : ∀ i, i < I.length + 1 → s'.F (nm (seg sLog i)) = LB I ⟨fby ps, (fby (ps.take j)).length, pc⟩ i := fun i hi => by
    show (if Maps.has s.D (.string (nm (seg sLog i))) = true then _ else _) = _
    rw [if_pos (hf.has hi), hf.F i hi]
  have hb : ∀ x, (s'.F x).safe ≤ (s'.F x).b.length ∧ (s'.F x).b.length ≤ 600 := fun x => by
    by_cases hx : Maps.has s.D (.string x) = true
    · obtain ⟨i, hi, rfl⟩ := hf.key hx
      rw [hF' i hi]
      by_cases e : i = I.length
      · subst e
        rw [LB_last]
        have := fby_take_le ps j
        have := hS.sg ps (by simp)
        exact ⟨by simp only; omega, by simp only; omega⟩
      · rw [LB_old _ _ (show i < I.length by omega)]
        refine ⟨Nat.le_refl _, ?_⟩
        have hi2 : i < I.length := by omega
        have := hS.sg (I.getD i []) (by
          rw [List.getD_eq_getElem?_getD, List.getElem?_eq_getElem hi2]
          exact List.mem_append_left _ (List.getElem_mem hi2))
        show (fby (I.getD i [])).length ≤ 600
        omega
    · have e : s'.F x = ⟨[], 0, []⟩ := if_neg hx
      rw [e]
      exact ⟨Nat.le_refl _, Nat.zero_le _⟩
  have hp := pending_any d m s' q O W hD (fun x => by
    have := hb x
    simp only [DM.pd]
    omega) (by show Maps.size s.D ≤ 256; rw [hf.size]; omega) (fun x => by have := hb x; omega)
  have e : s'.pend = (((fby ps).length - (fby (ps.take j)).length : Nat) : Int) := by
    show sumA s'.pd (ents s.D) = _
    rw [hf.sum, totI, totI_zero (fun i hi => by
      simp only [DM.pd]
      rw [hF' i (by omega), LB_old _ _ hi]
      simp)]
    simp only [DM.pd]
    rw [hF' I.length (by omega), LB_last]
    have := fby_take_le ps j
    simp only
    omega
  rw [e] at hp
  exact hp
/-- Crash of a log's disk. -/
theorem wcrash_any (w : World) (d m : Nat) (keep : Int) (s : DM) (q : DW) (O : Nat → Prop) (Z j V : Nat) (I : List (List (List Nat))) (ps : List (List Nat)) (W : World) (h : DS w W d m s q O) (hS : LS s Z I ps j V) (hkp : keep ≤ 9223372036854775807) :
    Calls Tryz.prog 21 #[.pointer (some ⟨d, 0, none⟩), .int .i64 keep] W fun e W' => e = .returned (.tuple #[]) ∧ ∃ s' q', DkAt W' d m s' q' O ∧ Fr O W W' ∧ ∃ t, LT { s' with off := false } Z I (ps.take (j + wholes (ps.drop j) (min keep.toNat ((fby ps).length - (fby (ps.take j)).length)))) t V := by
  obtain ⟨pc, hf, hsm, hl⟩ := hS.fl
  have hn := hS.n
  have hz := hS.z
  have hus := hS.used
  have hsg : Segs I.length (LB I ⟨fby ps, (fby (ps.take j)).length, pc⟩) := ⟨fun i hi => by rw [LB_old _ _ hi], fun i hi => by rw [LB_old _ _ hi], by rw [LB_last]; exact hsm, by rw [LB_last]; simp only; omega⟩
  have hal := (hf.allp_sz hsg q).2
  rw [LB_last] at hal
  have hk : ∀ k, Maps.has s.D (.string k) = true → (s.F k).ps.length ≤ 70 ∧ (s.F k).safe + sumP (s.F k).ps = (s.F k).b.length ∧ (s.F k).b.length ≤ 600 := fun k hk => by
    obtain ⟨i, hi, rfl⟩ := hf.key hk
    rw [hf.F i hi]
    by_cases e : i = I.length
    · subst e
      rw [LB_last]
      have := hS.sg ps (by simp)
      exact ⟨by simp only; omega, hsm, by simp only; omega⟩
    · have hi2 : i < I.length := by omega
      rw [LB_old _ _ hi2]
      have := hS.sg (I.getD i []) (by
        rw [List.getD_eq_getElem?_getD, List.getElem?_eq_getElem hi2]
        exact List.mem_append_left _ (List.getElem_mem hi2))
      exact ⟨Nat.zero_le _, rfl, by show (fby (I.getD i [])).length ≤ 600; omega⟩
  refine (crash_any d m keep s q O W h.D (by rw [hal]; simp only; omega) (fun k h => by have := hk k h; omega) hkp (fun k h => by
    have h2 := hk k h
    refine ⟨by omega, fun p hp => ?_⟩
    have := sumP_mem _ p hp
    omega) (fun k h => by have := hk k h; omega) hf.ln (by omega)).mono ?_
  rintro e W' ⟨rfl, L, q', hL, _, hD, _, hfr⟩
  have hq : ∀ i, i < I.length → q.fb (nm (seg sLog i)) ≠ q.fb (nm (seg sLog I.length)) := fun i hi => (h.D.ap _ _ (hf.has (by omega)) (hf.has (by omega)) (fun e => by have := seg_inj (by omega) (by omega) e; omega)).1
  exact ⟨rfl, _, q', hD, hfr, hS.crash q L keep.toNat hL hq⟩
end Go.Proofs.YtmmaddlphclpnaaGreatDoor

namespace Go.Proofs.YtmmaddlphclpnaaGreatDoor
open Go.RowKit Go.ChangeShapes Go.WideShapes Go.Maps Go.Sort

theorem DM.Like.refl (s : DM) : s.Like s := ⟨rfl, rfl, rfl, rfl, rfl, rfl⟩
theorem DM.Like.syn {s s' : DM} (h : s.Like s') (x : List UInt8) : s.Like (s'.syn x) := ⟨h.off, h.full, h.left, h.tear, h.lim, h.wr⟩
theorem DM.Like.short {s s' : DM} (h : s.Like s') (x : List UInt8) (n : Nat) : s.Like (s'.short x n) := ⟨h.off, h.full, h.left, h.tear, h.lim, h.wr⟩
/-- What settle has done when k segments are synced. -/
structure Sett (w W wr : World) (l d m : Nat) (L : LM) (s : DM) (O : Nat → Prop) (sv pv : Value) (N : Nat) (b1 : Nat → FM) (k : Nat) : Prop where
  ex : ∃ sk qk Ok, WL w wr l d m L sk qk Ok sv pv ∧ s.Like sk ∧ Fls sk L.name N (fun i => if i < k then (b1 i).synced else b1 i) ∧ (∀ k, Ok k → O k ∨ W.heap.size ≤ k) ∧ Fr O W wr
theorem Sett.go {w W wr wr' : World} {l d m : Nat} {L : LM} {s : DM} {O : Nat → Prop} {sv pv : Value} {N : Nat} {b1 : Nat → FM} {k : Nat} (h : Sett w W wr l d m L s O sv pv N b1 k) (hf : Fr (fun _ => False) wr wr') : Sett w W wr' l d m L s O sv pv N b1 k := by
  obtain ⟨sk, qk, Ok, h1, h2, h3, h4, h5⟩ := h.ex
  exact ⟨sk, qk, Ok, h1.quiet hf, h2, h3, h4, h5.trans hf (fun _ _ h => h.elim)⟩
theorem Sett.cell {w W wr : World} {l d m : Nat} {L : LM} {s : DM} {O : Nat → Prop} {sv pv : Value} {N : Nat} {b1 : Nat → FM} {k : Nat} (h : Sett w W wr l d m L s O sv pv N b1 k) : wr.cell? ⟨l, 0, none⟩ = some (.pointer (some ⟨d, 0, none⟩)) ∧ wr.cell? ⟨l, 1, none⟩ = some (.string L.name) := by
  obtain ⟨sk, qk, Ok, h1, h2, h3, h4, h5⟩ := h.ex
  exact ⟨h1.G.cells.1, h1.G.cells.2.1⟩
theorem Sett.step {w W wr : World} {l d m : Nat} {L : LM} {s : DM} {O : Nat → Prop} {sv pv : Value} {N : Nat} {b1 : Nat → FM} {k : Nat} (h : Sett w W wr l d m L s O sv pv N b1 k) (hk : k < N) (hN : N ≤ 99) (hnl : L.name.size ≤ 32) (ho : s.off = false) :
    Calls Tryz.prog 55 #[.pointer (some ⟨d, 0, none⟩), .string (seg L.name k)] wr fun e wr' => e = .returned (.int .i64 0) ∧ Sett w W wr' l d m L s O sv pv N b1 (k + 1) := by
  obtain ⟨sk, qk, Ok, h1, h2, h3, h4, h5⟩ := h.ex
  have hsz := seg_size L.name k (by omega)
  refine (sync_at d m sk qk Ok (seg L.name k) wr h1.D (h2.off.trans ho) (by simp only [maxLen]; omega) (h3.has hk)).mono ?_
  rintro e W2 ⟨rfl, q', O', hD, hf2, hO⟩
  refine ⟨rfl, sk.syn (nm (seg L.name k)), q', O', h1.disk hD hf2 hO, h2.syn _, (h3.syn (by omega) hk).congr (fun i hi => ?_), fun k hk => (hO k hk).elim (h4 k) (fun e => .inr (Nat.le_trans h5.size e)), h5.trans hf2 (fun k hk e => (h4 k e).elim id (fun e => by omega))⟩
  by_cases e : i = k
  · subst e
    rw [if_pos rfl, if_neg (Nat.lt_irrefl _), if_pos (Nat.lt_succ_self _)]
  · rw [if_neg e]
    by_cases e2 : i < k
    · rw [if_pos e2, if_pos (by omega)]
    · rw [if_neg e2, if_neg (by omega)]
set_option maxHeartbeats 1000000 in
set_option maxRecDepth 100000 in
/-- Log.settle. -/
theorem settle_any (w : World) (l d m : Nat) (L : LM) (s : DM) (q : DW) (O : Nat → Prop) (sv pv : Value) (ss : List Nat) (x : Nat) (b : Nat → FM) (W : World) (h : WL w W l d m L s q O sv pv) (hs : L.segs = ss ++ [x]) (hl : ss.length < 99) (hnl : L.name.size ≤ 32) (ho : s.off = false) (hf : Fls s L.name (ss.length + 1) b) (hx : x ≤ (b ss.length).b.length) (hu2 : s.used ≤ 1048576) (hps : (b ss.length).ps.length ≤ 1000000) (hsz : ∀ p ∈ (b ss.length).ps, p.2 ≤ 1048576) :
    Calls Tryz.prog 75 #[.pointer (some ⟨l, 0, none⟩)] W fun e W' => e = .returned (.int .i64 0) ∧ Sett w W W' l d m L s O sv pv (ss.length + 1) (fun i => if i = ss.length then (b ss.length).cut x else b i) (ss.length + 1) := by
  have hlen : L.segs.length = ss.length + 1 := by rw [hs]; simp
  have hsn := seg_size L.name ss.length (by omega)
  have hge := tot_ge (fun i => (b i).b) (show ss.length < ss.length + 1 by omega)
  have hus := hf.used
  obtain ⟨g, sc, rfl, hsc, hc, hcf⟩ := h.G.last hs
  have HO : Hid (Calls Tryz.prog 44 #[.pointer (some ⟨l, 0, none⟩)] W fun e w' => e = .returned (.int .i64 (ss.length : Nat)) ∧ w' = W) := by
    have := wopen_any l d L _ pv W h.G (by omega)
    rw [show (L.segs.length : Int) - 1 = (ss.length : Nat) by omega] at this
    exact this
  have HFI : Hid (∀ W', Fr (fun _ => False) W W' → Calls Tryz.prog 43 #[.pointer (some ⟨l, 0, none⟩), .int .i64 (ss.length : Nat)] W' fun e W2 => e = .returned (.string (seg L.name ss.length)) ∧ Fr (fun _ => False) W W2) := fun W' hf =>
    (file_any l ss.length L.name W' (by omega) (h.quiet hf).G.cells.2.1 (by omega)).mono (fun e W2 h => ⟨h.1, hf.trans h.2 (fun _ _ h => h)⟩)
  have HC : Hid (∀ W', Fr (fun _ => False) W W' → Calls Tryz.prog 24 #[.pointer (some ⟨d, 0, none⟩), .string (seg L.name ss.length), .int .i64 (x : Nat)] W' fun e W2 => e = .returned (.int .i64 0) ∧ Sett w W W2 l d m L s O (.slice (some ⟨g, 0, none⟩) (ss.length + 1) sc) pv (ss.length + 1) (fun i => if i = ss.length then (b ss.length).cut x else b i) 0) := fun W' hf1 => by
    have h1 := h.quiet hf1
    have eF := hf.F ss.length (Nat.lt_succ_self _)
    refine (cutn_at d m s q O (seg L.name ss.length) x W' h1.D ho (by simp only [maxLen]; omega) (hf.has (Nat.lt_succ_self _)) (by rw [eF]; exact hx) (by rw [eF]; omega) (by rw [eF]; omega) (by rw [eF]; exact hsz) (by rw [eF]; omega) hu2).mono ?_
    rintro e W2 ⟨rfl, q', hD, hf2⟩
    exact ⟨rfl, s.short (nm (seg L.name ss.length)) x, q', O, h1.disk hD hf2 (fun _ h => .inl h), (DM.Like.refl s).short _ _, (hf.short (by omega) (Nat.lt_succ_self _) x hx).congr (fun i hi => by rw [if_neg (Nat.not_lt_zero _)]), fun _ h => .inl h, (hf1.mono (fun _ _ h => h.elim)).trans hf2 (fun _ _ h => h)⟩
  have HK : Hid (∀ W', Fr (fun _ => False) W W' → W'.cell? ⟨l, 0, none⟩ = some (.pointer (some ⟨d, 0, none⟩)) ∧ W'.cell? ⟨l, 3, none⟩ = some (.slice (some ⟨g, 0, none⟩) (ss.length + 1) sc) ∧ W'.cell? ⟨g, ss.length, none⟩ = some (.int .i64 (x : Nat))) := fun W' hf1 => by
    have h1 := h.quiet hf1
    refine ⟨h1.G.cells.1, h1.G.cells.2.2.2.1, ?_⟩
    obtain ⟨g2, sc2, e2, _, hc2, _⟩ := h1.G.last hs
    cases e2
    exact hc2
  have HK2 : Hid (∀ W2 k b1, Sett w W W2 l d m L s O (.slice (some ⟨g, 0, none⟩) (ss.length + 1) sc) pv (ss.length + 1) b1 k → W2.cell? ⟨l, 0, none⟩ = some (.pointer (some ⟨d, 0, none⟩)) ∧ W2.cell? ⟨l, 3, none⟩ = some (.slice (some ⟨g, 0, none⟩) (ss.length + 1) sc) ∧ W2.cell? ⟨g, ss.length, none⟩ = some (.int .i64 (x : Nat))) := fun W2 k b1 h1 => by
    obtain ⟨sk, qk, Ok, h1, _⟩ := h1.ex
    refine ⟨h1.G.cells.1, h1.G.cells.2.2.2.1, ?_⟩
    obtain ⟨g2, sc2, e2, _, hc2, _⟩ := h1.G.last hs
    cases e2
    exact hc2
  have HH := hide (And.intro hnl ho)
  clear h hs hlen hcf hf hx hu2 hps hsz hsn hge hus hnl ho hc
  obtain ⟨SN, hSN⟩ : ∃ SN, SN = seg L.name ss.length := ⟨_, rfl⟩
  rw [← hSN] at HFI HC
  clear hSN
  obtain ⟨b1, hb1⟩ : ∃ b1 : Nat → FM, b1 = (fun i => if i = ss.length then (b ss.length).cut x else b i) := ⟨_, rfl⟩
  rw [← hb1] at HC ⊢
  clear hb1
  generalize hSL : ss.length = SL at *
  clear hSL
  have hNi : (SL : Int) < (SL : Int) + 1 := by omega
  go_enter Tryz.func75, Tryz.ntmps75
  go_wp2_with (go_at_call 44; refine (unhide HO).mono ?_; rintro e w' ⟨rfl, rfl⟩; clear HO)
  go_region_held3 (fun w' => w'.cell? ⟨l, 0, none⟩ = some (.pointer (some ⟨d, 0, none⟩)) ∧ w'.cell? ⟨l, 3, none⟩ = some (.slice (some ⟨g, 0, none⟩) (SL + 1) sc) ∧ w'.cell? ⟨g, SL, none⟩ = some (.int .i64 (x : Nat)))
    (first | exact (unhide HK2) _ _ _ (unhide HW) | exact (unhide HK) _ hf1 | exact (unhide HK) _ (Fr.refl _ _).drew)
    (first
      | (go_at_call 43; refine ((unhide HFI) _ (Fr.refl _ _).drew).mono ?_; rintro e w1 ⟨rfl, hf1⟩; clear HFI)
      | (go_at_call 24; refine ((unhide HC) _ hf1).mono ?_; rintro e w2 ⟨rfl, hW⟩; clear HC; have HW := hide hW; clear hW))
  all_goals
    have hl0 : SL < 99 := hl
    go_wp2_with fail
    go_loopw [4, 5] (fun ev iv wr => ∃ k : Nat, ev = .int .i64 0 ∧ iv = .int .i64 (k : Nat) ∧ k ≤ SL + 1 ∧ Sett w w' wr l d m L s O (.slice (some ⟨g, 0, none⟩) (SL + 1) sc) pv (SL + 1) b1 k) (fun _ iv _ => SL + 1 - (intOf iv).toNat)
    case atStart => exact ⟨0, rfl, rfl, Nat.zero_le _, unhide HW⟩
    case round =>
      obtain ⟨k, rfl, rfl, hk, hSt⟩ := hrel
      by_cases hks : k ≤ SL
      · have hki : (k : Int) ≤ (SL : Int) := by omega
        have HF : Hid (∀ W', Fr (fun _ => False) wr W' → Calls Tryz.prog 43 #[.pointer (some ⟨l, 0, none⟩), .int .i64 (k : Nat)] W' fun e W2 => e = .returned (.string (seg L.name k)) ∧ Fr (fun _ => False) wr W2) := fun W' hf =>
          (file_any l k L.name W' (by omega) (hSt.go hf).cell.2 (by have := (unhide HH).1; omega)).mono (fun e W2 h => ⟨h.1, hf.trans h.2 (fun _ _ h => h)⟩)
        have HS : Hid (∀ W', Fr (fun _ => False) wr W' → Calls Tryz.prog 55 #[.pointer (some ⟨d, 0, none⟩), .string (seg L.name k)] W' fun e W2 => e = .returned (.int .i64 0) ∧ Sett w w' W2 l d m L s O (.slice (some ⟨g, 0, none⟩) (SL + 1) sc) pv (SL + 1) b1 (k + 1)) := fun W' hf =>
          (hSt.go hf).step (by omega) (by omega) (unhide HH).1 (unhide HH).2
        have HKK : Hid (∀ W', Fr (fun _ => False) wr W' → W'.cell? ⟨l, 0, none⟩ = some (.pointer (some ⟨d, 0, none⟩))) := fun W' hf => (hSt.go hf).cell.1
        obtain ⟨KN, hKN⟩ : ∃ KN, KN = seg L.name k := ⟨_, rfl⟩
        rw [← hKN] at HF HS
        clear hKN hSt
        go_wp2_with fail
        go_region_held3 (fun w' => w'.cell? ⟨l, 0, none⟩ = some (.pointer (some ⟨d, 0, none⟩)))
          (first | exact (unhide HS4).cell.1 | exact (unhide HKK) _ hf3 | exact (unhide HKK) _ (Fr.refl _ _).drew)
          (first
            | (go_at_call 43; refine ((unhide HF) _ (Fr.refl _ _).drew).mono ?_; rintro e w3 ⟨rfl, hf3⟩; clear HF)
            | (go_at_call 55; refine ((unhide HS) _ hf3).mono ?_; rintro e w4 ⟨rfl, hS4⟩; clear HS; have HS4 := hide hS4; clear hS4))
        all_goals
          go_wp2_with fail
          exact ⟨⟨k + 1, rfl, by simp, by omega, unhide HS4⟩, by simp only [intOf]; omega⟩
      · obtain rfl : k = SL + 1 := by omega
        have HSt := hide hSt
        clear hSt
        have hki : ¬ (SL : Int) + 1 ≤ (SL : Int) := by omega
        go_wp2_with fail
        go_ret
        exact ⟨rfl, unhide HSt⟩
end Go.Proofs.YtmmaddlphclpnaaGreatDoor

namespace Go.Proofs.YtmmaddlphclpnaaGreatDoor
open Go.RowKit Go.ChangeShapes Go.WideShapes Go.Maps Go.Sort

theorem wp_scope_jumps2c {P : Program} {a : Act} {w : World} {Q : Exit → Act → World → Prop} {c X Y : Code} (J : Nat → Act → World → Prop) (μ : Nat → Act → World → Nat) (hf0 : findLabel c 0 = some (Code.skip.seq Y)) (hf1 : findLabel c 1 = some (Code.skip.seq X))
    (pass1 : ∀ a w, J 1 a w → X.wp P (jump2 (fun l' a' w' => J l' a' w' ∧ μ l' a' w' < μ 1 a w) Q) a w)
    (pass0 : (∀ a w, J 1 a w → X.wp P (jump2 (fun l' a' w' => J l' a' w' ∧ μ l' a' w' < μ 1 a w) Q) a w) → ∀ a w, J 0 a w → Y.wp P (jump2 (fun l' a' w' => J l' a' w' ∧ μ l' a' w' < μ 0 a w) Q) a w)
    (first : (∀ a w, J 0 a w → Y.wp P (jump2 (fun l' a' w' => J l' a' w' ∧ μ l' a' w' < μ 0 a w) Q) a w) → c.wp P (jump2 J Q) a w) : (Code.scope c).wp P Q a w :=
  wp_scope_jumps2 J μ hf0 hf1 (first (pass0 pass1)) (fun a w h => wp_seq (wp_skip (pass0 pass1 a w h))) (fun a w h => wp_seq (wp_skip (pass1 a w h)))
theorem jump2_mono {J J' : Nat → Act → World → Prop} {Q : Exit → Act → World → Prop} (h : ∀ l a w, J l a w → J' l a w) : ∀ (e : Exit) (a : Act) (w : World), jump2 J Q e a w → jump2 J' Q e a w := fun e a w hj => by
  cases e with
  | goto l => exact ⟨hj.1, h _ _ _ hj.2⟩
  | _ => exact hj
theorem frm_nil (most g : Nat) (L : LM) : frm most g [] L = (L, 0) := by cases g <;> rfl
theorem frm_go (most g : Nat) (r : List Nat) (L : LM) (hr : r ≠ []) (hg : r.length < g) (h : (lookL r most).2 = 0) : ∃ g', g = g' + 1 ∧ frm most g r L = frm most g' (r.drop (12 + (lookL r most).1)) (L.took (lookL r most).1) := by
  cases g with
  | zero => omega
  | succ g => exact ⟨g, rfl, by rw [frm, if_neg hr, if_pos h]⟩
theorem frm_end (most g : Nat) (r : List Nat) (L : LM) (hr : r ≠ []) (hg : r.length < g) (h : (lookL r most).2 ≠ 0) : frm most g r L = (L, (lookL r most).2) := by
  cases g with
  | zero => omega
  | succ g => rw [frm, if_neg hr, if_neg h]
theorem lookL_whole (r : List Nat) (most : Nat) (h : (lookL r most).2 = 0) : 12 + (lookL r most).1 ≤ r.length := by
  unfold lookL at h ⊢
  split
  · rename_i h1; rw [if_pos h1] at h; simp at h
  · rename_i h1
    rw [if_neg h1] at h
    split
    · rename_i h2; rw [if_pos h2] at h; simp at h
    · rename_i h2
      rw [if_neg h2] at h
      split
      · rename_i h3; rw [if_pos h3] at h; simp at h
      · rename_i h3
        rw [if_neg h3] at h
        split
        · rename_i h4; rw [if_pos h4] at h; simp at h
        · simp only
          omega
theorem lookL_le (r : List Nat) (most : Nat) : (lookL r most).2 = 0 ∨ (lookL r most).2 = 1 ∨ (lookL r most).2 = 2 := by
  unfold lookL
  split
  · exact .inr (.inl rfl)
  · split
    · exact .inr (.inr rfl)
    · split
      · exact .inr (.inl rfl)
      · split
        · exact .inr (.inr rfl)
        · exact .inl rfl
/-- What holds at the labels of scan. -/
def J0 (w : World) (l d m : Nat) (nme : ByteArray) (s : DM) (q : DW) (O : Nat → Prop) (B : Nat → List Nat) (N most : Nat) (R : LM × Bool) (a : Act) (W : World) : Prop :=
  ∃ (L : LM) (sv pv v3 : Value) (f : Nat) (u1 u4 u5 u6 u7 u8 u9 u10 u11 u12 u13 u14 u15 u16 u17 u18 u19 u20 u21 u22 u23 u24 u25 u26 u27 u28 u29 u30 u31 u32 u33 u34 u35 u36 u37 u38 u39 u40 u41 u42 u43 u44 u45 u46 u47 u48 u49 u50 u51 u52 u53 u54 u55 u56 u57 u58 u59 u60 u61 u62 u63 : Value), a = { tmps := #[.pointer (some ⟨l, 0, none⟩), u1, .bool false, v3, u4, u5, u6, u7, u8, u9, u10, u11, u12, u13, u14, u15, u16, u17, u18, u19, u20, u21, u22, u23, u24, u25, u26, u27, u28, u29, u30, u31, u32, u33, u34, u35, u36, u37, u38, u39, u40, u41, u42, u43, u44, u45, u46, u47, u48, u49, u50, u51, u52, u53, u54, u55, u56, u57, u58, u59, u60, u61, u62, u63], defers := [] } ∧ WL w W l d m L s q O sv pv ∧ L.name = nme ∧ L.size = most + 12 ∧ L.segs.length ≤ N ∧ N ≤ L.segs.length + f ∧ scn B N most f L = R ∧ 12 * L.pls.length ≤ tot B L.segs.length
def J1 (w : World) (l d m : Nat) (nme : ByteArray) (s : DM) (q : DW) (O : Nat → Prop) (B : Nat → List Nat) (N most : Nat) (R : LM × Bool) (a : Act) (W : World) : Prop :=
  ∃ (L : LM) (sv pv : Value) (ao : Option Addr) (cap : Nat) (rest : List Nat) (f g x : Nat) (ss : List Nat) (u1 u4 u5 u6 u7 u8 u9 u10 u11 u12 u13 u14 u15 u16 u17 u18 u19 u20 u21 u22 u23 u24 u25 u26 u27 u28 u29 u30 u31 u32 u33 u34 u35 u36 u37 u38 u39 u40 u41 u42 u43 u44 u45 u46 u47 u48 u49 u50 u51 u52 u53 u54 u55 u56 u57 u58 u59 u60 u61 u62 u63 : Value), a = { tmps := #[.pointer (some ⟨l, 0, none⟩), u1, .bool false, .slice ao rest.length cap, u4, u5, u6, u7, u8, u9, u10, u11, u12, u13, u14, u15, u16, u17, u18, u19, u20, u21, u22, u23, u24, u25, u26, u27, u28, u29, u30, u31, u32, u33, u34, u35, u36, u37, u38, u39, u40, u41, u42, u43, u44, u45, u46, u47, u48, u49, u50, u51, u52, u53, u54, u55, u56, u57, u58, u59, u60, u61, u62, u63], defers := [] } ∧ WL w W l d m L s q O sv pv ∧ L.name = nme ∧ L.size = most + 12 ∧ L.segs = ss ++ [x] ∧ ss.length + 1 ≤ N ∧ N ≤ ss.length + 1 + f ∧ rest.length < g ∧ fin B N most f (frm most g rest L) = R ∧ x + rest.length ≤ 1048576 ∧ 12 * L.pls.length + rest.length ≤ tot B (ss.length + 1) ∧ Src W (.slice ao rest.length cap) rest ∧ rest.length ≤ cap ∧ (∀ g o m c, Value.slice ao rest.length cap = .slice (some ⟨g, o, none⟩) m c → ∃ cur fz, W.heap[g]? = some (.cells cur 5 fz))
def segN (l : Nat) (W : World) : Nat := match W.cell? ⟨l, 3, none⟩ with
  | some (Value.slice _ n _) => n
  | _ => 0
def restN (a : Act) : Nat := match a.tmps.getD 3 undef with
  | Value.slice _ n _ => n
  | _ => 0
def muS (l lab : Nat) (a : Act) (W : World) : Nat := (100 - segN l W) * 2000000 + (if lab = 0 then 0 else restN a + 1)
theorem segN_eq {w W : World} {l d m : Nat} {L : LM} {s : DM} {q : DW} {O : Nat → Prop} {sv pv : Value} (h : WL w W l d m L s q O sv pv) : segN l W = L.segs.length := by
  obtain ⟨so, sc, hso⟩ := own_formX h.G.so
  have c3 := h.G.cells.2.2.2.1
  rw [hso] at c3
  simp [segN, c3]
def JS2 (w : World) (l d m : Nat) (nme : ByteArray) (s : DM) (q : DW) (O : Nat → Prop) (B : Nat → List Nat) (N most : Nat) (R : LM × Bool) (lab : Nat) (a : Act) (W : World) : Prop := if lab = 0 then J0 w l d m nme s q O B N most R a W else J1 w l d m nme s q O B N most R a W
theorem own_not {W : World} {base n e size g : Nat} {v : Value} {xs : List Value} {cur : Array Value} {t : TypeId} {fz : Nat × Nat} (h : W.ownsRow base e size v n xs) (hg : W.heap[g]? = some (.cells cur t fz)) (hne : t ≠ e) : ¬ v.ownBlock = some g := fun hk => by
  rcases h.2 with ⟨rfl, _⟩ | ⟨g', cap, c', e1, _, e3, _⟩
  · cases hk
  · rw [e1] at hk
    have hk' : g' = g := by simpa [Value.ownBlock] using hk
    subst hk'
    rw [e3] at hg
    simp only [Option.some.injEq, Obj.cells.injEq] at hg
    exact hne hg.2.1.symm
end Go.Proofs.YtmmaddlphclpnaaGreatDoor

namespace Go.Proofs.YtmmaddlphclpnaaGreatDoor
open Go.RowKit Go.ChangeShapes Go.WideShapes Go.Maps Go.Sort

/-- Since W0 nothing that lay there has turned but the log's block; its lists are new. -/
def Ext (W0 W : World) (l : Nat) (sv pv : Value) : Prop := Fr (fun k => k = l) W0 W ∧ (∀ g, sv.ownBlock = some g → W0.heap.size ≤ g) ∧ (∀ g, pv.ownBlock = some g → W0.heap.size ≤ g)
theorem Ext.quiet {W0 W W' : World} {l : Nat} {sv pv : Value} (h : Ext W0 W l sv pv) (hf : Fr (fun _ => False) W W') : Ext W0 W' l sv pv := ⟨h.1.trans hf (fun _ _ h => h.elim), h.2.1, h.2.2⟩
theorem Ext.went {W0 W W' : World} {l : Nat} {sv pv sv' pv' : Value} (h : Ext W0 W l sv pv) (hf : Fr (fun k => k = l ∨ sv.ownBlock = some k ∨ pv.ownBlock = some k) W W') (hs : ∀ g, sv'.ownBlock = some g → sv.ownBlock = some g ∨ W.heap.size ≤ g) (hp : ∀ g, pv'.ownBlock = some g → pv.ownBlock = some g ∨ W.heap.size ≤ g) : Ext W0 W' l sv' pv' := by
  refine ⟨h.1.trans hf (fun k hk e => ?_), fun g hg => (hs g hg).elim (h.2.1 g) (Nat.le_trans h.1.size), fun g hg => (hp g hg).elim (h.2.2 g) (Nat.le_trans h.1.size)⟩
  rcases e with e | e | e
  · exact e
  · have := h.2.1 k e; omega
  · have := h.2.2 k e; omega
/-- What holds at the labels of scan. -/
def J0x (w W0 : World) (l d m : Nat) (nme : ByteArray) (s : DM) (q : DW) (O : Nat → Prop) (B : Nat → List Nat) (N most : Nat) (R : LM × Bool) (a : Act) (W : World) : Prop :=
  ∃ (L : LM) (sv pv v3 : Value) (f : Nat) (u1 u4 u5 u6 u7 u8 u9 u10 u11 u12 u13 u14 u15 u16 u17 u18 u19 u20 u21 u22 u23 u24 u25 u26 u27 u28 u29 u30 u31 u32 u33 u34 u35 u36 u37 u38 u39 u40 u41 u42 u43 u44 u45 u46 u47 u48 u49 u50 u51 u52 u53 u54 u55 u56 u57 u58 u59 u60 u61 u62 u63 : Value), a = { tmps := #[.pointer (some ⟨l, 0, none⟩), u1, .bool false, v3, u4, u5, u6, u7, u8, u9, u10, u11, u12, u13, u14, u15, u16, u17, u18, u19, u20, u21, u22, u23, u24, u25, u26, u27, u28, u29, u30, u31, u32, u33, u34, u35, u36, u37, u38, u39, u40, u41, u42, u43, u44, u45, u46, u47, u48, u49, u50, u51, u52, u53, u54, u55, u56, u57, u58, u59, u60, u61, u62, u63], defers := [] } ∧ WL w W l d m L s q O sv pv ∧ L.name = nme ∧ L.size = most + 12 ∧ L.segs.length ≤ N ∧ N ≤ L.segs.length + f ∧ scn B N most f L = R ∧ 12 * L.pls.length ≤ tot B L.segs.length ∧ Ext W0 W l sv pv
def J1x (w W0 : World) (l d m : Nat) (nme : ByteArray) (s : DM) (q : DW) (O : Nat → Prop) (B : Nat → List Nat) (N most : Nat) (R : LM × Bool) (a : Act) (W : World) : Prop :=
  ∃ (L : LM) (sv pv : Value) (ao : Option Addr) (cap : Nat) (rest : List Nat) (f g x : Nat) (ss : List Nat) (u1 u4 u5 u6 u7 u8 u9 u10 u11 u12 u13 u14 u15 u16 u17 u18 u19 u20 u21 u22 u23 u24 u25 u26 u27 u28 u29 u30 u31 u32 u33 u34 u35 u36 u37 u38 u39 u40 u41 u42 u43 u44 u45 u46 u47 u48 u49 u50 u51 u52 u53 u54 u55 u56 u57 u58 u59 u60 u61 u62 u63 : Value), a = { tmps := #[.pointer (some ⟨l, 0, none⟩), u1, .bool false, .slice ao rest.length cap, u4, u5, u6, u7, u8, u9, u10, u11, u12, u13, u14, u15, u16, u17, u18, u19, u20, u21, u22, u23, u24, u25, u26, u27, u28, u29, u30, u31, u32, u33, u34, u35, u36, u37, u38, u39, u40, u41, u42, u43, u44, u45, u46, u47, u48, u49, u50, u51, u52, u53, u54, u55, u56, u57, u58, u59, u60, u61, u62, u63], defers := [] } ∧ WL w W l d m L s q O sv pv ∧ L.name = nme ∧ L.size = most + 12 ∧ L.segs = ss ++ [x] ∧ ss.length + 1 ≤ N ∧ N ≤ ss.length + 1 + f ∧ rest.length < g ∧ fin B N most f (frm most g rest L) = R ∧ x + rest.length ≤ 1048576 ∧ 12 * L.pls.length + rest.length ≤ tot B (ss.length + 1) ∧ Src W (.slice ao rest.length cap) rest ∧ rest.length ≤ cap ∧ (∀ g o m c, Value.slice ao rest.length cap = .slice (some ⟨g, o, none⟩) m c → ∃ cur fz, W.heap[g]? = some (.cells cur 5 fz)) ∧ Ext W0 W l sv pv
def JS2x (w W0 : World) (l d m : Nat) (nme : ByteArray) (s : DM) (q : DW) (O : Nat → Prop) (B : Nat → List Nat) (N most : Nat) (R : LM × Bool) (lab : Nat) (a : Act) (W : World) : Prop := if lab = 0 then J0x w W0 l d m nme s q O B N most R a W else J1x w W0 l d m nme s q O B N most R a W
end Go.Proofs.YtmmaddlphclpnaaGreatDoor

namespace Go.Proofs.YtmmaddlphclpnaaGreatDoor
open Go.RowKit Go.ChangeShapes Go.WideShapes Go.Maps Go.Sort

set_option maxHeartbeats 4000000 in
set_option maxRecDepth 100000 in
/-- Log.scan. -/
theorem scan_ext (w : World) (l d m : Nat) (L0 : LM) (s : DM) (q : DW) (O : Nat → Prop) (sv0 pv0 : Value) (N most : Nat) (W0 : World) (B : Nat → List Nat) (hBd : ∀ i, B i = (s.F (nm (seg L0.name i))).b) (h : WL w W0 l d m L0 s q O sv0 pv0) (hs : L0.segs = []) (hp : L0.pls = []) (hsv0 : sv0.ownBlock = none) (hpv0 : pv0.ownBlock = none) (hnl : L0.name.size ≤ 32) (ho : s.off = false) (hN : N ≤ 99) (hhas : ∀ i, i < N → Maps.has s.D (.string (nm (seg L0.name i))) = true) (hno : Maps.has s.D (.string (nm (seg L0.name N))) = false) (htot : tot B N ≤ 1048576) (hsz : L0.size = most + 12) (hm : most ≤ 1048576) :
    Calls Tryz.prog 73 #[.pointer (some ⟨l, 0, none⟩)] W0 fun e W' => e = .returned (.bool (scn B N most N L0).2) ∧ ∃ sv pv, WL w W' l d m (scn B N most N L0).1 s q O sv pv ∧ Ext W0 W' l sv pv := by
  obtain ⟨R, hR⟩ : ∃ R, scn B N most N L0 = R := ⟨_, rfl⟩
  rw [hR]
  obtain ⟨nme, hnme⟩ : ∃ nme, L0.name = nme := ⟨_, rfl⟩
  rw [hnme] at hBd hnl hhas hno
  have HH := hide (And.intro h (And.intro hs (And.intro hp (And.intro hnme (And.intro hsz (And.intro hsv0 hpv0))))))
  have HR := hide hR
  have HC := hide (And.intro hBd (And.intro hnl (And.intro ho (And.intro hN (And.intro hhas (And.intro hno (And.intro htot hm)))))))
  clear h hR hs hp hnme hsz hsv0 hpv0 hBd hnl ho hN hhas hno htot hm
  go_enter Tryz.func73, Tryz.ntmps73
  go_wp2_with fail
  refine wp_scope_jumps2c (JS2x w W0 l d m nme s q O B N most R) (muS l) rfl rfl ?_ ?_ ?_
  · intro a W hJ
    simp only [JS2x, if_neg (show ¬ (1 : Nat) = 0 by decide)] at hJ
    obtain ⟨L, sv, pv, ao, cap, rest, f, g, x, ss, u1, u4, u5, u6, u7, u8, u9, u10, u11, u12, u13, u14, u15, u16, u17, u18, u19, u20, u21, u22, u23, u24, u25, u26, u27, u28, u29, u30, u31, u32, u33, u34, u35, u36, u37, u38, u39, u40, u41, u42, u43, u44, u45, u46, u47, u48, u49, u50, u51, u52, u53, u54, u55, u56, u57, u58, u59, u60, u61, u62, u63, rfl, hW, hn, hz, hsg, hk1, hk2, hg, hfin, hx, ht, hsrc, hcap, hap, hxt⟩ := hJ
    have hlen : L.segs.length = ss.length + 1 := by rw [hsg]; simp
    generalize hMM : muS l 1 { tmps := _, defers := _ } W = M
    have hM : (100 - (ss.length + 1)) * 2000000 + (rest.length + 1) = M := by
      rw [← hMM, muS, segN_eq hW, hlen, if_neg (by decide)]
      rfl
    clear hMM
    dsimp only
    have hN := (unhide HC).2.2.2.1
    have HB := hide (And.intro hW (And.intro hn (And.intro hz (And.intro hsg (And.intro hk1 (And.intro hk2 (And.intro hg (And.intro hfin (And.intro hx (And.intro ht (And.intro hsrc (And.intro hcap (And.intro hap (And.intro hlen (And.intro hM hxt)))))))))))))))
    obtain ⟨c0, c1, c2, c3, c4, fz⟩ := hW.G.cells
    obtain ⟨so, sc, hso⟩ := own_formX hW.G.so
    rw [hso, hlen] at c3
    rw [hz] at c2
    have c2' : W.cell? ⟨l, 2, none⟩ = some (.int .i64 ((most : Int) + 12)) := by simpa using c2
    have hll : l < W.heap.size := lt_of_cell c0
    clear hW hn hz hsg hk2 hg hfin hx ht hap hlen c0 c1 c2 c4 fz hM hsrc hcap hxt
    by_cases hr : rest = []
    · subst hr
      clear c2' c3
      go_wp2_with fail
      go_step3
      refine ⟨by decide, ?_, ?_⟩
      · obtain ⟨hW, hn, hz, hsg, hk1, hk2, hg, hfin, hx, ht, hsrc, hcap, hap, hlen, hM, hxt⟩ := unhide HB
        refine ⟨L, sv, pv, _, f, _, _, _, _, _, _, _, _, _, _, _, _, _, _, _, _, _, _, _, _, _, _, _, _, _, _, _, _, _, _, _, _, _, _, _, _, _, _, _, _, _, _, _, _, _, _, _, _, _, _, _, _, _, _, _, _, _, _, _, _, _, rfl, hW, hn, hz, by rw [hlen]; exact hk1, by rw [hlen]; exact hk2, ?_, by rw [hlen]; simpa using ht, hxt⟩
        rw [frm_nil] at hfin
        exact hfin
      · obtain ⟨hW, hn, hz, hsg, hk1, hk2, hg, hfin, hx, ht, hsrc, hcap, hap, hlen, hM, hxt⟩ := unhide HB
        rw [muS, segN_eq hW, hlen, if_pos rfl]
        simp only [List.length_nil] at hM
        omega
    · have hpos : 0 < rest.length := by
        rcases rest with _ | ⟨a, r⟩
        · exact absurd rfl hr
        · simp
      have hLk : Calls Tryz.prog 102 #[.slice ao rest.length cap, .int .i64 (most : Nat)] W fun e w' => e = .returned (.tuple #[.int .i64 ((lookL rest most).1 : Nat), .int .i64 ((lookL rest most).2 : Nat)]) ∧ Fr (fun _ => False) W w' := look_any ao rest.length cap most rest W (unhide HB).2.2.2.2.2.2.2.2.2.2.1 rfl (unhide HB).2.2.2.2.2.2.2.2.2.2.2.1 (by have := (unhide HB).2.2.2.2.2.2.2.2.1; omega) (by have := (unhide HC).2.2.2.2.2.2.2; omega)
      have HLk := hide hLk
      have HLE := hide (And.intro (lookL_le rest most) (lookL_whole rest most))
      obtain ⟨n, c, hnc⟩ : ∃ n c, lookL rest most = (n, c) := ⟨_, _, rfl⟩
      rw [hnc] at HLk HLE
      have HNC := hide hnc
      have hr0 : ¬ (rest.length : Int) = 0 := by omega
      have hmm := (unhide HC).2.2.2.2.2.2.2
      clear hLk hnc hr
      go_wp2_with fail
      refine (unhide HLk).mono ?_
      clear HLk
      rintro e W1 ⟨rfl, hf1⟩
      have H1 := hide hf1
      clear hf1 c2' c3
      rcases (show c = 0 ∨ c = 1 ∨ c = 2 from (unhide HLE).1) with hc | hc | hc
      · subst hc
        obtain ⟨hW, hn, hz, hsg, hk1, hk2, hg, hfin, hx, ht, hsrc, hcap, hap, hlen, hM, hxt⟩ := unhide HB
        have hle : 12 + n ≤ rest.length := (unhide HLE).2 rfl
        have htN := tot_mono B hk1
        have htt := (unhide HC).2.2.2.2.2.2.1
        have hNt := note2 w l d m L s q O sv pv ss x n W1 (hW.quiet (unhide H1)) hsg (by omega) (by omega) (by omega) (by omega)
        obtain ⟨gb, ob, rfl, -⟩ := src_at hsrc 0 hpos
        have s0 : (0 : Int) ≤ 12 + (n : Int) := by omega
        have s1 : 12 + (n : Int) ≤ (rest.length : Int) := by omega
        have s2 : IntKind.i64.wrap (12 + (n : Int)) = 12 + (n : Int) := by rw [IntKind.wrap_i64]; omega
        have s3 : (12 + (n : Int)).toNat = 12 + n := by omega
        have HNt := hide hNt
        have HL2 := hide (And.intro hle hpos)
        clear hNt hW hn hz hsg hk2 hg hfin hx ht hsrc hap hM hle htN htt hlen hxt
        by_cases hce : cap = 12 + n
        · have hre : rest.length = 12 + n := by have := (unhide HL2).1; omega
          have HRE := hide hre
          subst hce
          clear hre hcap
          go_wp2_with fail
          refine (unhide HNt).mono ?_
          clear HNt
          rintro e W2 ⟨rfl, pv', hW2, hf2, hpv2⟩
          have H2 := hide (And.intro hW2 (And.intro hf2 hpv2))
          clear hW2 hf2 hpv2
          go_wp2_with fail
          go_step3
          obtain ⟨hW, hn, hz, hsg, hk1, hk2, hg, hfin, hx, ht, hsrc, hcap, hap, hlen, hM, hxt⟩ := unhide HB
          have hle := (unhide HL2).1
          have hdl : (rest.drop (12 + n)).length = rest.length - (12 + n) := by simp
          obtain ⟨g', hg', hgo⟩ := frm_go most g rest L (by intro e; rw [e] at hpos; simp at hpos) hg (by rw [unhide HNC])
          rw [unhide HNC] at hgo
          simp only at hgo
          rw [took_eq L ss x n hsg] at hgo
          obtain ⟨cur, fz, hcu⟩ := hap gb ob _ _ rfl
          have hgl : gb < W1.heap.size := by
            have := (unhide H1).size
            rcases Nat.lt_or_ge gb W.heap.size with h | h
            · omega
            · rw [Array.getElem?_eq_none h] at hcu; cases hcu
          have hglW : gb < W.heap.size := by
            rcases Nat.lt_or_ge gb W.heap.size with h | h
            · exact h
            · rw [Array.getElem?_eq_none h] at hcu; cases hcu
          have hnot : ¬ (gb = l ∨ sv.ownBlock = some gb ∨ pv.ownBlock = some gb) := by
            rintro (e | e | e)
            · subst e
              rw [hW.G.blk] at hcu
              simp only [Option.some.injEq, Obj.cells.injEq] at hcu
              exact absurd hcu.2.1 (by decide)
            · exact own_not hW.G.so hcu (by decide) e
            · exact own_not hW.G.po hcu (by decide) e
          have hc1 := ((unhide H1).block gb hglW (fun h => h)).trans hcu
          have hc2 := ((unhide H2).2.1.block gb hgl hnot).trans hc1
          rw [← hdl]
          refine ⟨by decide, ?_, ?_⟩
          · refine ⟨_, sv, pv', some ⟨gb, ob, none⟩, 0, rest.drop (12 + n), f, g', x + (12 + n), ss, _, _, _, _, _, _, _, _, _, _, _, _, _, _, _, _, _, _, _, _, _, _, _, _, _, _, _, _, _, _, _, _, _, _, _, _, _, _, _, _, _, _, _, _, _, _, _, _, _, _, _, _, _, _, _, _, _, _, _, _, _, rfl, (unhide H2).1, hn, hz, rfl, hk1, hk2, by rw [hdl]; omega, by rw [← hgo]; exact hfin, by rw [hdl]; omega, ?_, ?_, by rw [hdl]; have := unhide HRE; omega, ?_, ((hxt.quiet (unhide H1)).went (unhide H2).2.1 (fun _ h => .inl h) (unhide H2).2.2)⟩
            · rw [hdl]; simp; omega
            · rw [hdl]
              have hd0 : rest.length - (12 + n) = 0 := by have := unhide HRE; omega
              have hnil : rest.drop (12 + n) = [] := List.eq_nil_of_length_eq_zero (by rw [hdl]; exact hd0)
              rw [hd0, hnil]
              exact .inr (.inr ⟨_, 0, rfl, rfl⟩)
            · intro g2 o2 m2 c2 e
              simp only [Value.slice.injEq, Option.some.injEq, Addr.mk.injEq] at e
              obtain ⟨⟨rfl, _⟩, _⟩ := e
              exact ⟨cur, fz, hc2⟩
          · rw [muS, segN_eq (unhide H2).1, if_neg (by decide)]
            show (100 - (ss ++ [x + (12 + n)]).length) * 2000000 + ((rest.drop (12 + n)).length + 1) < M
            rw [hdl]
            simp
            omega
        · go_wp2_with fail
          refine (unhide HNt).mono ?_
          clear HNt
          rintro e W2 ⟨rfl, pv', hW2, hf2, hpv2⟩
          have H2 := hide (And.intro hW2 (And.intro hf2 hpv2))
          clear hW2 hf2 hpv2
          go_wp2_with fail
          go_step3
          obtain ⟨hW, hn, hz, hsg, hk1, hk2, hg, hfin, hx, ht, hsrc, hcap, hap, hlen, hM, hxt⟩ := unhide HB
          have hle := (unhide HL2).1
          have hdl : (rest.drop (12 + n)).length = rest.length - (12 + n) := by simp
          obtain ⟨g', hg', hgo⟩ := frm_go most g rest L (by intro e; rw [e] at hpos; simp at hpos) hg (by rw [unhide HNC])
          rw [unhide HNC] at hgo
          simp only at hgo
          rw [took_eq L ss x n hsg] at hgo
          obtain ⟨cur, fz, hcu⟩ := hap gb ob _ _ rfl
          have hgl : gb < W1.heap.size := by
            have := (unhide H1).size
            rcases Nat.lt_or_ge gb W.heap.size with h | h
            · omega
            · rw [Array.getElem?_eq_none h] at hcu; cases hcu
          have hglW : gb < W.heap.size := by
            rcases Nat.lt_or_ge gb W.heap.size with h | h
            · exact h
            · rw [Array.getElem?_eq_none h] at hcu; cases hcu
          have hnot : ¬ (gb = l ∨ sv.ownBlock = some gb ∨ pv.ownBlock = some gb) := by
            rintro (e | e | e)
            · subst e
              rw [hW.G.blk] at hcu
              simp only [Option.some.injEq, Obj.cells.injEq] at hcu
              exact absurd hcu.2.1 (by decide)
            · exact own_not hW.G.so hcu (by decide) e
            · exact own_not hW.G.po hcu (by decide) e
          have hc1 := ((unhide H1).block gb hglW (fun h => h)).trans hcu
          have hc2 := ((unhide H2).2.1.block gb hgl hnot).trans hc1
          rw [← hdl]
          refine ⟨by decide, ?_, ?_⟩
          · refine ⟨_, sv, pv', some ⟨gb, ob + (12 + n), none⟩, cap - (12 + n), rest.drop (12 + n), f, g', x + (12 + n), ss, _, _, _, _, _, _, _, _, _, _, _, _, _, _, _, _, _, _, _, _, _, _, _, _, _, _, _, _, _, _, _, _, _, _, _, _, _, _, _, _, _, _, _, _, _, _, _, _, _, _, _, _, _, _, _, _, _, _, _, _, _, rfl, (unhide H2).1, hn, hz, rfl, hk1, hk2, by rw [hdl]; omega, by rw [← hgo]; exact hfin, by rw [hdl]; omega, ?_, ?_, by rw [hdl]; omega, ?_, ((hxt.quiet (unhide H1)).went (unhide H2).2.1 (fun _ h => .inl h) (unhide H2).2.2)⟩
            · rw [hdl]; simp; omega
            · rw [hdl]
              exact (((hsrc.fr (unhide H1) (fun _ _ _ _ _ h => h)).fr (unhide H2).2.1 (fun g o m c e => by
                simp only [Value.slice.injEq, Option.some.injEq, Addr.mk.injEq] at e
                obtain ⟨⟨rfl, _⟩, _⟩ := e
                exact hnot))).dropC rfl hle _
            · intro g2 o2 m2 c2 e
              simp only [Value.slice.injEq, Option.some.injEq, Addr.mk.injEq] at e
              obtain ⟨⟨rfl, _⟩, _⟩ := e
              exact ⟨cur, fz, hc2⟩
          · rw [muS, segN_eq (unhide H2).1, if_neg (by decide)]
            show (100 - (ss ++ [x + (12 + n)]).length) * 2000000 + ((rest.drop (12 + n)).length + 1) < M
            rw [hdl]
            simp
            omega
      · subst hc
        obtain ⟨hW, hn, hz, hsg, hk1, hk2, hg, hfin, hx, ht, hsrc, hcap, hap, hlen, hM, hxt⟩ := unhide HB
        have hW1 := hW.quiet (unhide H1)
        have c3 := hW1.G.cells.2.2.2.1
        obtain ⟨so2, sc2, hso2⟩ := own_formX hW1.G.so
        rw [hso2, hlen] at c3
        rw [frm_end most g rest L (by intro e; rw [e] at hpos; simp at hpos) hg (by rw [unhide HNC]; simp), unhide HNC] at hfin
        have hRR : R = (L, decide (N ≤ L.segs.length)) := by rw [← hfin]; rfl
        have HRR := hide hRR
        obtain ⟨hBd, hnl, ho, hN9, hhas, hno, htot, hm9⟩ := unhide HC
        by_cases hNe : N = ss.length + 1
        · have hLd := load_none w l d m L s q O sv pv (ss.length + 1) W1 hW1 (by omega) (by rw [hn]; exact hnl) ho (by rw [hn, ← hNe]; exact hno)
          rw [show (((ss.length + 1 : Nat)) : Int) = (ss.length : Int) + 1 by omega] at hLd
          have HLd := hide hLd
          have HFN := hide (And.intro hlen hNe)
          clear hLd hW hn hz hsg hk1 hk2 hg hfin hx ht hsrc hcap hap hlen hM hxt hW1 hso2 hRR hBd hnl ho hN9 hhas hno htot hm9 hNe
          go_wp2_with fail
          refine (unhide HLd).mono ?_
          clear HLd
          rintro e W2 ⟨rfl, hf2⟩
          have H2 := hide hf2
          clear hf2
          go_wp2_with fail
          simp only [jump2]
          go_ret
          exact ⟨by rw [unhide HRR]; simp [(unhide HFN).1, (unhide HFN).2], sv, pv, by rw [unhide HRR]; exact ((unhide HB).1.quiet (unhide H1)).quiet (unhide H2), ((unhide HB).2.2.2.2.2.2.2.2.2.2.2.2.2.2.2.quiet (unhide H1)).quiet (unhide H2)⟩
        · have hlt : ss.length + 1 < N := by omega
          have hbl : (s.F (nm (seg L.name (ss.length + 1)))).b.length ≤ 1048576 := by
            rw [hn, ← hBd]
            have h1 := tot_mono B (show ss.length + 1 + 1 ≤ N by omega)
            simp only [tot] at h1
            omega
          have hLd := load_at w l d m L s q O sv pv (ss.length + 1) W1 hW1 (by omega) (by rw [hn]; exact hnl) ho (by rw [hn]; exact hhas _ hlt) hbl
          rw [show (((ss.length + 1 : Nat)) : Int) = (ss.length : Int) + 1 by omega] at hLd
          have HLd := hide hLd
          have HFN := hide (And.intro hlen hlt)
          clear hLd hW hn hz hsg hk1 hk2 hg hfin hx ht hsrc hcap hap hlen hM hxt hW1 hso2 hRR hBd hnl ho hN9 hhas hno htot hm9 hNe hlt hbl
          go_wp2_with fail
          refine (unhide HLd).mono ?_
          clear HLd
          rintro e W2 ⟨v, rfl, hv2, hf2⟩
          obtain ⟨vo, vc, rfl⟩ := own_formX hv2
          have H2 := hide hf2
          clear hf2 hv2
          go_wp2_with fail
          simp only [jump2]
          go_ret
          exact ⟨by rw [unhide HRR]; simp [(unhide HFN).1, (unhide HFN).2], sv, pv, by rw [unhide HRR]; exact ((unhide HB).1.quiet (unhide H1)).quiet (unhide H2), ((unhide HB).2.2.2.2.2.2.2.2.2.2.2.2.2.2.2.quiet (unhide H1)).quiet (unhide H2)⟩
      · subst hc
        go_wp2_with fail
        simp only [jump2]
        go_ret
        obtain ⟨hW, hn, hz, hsg, hk1, hk2, hg, hfin, hx, ht, hsrc, hcap, hap, hlen, hM, hxt⟩ := unhide HB
        rw [frm_end most g rest L (by intro e; rw [e] at hpos; simp at hpos) hg (by rw [unhide HNC]; simp), unhide HNC] at hfin
        have hR : R = (L, false) := by rw [← hfin]; rfl
        exact ⟨by rw [hR]; rfl, sv, pv, by rw [hR]; exact hW.quiet (unhide H1), hxt.quiet (unhide H1)⟩
  · intro P1 a W hJ
    simp only [JS2x] at hJ
    obtain ⟨L, sv, pv, v3, f, u1, u4, u5, u6, u7, u8, u9, u10, u11, u12, u13, u14, u15, u16, u17, u18, u19, u20, u21, u22, u23, u24, u25, u26, u27, u28, u29, u30, u31, u32, u33, u34, u35, u36, u37, u38, u39, u40, u41, u42, u43, u44, u45, u46, u47, u48, u49, u50, u51, u52, u53, u54, u55, u56, u57, u58, u59, u60, u61, u62, u63, rfl, hW, hn, hz, hk1, hk2, hsc, ht, hxt⟩ := hJ
    generalize hMM : muS l 0 { tmps := _, defers := _ } W = M
    have hM : (100 - L.segs.length) * 2000000 = M := by
      rw [← hMM, muS, segN_eq hW, if_pos rfl, Nat.add_zero]
    clear hMM
    dsimp only
    obtain ⟨hBd, hnl, ho, hN9, hhas, hno, htot, hm9⟩ := unhide HC
    have c3 := hW.G.cells.2.2.2.1
    obtain ⟨so, sc, hso⟩ := own_formX hW.G.so
    subst hso
    have hP1 := hide P1
    by_cases hlt : L.segs.length < N
    · have hbl0 : (B L.segs.length).length ≤ 1048576 := by
        have h1 := tot_mono B (show L.segs.length + 1 ≤ N by omega)
        simp only [tot] at h1
        omega
      have hLd := load_at w l d m L s q O _ pv L.segs.length W hW (by omega) (by rw [hn]; exact hnl) ho (by rw [hn]; exact hhas _ hlt) (by rw [hn, ← hBd]; exact hbl0)
      rw [hn, ← hBd] at hLd
      have HLd := hide hLd
      have HB := hide (And.intro hW (And.intro hn (And.intro hz (And.intro hk1 (And.intro hk2 (And.intro hsc (And.intro ht (And.intro hM (And.intro hlt (And.intro hbl0 (And.intro htot hxt)))))))))))
      clear hLd hW hn hz hk1 hk2 hsc ht hM hxt hbl0 hBd hnl ho hhas hno htot hm9 P1
      go_wp2_with fail
      refine (unhide HLd).mono ?_
      clear HLd
      rintro e W1 ⟨v, rfl, hv1, hf1⟩
      obtain ⟨vo, vc, rfl⟩ := own_formX hv1
      have hW1 := (unhide HB).1.quiet hf1
      obtain ⟨c0', c1', c2', c3', c4', fz'⟩ := hW1.G.cells
      have f3' := fz' 3
      obtain ⟨ao, cap, w3, hr3, hown3, hf3, hb3⟩ := app_int W1 _ L.segs 0 hW1.G.so (by have := (unhide HB).2.2.2.1; omega)
      obtain ⟨hG3, hF3⟩ := hW1.G.addSeg hown3 hf3 hb3
      have h0 : w3.heap[l]? = W1.heap[l]? := hf3.block l hW1.G.lt.1 (fun e => (hW1.G.kinds.1 l e).1 rfl)
      have hl3 : w3.frozen? ⟨l, 3, none⟩ = false := by simp [World.frozen?, h0, hW1.G.blk]
      have hl3c : w3.cell? ⟨l, 3, none⟩ = some (.slice so L.segs.length sc) := by
        rw [← c3']
        simp only [World.cell?, h0]
      have hW3 := hW1.log hG3 hF3 hb3 (fun g hg => .inl hg)
      have HR3 := hide hr3
      have H3 := hide (And.intro hW3 (And.intro hF3 (And.intro hv1 (And.intro hW1 (And.intro hf1 hb3)))))
      clear hr3 hown3 hf3 hb3 hG3 hF3 hW3 c0' c1' c2' c4' fz' h0 hv1 hW1 hf1
      go_wp2_with (at_builtin; refine wpList_app rfl _ _ 37 37 rfl _ _ _ rfl rfl (unhide HR3) ?_; clear HR3)
      go_step3
      refine (‹∀ (a : Act) (w : World), Code.wp _ _ _ a w → _› : _) _ _ ?_
      obtain ⟨hW, hn, hz, hk1, hk2, hsc, ht, hM, hlt', hbl0, htot, hxt⟩ := unhide HB
      obtain ⟨hW3, hF3, hv1, hW1, hf1, hb3⟩ := unhide H3
      obtain ⟨f', rfl⟩ : ∃ f', f = f' + 1 := ⟨f - 1, by omega⟩
      rw [scn_go B N most f' L hlt] at hsc
      have hsrc1 := own_src hv1
      have hl0 := hW.G.lt
      refine Code.wp_mono (jump2_mono fun _ _ _ h => ⟨h.1, Nat.lt_of_lt_of_le h.2 ?_⟩) ((unhide hP1) _ _ ?_)
      · rw [muS, segN_eq hW3, if_neg (by decide)]
        generalize hrn : restN _ = r
        have hr2 : (B L.segs.length).length = r := by
          rw [← hrn]
          rfl
        have hl2 : ({ L with segs := L.segs ++ [0] } : LM).segs.length = L.segs.length + 1 := by simp
        rw [hl2, ← hr2]
        omega
      · show JS2x _ _ _ _ _ _ _ _ _ _ _ _ _ 1 _ _
        rw [JS2x, if_neg (by decide)]
        refine ⟨_, _, pv, vo, vc, B L.segs.length, f', (B L.segs.length).length + 1, 0, L.segs, _, _, _, _, _, _, _, _, _, _, _, _, _, _, _, _, _, _, _, _, _, _, _, _, _, _, _, _, _, _, _, _, _, _, _, _, _, _, _, _, _, _, _, _, _, _, _, _, _, _, _, _, _, _, _, _, _, _, _, _, _, rfl, hW3, hn, hz, rfl, by omega, by omega, by omega, hsc, by omega, by simp only [tot]; omega, ?_, ?_, ?_, (hxt.quiet hf1).went hF3 hb3 (fun _ h => .inl h)⟩
        · refine hsrc1.fr hF3 (fun g o m c e => ?_)
          simp only [Value.slice.injEq] at e
          have hb := hv1.lt g (by rw [e.1]; rfl)
          rintro (h | h | h)
          · omega
          · have := hl0.2.1 g h; omega
          · have := hl0.2.2 g h; omega
        · rcases hv1.2 with ⟨e, e0⟩ | ⟨g, cap', cur, e, _, _, hnc, _⟩
          · omega
          · simp only [Value.slice.injEq] at e
            obtain ⟨_, _, rfl⟩ := e
            exact hnc
        · intro g o m c e
          simp only [Value.slice.injEq] at e
          have hb := hv1.lt g (by rw [e.1]; rfl)
          rcases hv1.2 with ⟨e1, _⟩ | ⟨g', cap', cur, e1, _, e3, _⟩
          · simp only [Value.slice.injEq] at e1
            rw [e1.1] at e; cases e.1
          · simp only [Value.slice.injEq] at e1
            have hgg : g' = g := by
              have := e1.1.symm.trans e.1
              have h2 : g' = g ∧ 0 = o := by simpa using this
              exact h2.1
            subst hgg
            refine ⟨cur, (0, 0), (hF3.block g' hb.2 ?_).trans e3⟩
            rintro (h | h | h)
            · omega
            · have := hl0.2.1 g' h; omega
            · have := hl0.2.2 g' h; omega
    · have hNe : L.segs.length = N := by omega
      have hLd := load_none w l d m L s q O _ pv L.segs.length W hW (by omega) (by rw [hn]; exact hnl) ho (by rw [hn, hNe]; exact hno)
      have HLd := hide hLd
      rw [scn_end B N most f L hlt] at hsc
      have HB := hide (And.intro hW (And.intro hsc hxt))
      clear hLd hW hn hz hk1 hk2 hsc ht hM hxt hBd hnl ho hhas hno htot hm9 P1 hP1 hNe hlt
      go_wp2_with fail
      refine (unhide HLd).mono ?_
      clear HLd
      rintro e W1 ⟨rfl, hf1⟩
      have H1 := hide hf1
      clear hf1
      go_wp2_with fail
      simp only [jump2]
      go_ret
      exact ⟨by rw [← (unhide HB).2.1]; rfl, _, pv, by rw [← (unhide HB).2.1]; exact (unhide HB).1.quiet (unhide H1), (unhide HB).2.2.quiet (unhide H1)⟩
  · intro P0
    have HP0 := hide P0
    clear P0
    go_wp2_with fail
    go_step3
    refine (‹∀ (a : Act) (w : World), Code.wp _ _ _ a w → _› : _) _ _ ?_
    obtain ⟨h, hs, hp, hnme, hsz, hsv0, hpv0⟩ := unhide HH
    refine Code.wp_mono (jump2_mono fun _ _ _ h => h.1) ((unhide HP0) _ _ ?_)
    show JS2x _ _ _ _ _ _ _ _ _ _ _ _ _ 0 _ _
    rw [JS2x, if_pos rfl]
    refine ⟨L0, sv0, pv0, _, N, _, _, _, _, _, _, _, _, _, _, _, _, _, _, _, _, _, _, _, _, _, _, _, _, _, _, _, _, _, _, _, _, _, _, _, _, _, _, _, _, _, _, _, _, _, _, _, _, _, _, _, _, _, _, _, _, _, _, _, _, _, rfl, h, hnme, hsz, by rw [hs]; simp, by rw [hs]; simp, unhide HR, by rw [hs, hp]; simp, ⟨Fr.refl _ _, fun g hg => (by rw [hsv0] at hg; cases hg), fun g hg => (by rw [hpv0] at hg; cases hg)⟩⟩
end Go.Proofs.YtmmaddlphclpnaaGreatDoor

namespace Go.Proofs.YtmmaddlphclpnaaGreatDoor
open Go.RowKit Go.ChangeShapes Go.WideShapes Go.Maps Go.Sort

theorem LT.n {s : DM} {Z : Nat} {I : List (List (List Nat))} {ps : List (List Nat)} {t : List Nat} {V : Nat} (h : LT s Z I ps t V) : I.length + ps.length ≤ 70 := by
  have := flat_ge I h.ne
  have := h.few
  omega
theorem LT.used {s : DM} {Z : Nat} {I : List (List (List Nat))} {ps : List (List Nat)} {t : List Nat} {V : Nat} (h : LT s Z I ps t V) : s.used ≤ 42600 := by
  obtain ⟨pc, sf, hf, _⟩ := h.fl
  have hn := h.n
  have hz := h.z
  have := tot_le (fun i => (LB I ⟨fby ps ++ t, sf, pc⟩ i).b) 600 (I.length + 1) (fun i hi => by
    by_cases e : i = I.length
    · subst e
      simp only [LB_last]
      have := h.lg
      omega
    · have hi2 : i < I.length := by omega
      simp only [LB_old _ _ hi2]
      have := h.sg (I.getD i []) (by
        rw [List.getD_eq_getElem?_getD, List.getElem?_eq_getElem hi2]
        exact List.mem_append_left _ (List.getElem_mem hi2))
      omega)
  have e := hf.used
  have : (I.length + 1) * 600 ≤ 71 * 600 := Nat.mul_le_mul_right _ (by omega)
  omega
set_option maxHeartbeats 1000000 in
set_option maxRecDepth 100000 in
/-- Log.find of a log that is there. -/
theorem wfind_at (w : World) (l d m : Nat) (s : DM) (q : DW) (O : Nat → Prop) (Z V : Nat) (I : List (List (List Nat))) (ps : List (List Nat)) (t : List Nat) (W : World) (h : WL w W l d m ⟨sLog, Z, [], []⟩ s q O (.slice none 0 0) (.slice none 0 0)) (hT : LT s Z I ps t V) (hZ : 16 ≤ Z) :
    Calls Tryz.prog 38 #[.pointer (some ⟨l, 0, none⟩)] W fun e W' => e = .returned (.int .i64 0) ∧ ∃ s' q' O' sv' pv', WL w W' l d m (LM.of sLog Z (I ++ [ps])) s' q' O' sv' pv' ∧ LS s' Z I ps ps.length V ∧ (∀ k, O' k → O k ∨ W.heap.size ≤ k) ∧ (∀ g, sv'.ownBlock = some g → W.heap.size ≤ g) ∧ (∀ g, pv'.ownBlock = some g → W.heap.size ≤ g) ∧ Fr (fun k => O k ∨ k = l) W W' := by
  obtain ⟨pc, sf, hf, hpc, hsz⟩ := hT.fl
  have hn := hT.n
  have hz := hT.z
  have hus := hT.used
  have htot : tot (fun i => (s.F (nm (seg sLog i))).b) (I.length + 1) ≤ 1048576 := by
    have e : tot (fun i => (s.F (nm (seg sLog i))).b) (I.length + 1) = s.used := by
      rw [hf.used]
      exact tot_eq (fun i hi => by rw [hf.F i hi])
    omega
  have hsc := scan_ext w l d m ⟨sLog, Z, [], []⟩ s q O _ _ (I.length + 1) (Z - 12) W (fun i => (s.F (nm (seg sLog i))).b) (fun _ => rfl) h rfl rfl rfl rfl (by show (3 : Nat) ≤ 32; decide) hT.good.off (by omega) (fun i hi => hf.has hi) (hf.no (Nat.le_refl _) (by omega)) htot (by show Z = _; omega) (by omega)
  rw [hT.scan] at hsc
  have ilen : (I.map (fun ps => (fby ps).length)).length = I.length := List.length_map _
  have HSC := hide hsc
  have HB : Hid (∀ W1 sv pv, WL w W1 l d m (LM.of sLog Z (I ++ [ps])) s q O sv pv → Ext W W1 l sv pv → Calls Tryz.prog 75 #[.pointer (some ⟨l, 0, none⟩)] W1 fun e W' => e = .returned (.int .i64 0) ∧ ∃ s' q' O' sv' pv', WL w W' l d m (LM.of sLog Z (I ++ [ps])) s' q' O' sv' pv' ∧ LS s' Z I ps ps.length V ∧ (∀ k, O' k → O k ∨ W.heap.size ≤ k) ∧ (∀ g, sv'.ownBlock = some g → W.heap.size ≤ g) ∧ (∀ g, pv'.ownBlock = some g → W.heap.size ≤ g) ∧ Fr (fun k => O k ∨ k = l) W W') := fun W1 sv pv h1 hx => by
    have hst := settle_any w l d m (LM.of sLog Z (I ++ [ps])) s q O sv pv _ _ (LB I ⟨fby ps ++ t, sf, pc⟩) W1 h1 (of_segs ..) (by rw [ilen]; omega) (by show (3 : Nat) ≤ 32; decide) hT.good.off (by rw [ilen]; exact hf) (by rw [ilen, LB_last]; simp) (by omega) (by rw [ilen, LB_last]; simp only; omega) (by rw [ilen, LB_last]; intro p hp; have := hsz p hp; omega)
    rw [ilen] at hst
    refine hst.mono ?_
    rintro e W2 ⟨rfl, hS⟩
    obtain ⟨sk, qk, Ok, h2, hl, hfl, hO, hfr⟩ := hS.ex
    refine ⟨rfl, sk, qk, Ok, sv, pv, h2, hT.settled hl (LB I ⟨fby ps ++ t, sf, pc⟩) hf.F (hfl.congr (fun i hi => by rw [if_pos hi])), fun k hk => (hO k hk).imp id (Nat.le_trans hx.1.size), hx.2.1, hx.2.2, (hx.1.mono (fun _ _ h => .inr h)).trans hfr (fun _ _ h => .inl h)⟩
  have HK : Hid (∀ W1 sv pv, WL w W1 l d m (LM.of sLog Z (I ++ [ps])) s q O sv pv → ∃ so sc, W1.cell? ⟨l, 3, none⟩ = some (.slice so (I.length + 1) sc)) := fun W1 sv pv h1 => by
    obtain ⟨so, sc, e⟩ := own_formX h1.G.so
    have := h1.G.cells.2.2.2.1
    rw [e, of_segs] at this
    simp only [List.length_append, List.length_map, List.length_singleton] at this
    exact ⟨so, sc, this⟩
  clear h hsc hf hus htot
  go_enter Tryz.func38, Tryz.ntmps38
  go_wp2_with fail
  refine (unhide HSC).mono ?_
  rintro e w1 ⟨rfl, sv, pv, hW1, hx1⟩
  obtain ⟨so, sc, c3⟩ := (unhide HK) _ _ _ hW1
  have HB1 := hide ((unhide HB) _ _ _ hW1 hx1)
  clear hW1 hx1
  have hne : ¬ ((I.length : Int) + 1 = 0) := by omega
  go_wp2_with fail
  refine (unhide HB1).mono ?_
  rintro e w2 ⟨rfl, hW⟩
  have HW := hide hW
  clear hW
  go_wp2_with fail
  go_ret
  exact ⟨rfl, unhide HW⟩
set_option maxHeartbeats 1000000 in
set_option maxRecDepth 100000 in
/-- Open of a log that is there. -/
theorem wopen_at (w : World) (d m : Nat) (s : DM) (q : DW) (O : Nat → Prop) (Z V : Nat) (I : List (List (List Nat))) (ps : List (List Nat)) (t : List Nat) (W : World) (h : DS w W d m s q O) (hT : LT s Z I ps t V) (hZ : 16 ≤ Z) :
    Calls Tryz.prog 10 #[.pointer (some ⟨d, 0, none⟩), .string sLog, .int .i64 (Z : Nat)] W fun e W' => ∃ l, e = .returned (.tuple #[.pointer (some ⟨l, 0, none⟩), .int .i64 0]) ∧ ∃ s' q' O' sv' pv', WL w W' l d m (LM.of sLog Z (I ++ [ps])) s' q' O' sv' pv' ∧ LS s' Z I ps ps.length V ∧ (∀ k, Ours l O' sv' pv' k → O k ∨ W.heap.size ≤ k) ∧ Fr O W W' := by
  have HO := hide (off_any d m s q O W h.D)
  rw [hT.good.off] at HO
  have HF : Hid (∀ W1 W2 l, Fr (fun _ => False) W W1 → W2 = W1.alloc (.cells #[.pointer (some ⟨d, 0, none⟩), .string sLog, .int .i64 (Z : Nat), .slice none 0 0, .slice none 0 0] 82) → l = W1.heap.size → Calls Tryz.prog 38 #[.pointer (some ⟨l, 0, none⟩)] W2 fun e W' => e = .returned (.int .i64 0) ∧ ∃ s' q' O' sv' pv', WL w W' l d m (LM.of sLog Z (I ++ [ps])) s' q' O' sv' pv' ∧ LS s' Z I ps ps.length V ∧ (∀ k, Ours l O' sv' pv' k → O k ∨ W.heap.size ≤ k) ∧ Fr O W W') := fun W1 W2 l hf e2 el => by
    subst el
    subst e2
    have h1 := h.quiet hf
    have hbx := box1 W1 (.cells #[.pointer (some ⟨d, 0, none⟩), .string sLog, .int .i64 (Z : Nat), .slice none 0 0, .slice none 0 0] 82)
    have h2 := h1.quiet hbx
    have hw : WL w (W1.alloc (.cells #[.pointer (some ⟨d, 0, none⟩), .string sLog, .int .i64 (Z : Nat), .slice none 0 0, .slice none 0 0] 82)) W1.heap.size d m ⟨sLog, Z, [], []⟩ s q O (.slice none 0 0) (.slice none 0 0) :=
      ⟨h2.D, ⟨heap_alloc_new _ _, World.ownsRow_nil _ _ _ _, World.ownsRow_nil _ _ _ _⟩, fun e => Nat.lt_irrefl _ (h1.D.lt _ e), fun g hg => (by cases hg), fun g hg => (by cases hg), h2.fr, h2.o, h1.fr.size, fun g hg => (by cases hg), fun g hg => (by cases hg)⟩
    refine (wfind_at w W1.heap.size d m s q O Z V I ps t _ hw hT hZ).mono ?_
    rintro e W3 ⟨rfl, s', q', O', sv', pv', h3, hS, hO, hsv, hpv, hfr⟩
    have hs12 : W.heap.size ≤ (W1.alloc (.cells #[.pointer (some ⟨d, 0, none⟩), .string sLog, .int .i64 (Z : Nat), .slice none 0 0, .slice none 0 0] 82)).heap.size := Nat.le_trans hf.size hbx.size
    refine ⟨rfl, s', q', O', sv', pv', h3, hS, fun k hk => ?_, ((hf.trans hbx (fun _ _ h => h)).mono (fun _ _ h => h.elim)).trans hfr (fun k hk e => ?_)⟩
    · rcases hk with e | e | e | e
      · exact (hO k e).imp id (Nat.le_trans hs12)
      · exact .inr (by rw [e]; exact hf.size)
      · exact .inr (Nat.le_trans hs12 (hsv k e))
      · exact .inr (Nat.le_trans hs12 (hpv k e))
    · rcases e with e | e
      · exact e
      · have := hf.size
        omega
  have HC : Hid (∀ W', Calls Tryz.prog 37 #[.string sLog] W' fun e w' => e = .returned (.string sLog) ∧ Fr (fun _ => False) W' w') := fun W' => sclone_any sLog W' (by decide)
  have hz := hT.z
  have h1 : ¬ (sLog.size : Int) < 1 := by decide
  have h2 : ¬ (32 : Int) < (sLog.size : Int) := by decide
  have h3 : ¬ (Z : Int) < 16 := by omega
  have h4 : ¬ (1048576 : Int) < (Z : Int) := by omega
  clear h hz hZ
  generalize sLog = NM at *
  go_enter Tryz.func10, Tryz.ntmps10
  go_wp2_with (go_at_call 33; refine (unhide HO).mono ?_; rintro e w' ⟨rfl, rfl⟩; clear HO)
  refine ((unhide HC) _).mono ?_
  rintro e w1 ⟨rfl, hf1⟩
  have HF1 := hide ((unhide HF) w1 _ _ hf1 rfl rfl)
  clear hf1 HF HC
  go_wp2_with (go_at_call 38; refine (unhide HF1).mono ?_; rintro e w2 ⟨rfl, hW⟩; clear HF1; have HW := hide hW; clear hW)
  go_ret2
  exact ⟨_, rfl, unhide HW⟩
end Go.Proofs.YtmmaddlphclpnaaGreatDoor

namespace Go.Proofs.YtmmaddlphclpnaaGreatDoor
open Go.RowKit Go.ChangeShapes Go.WideShapes Go.Maps Go.Sort

theorem KV.cell {w W : World} {ao : Option Addr} {cap : Nat} {ks : List (List Nat)} {us : List Value} (h : KV w W (.slice ao ks.length cap) ks us) (hf : Fr (fun _ => False) w W) (j : Nat) (p : List Nat) (hp : ks[j]? = some p) : ∃ g, ao = some ⟨g, 0, none⟩ ∧ ∃ ho hc, W.cell? ⟨g, j, none⟩ = some (.slice ho p.length hc) ∧ Src W (.slice ho p.length hc) p := by
  have hj : j < ks.length := (List.getElem?_eq_some_iff.1 hp).1
  have hju : j < us.length := by rw [h.len]; exact hj
  obtain ⟨gb, cb, eb, _, _⟩ := h.row.form (by omega)
  simp only [Value.slice.injEq, true_and] at eb
  obtain ⟨rfl, rfl⟩ := eb
  obtain ⟨⟨ho, hc, e, _⟩, hs⟩ := h.el j us[j] p (List.getElem?_eq_getElem hju) hp
  refine ⟨gb, rfl, ho, hc, ?_, by rw [← e]; exact hs.fr0 hf⟩
  rw [← e]
  have := h.row.cellAt j (by omega)
  rw [this]
  exact List.getElem?_eq_getElem hju
theorem KV.rds {w W : World} {ao : Option Addr} {cap : Nat} {ks : List (List Nat)} {us : List Value} (h : KV w W (.slice ao ks.length cap) ks us) (hf : Fr (fun _ => False) w W) (n : Nat) : Rds W ao (ks.take n) := fun j p hp => by
  refine h.cell hf j p ?_
  have hj : j < (ks.take n).length := (List.getElem?_eq_some_iff.1 hp).1
  rw [List.length_take] at hj
  rw [List.getElem?_take_of_lt (by omega)] at hp
  exact hp
theorem KV.cap {w W : World} {ao : Option Addr} {cap : Nat} {ks : List (List Nat)} {us : List Value} (h : KV w W (.slice ao ks.length cap) ks us) : ks.length ≤ cap := by
  rcases h.row.2 with ⟨e, e0⟩ | ⟨g, c, cur, e, _, _, hc, _⟩
  · omega
  · simp only [Value.slice.injEq] at e
    omega
theorem wholes_step (ps : List (List Nat)) (k n : Nat) (p : List Nat) (hp : ps[k]? = some p) (hn : p.length + 12 ≤ n) : wholes (ps.drop k) n = wholes (ps.drop (k + 1)) (n - (p.length + 12)) + 1 := by
  have hk : k < ps.length := (List.getElem?_eq_some_iff.1 hp).1
  have e : ps[k] = p := (List.getElem?_eq_some_iff.1 hp).2
  rw [List.drop_eq_getElem_cons hk, e, wholes, if_pos hn]
theorem wholes_stop (ps : List (List Nat)) (k n : Nat) (p : List Nat) (hp : ps[k]? = some p) (hn : ¬ p.length + 12 ≤ n) : wholes (ps.drop k) n = 0 := by
  have hk : k < ps.length := (List.getElem?_eq_some_iff.1 hp).1
  have e : ps[k] = p := (List.getElem?_eq_some_iff.1 hp).2
  rw [List.drop_eq_getElem_cons hk, e, wholes, if_neg hn]
set_option maxHeartbeats 40000000 in
set_option maxRecDepth 100000 in
/-- WalWhole. -/
theorem wwhole_any (size keep : Int) (xo : Option Addr) (xc : Nat) (pays : List (List Nat)) (w : World) (hP : KJ w xo pays) (hl : pays.length < 9223372036854775808) (hkp : keep ≤ 9223372036854775807) :
    Calls Tryz.prog 6 #[.int .i64 size, .slice xo pays.length xc, .int .i64 keep] w fun e w' => e = .returned (.bool true) ∧ Fr (fun _ => False) w w' := by
  have hzz := segZ_lt size
  have HP := hide hP
  clear hP
  go_enter Tryz.func6, Tryz.ntmps6
  go_wp2_with fail
  refine (awake9 w).mono ?_
  rintro e w1 ⟨rfl, hf1⟩
  have H1 := hide hf1
  clear hf1
  go_wp2_with fail
  refine (begun_any w size (-1) xo xc pays w1 (unhide H1) (unhide HP) hl).mono ?_
  rintro e w2 ⟨l, d, m, kv, rfl, hB⟩
  obtain ⟨ks, hks⟩ : ∃ ks, ks = kps (segZ size) pays (min pays.length 60) := ⟨_, rfl⟩
  rw [← hks] at hB
  clear hks
  obtain ⟨ao, cap, rfl⟩ := hB.kv
  obtain ⟨s, q, O, sv, pv, I, ps, j, us, g1, g2, g3, g4, g5, g6⟩ := hB.ex
  obtain rfl : j = 0 := g6 rfl
  generalize segZ size = Z at *
  have hlen : I.flatten.length + ps.length = ks.length := by rw [← g3, List.length_append]
  have hfew := g2.few
  have hcap := g4.cap
  have hsyn := wsyn_of w l d m s q O sv pv Z 0 60 I ps w2 g1 g2
  rw [Nat.add_zero] at hsyn
  have HS := hide hsyn
  have hpn := g2.sg ps (by simp)
  have hZ := g2.z
  have G := hide (And.intro g1 (And.intro g2 (And.intro g3 (And.intro g4 g5))))
  clear hB g1 g2 g3 g4 g5 g6 hsyn H1 HP
  go_wp2_with fail
  refine (unhide HS).mono ?_
  rintro e w3 ⟨rfl, hf3⟩
  have hpd := wpend_any w d m s q O Z 0 60 I ps w3 ((unhide G).1.quiet hf3).ds (unhide G).2.1
  rw [List.take_zero, fby_nil, List.length_nil, Nat.sub_zero] at hpd
  have HPD := hide hpd
  have H3 := hide hf3
  clear hf3 hpd HS
  obtain ⟨F, hF⟩ : ∃ F, F = I.flatten.length := ⟨_, rfl⟩
  obtain ⟨pn, hpn0⟩ : ∃ pn, pn = (fby ps).length := ⟨_, rfl⟩
  rw [← hpn0] at HPD hpn
  rw [← hF] at hlen hfew ⊢
  have HF := hide (And.intro hF hpn0)
  have HLN := hide hlen
  clear hF hpn0
  go_wp2_with fail
  refine (unhide HPD).mono ?_
  rintro e w4 ⟨rfl, hf4⟩
  have H4 := hide ((unhide H3).trans hf4 (fun _ _ h => h))
  clear hf4 HPD H3
  go_wp2_with fail
  obtain ⟨n0, hn0⟩ : ∃ n0 : Nat, n0 = min keep.toNat pn := ⟨_, rfl⟩
  have hmx : max (0 : Int) (min keep (pn : Int)) = (n0 : Int) := by omega
  rw [hmx]
  have hn06 : n0 ≤ 600 := by omega
  have HN0 := hide hn0
  clear hmx hn0
  go_loopw [12, 13] (fun lv wv wr => ∃ k n T : Nat, lv = .int .i64 (n : Nat) ∧ wv = .int .i64 (T : Nat) ∧ T = F + k ∧ k ≤ ps.length ∧ n ≤ 600 ∧ wholes ps n0 = k + wholes (ps.drop k) n ∧ Fr (fun _ => False) w4 wr) (fun _ wv _ => F + ps.length - (intOf wv).toNat)
  case atStart => exact ⟨0, n0, F, rfl, rfl, rfl, Nat.zero_le _, hn06, by simp, Fr.refl _ _⟩
  case round =>
    obtain ⟨k, n, T, rfl, rfl, hTk, hk, hn, hwh, hf⟩ := hrel
    have HTk := hide hTk
    have hTle : T ≤ F + ps.length := by omega
    by_cases hkl : k < ps.length
    · have hpk : ks[T]? = some ps[k] := by
        rw [← (unhide G).2.2.1, hTk, (unhide HF).1, List.getElem?_append_right (by omega), Nat.add_sub_cancel_left, List.getElem?_eq_getElem hkl]
      have hfw := ((unhide G).1.fr.trans (unhide H4) (fun _ _ h => h)).trans hf (fun _ _ h => h)
      have hkvr := (unhide G).2.2.2.1.fr ((unhide H4).trans hf (fun _ _ h => h)) (fun _ _ h => h)
      obtain ⟨g, hao, ho, hc, hcell, _⟩ := hkvr.cell hfw T _ hpk
      have hP12 := (unhide G).2.1.pay ps (by simp) _ (List.getElem_mem hkl)
      have hpe : ps[k]? = some ps[k] := List.getElem?_eq_getElem hkl
      have hst := wholes_step ps k n ps[k] hpe
      have hso := wholes_stop ps k n ps[k] hpe
      generalize ps[k] = P at hcell hP12 hst hso
      have hi : (T : Int) < (ks.length : Int) := by omega
      have hw12 : IntKind.i64.wrap ((P.length : Int) + 12) = (P.length : Int) + 12 := by rw [IntKind.wrap_i64]; omega
      have hTl : T < ks.length := by omega
      clear hpk hfw hkvr hpe hTk hlen
      by_cases hfit : (P.length : Int) + 12 ≤ (n : Int)
      · have hwa : IntKind.i64.wrap ((n : Int) - (P.length : Int)) = (n : Int) - (P.length : Int) := by rw [IntKind.wrap_i64]; omega
        have hwb : IntKind.i64.wrap ((n : Int) - (P.length : Int) - 12) = (n : Int) - (P.length : Int) - 12 := by rw [IntKind.wrap_i64]; omega
        have hwT : IntKind.i64.wrap ((T : Int) + 1) = (T : Int) + 1 := by rw [IntKind.wrap_i64]; omega
        have hst1 := hst (by omega)
        subst hao
        have HX := hide (And.intro hst1 (And.intro hwh hf))
        clear hst hso hst1 hwh hf
        go_wp2_with fail
        refine ⟨⟨k + 1, n - (P.length + 12), T + 1, ?_, ?_, by have := unhide HTk; omega, by omega, by omega, ?_, (unhide HX).2.2⟩, by simp only [intOf]; have := unhide HTk; omega⟩
        · rw [show ((n - (P.length + 12) : Nat) : Int) = (n : Int) - (P.length : Int) - 12 by omega]
        · rw [show ((T + 1 : Nat) : Int) = (T : Int) + 1 by omega]
        · rw [(unhide HX).2.1, (unhide HX).1]; omega
      · have hK : wholes ps n0 = k := by rw [hwh, hso (by omega), Nat.add_zero]
        have hcell2 : wr.cell? ⟨g, T, none⟩ = some (.slice ho P.length hc) := hcell
        clear hst hso hcell
        subst hao
        have hfW := (unhide H4).trans hf (fun _ _ h => h)
        have gW := (unhide G).1.quiet hfW
        have hT2 := wcrash_any w d m keep s q O Z 0 60 I ps wr gW.ds (unhide G).2.1 hkp
        have ek : 0 + wholes (ps.drop 0) (min keep.toNat ((fby ps).length - (fby (ps.take 0)).length)) = k := by
          rw [List.drop_zero, List.take_zero, fby_nil, List.length_nil, Nat.sub_zero, ← (unhide HF).2, ← unhide HN0, Nat.zero_add]; exact hK
        rw [ek] at hT2
        have HT2 := hide hT2
        have HW := hide (And.intro hfW gW)
        have HK := hide (And.intro (unhide HTk) (And.intro hk hK))
        have hTc : (T : Int) ≤ (cap : Int) := by omega
        clear hT2 ek hfW gW hK hwh hf
        go_wp2_with fail
        refine (unhide HT2).mono ?_
        rintro e w5 ⟨rfl, s5, q5, hD5, hf5, t, hT5⟩
        have H5 := hide (And.intro hf5 hT5)
        have HS5 := hide (start_any d m s5 q5 O w5 hD5)
        clear hD5 hf5 hT5 HT2
        go_wp2_with fail
        refine (unhide HS5).mono ?_
        rintro e w6 ⟨rfl, hD6, hf6⟩
        have hDS : DS w w6 d m _ q5 O := ⟨hD6, ((unhide HW).2.fr.absorb (unhide H5).1 (unhide HW).2.o).absorb hf6 (fun k e => by rw [e]; exact (unhide HW).2.o _ (unhide HW).2.D.od), (unhide HW).2.o⟩
        have HO6 := hide (wopen_at w d m _ q5 O Z 60 I (ps.take k) t w6 hDS (unhide H5).2 hzz.1)
        have H6 := hide hf6
        clear hD6 hf6 hDS HS5
        go_wp2_with fail
        refine (unhide HO6).mono ?_
        rintro e w7 ⟨l7, rfl, s7, q7, O7, sv7, pv7, h7, hS7, _, hf7⟩
        have hkv7 : KV w w7 (.slice (some ⟨g, 0, none⟩) ks.length cap) ks us := by
          obtain ⟨g1, g2, g3, g4, g5⟩ := unhide G
          refine (((g4.fr (unhide HW).1 (fun _ _ h => h)).fr (unhide H5).1 (fun g hg ho => g5 g hg (.inl ho))).fr (unhide H6) (fun g hg e => g5 g hg (.inl ?_))).fr hf7 (fun g hg ho => g5 g hg (.inl ho))
          rw [e]
          exact (unhide HW).2.D.od
        have eks : I.flatten ++ ps.take k = ks.take T := by
          rw [← (unhide G).2.2.1, (unhide HK).1, (unhide HF).1, List.take_length_add_append]
        have hlT : (ks.take T).length = T := by
          rw [List.length_take]
          have := (unhide HK).1
          have := (unhide HK).2.1
          have := unhide HLN
          omega
        have hho := holds_of w l7 d m s7 q7 O7 sv7 pv7 Z 60 I (ps.take k) (ks.take T) (some ⟨g, 0, none⟩) cap w7 h7 hS7 eks (hkv7.rds h7.fr T)
        rw [hlT] at hho
        have HH := hide hho
        have H7 := hide h7.fr
        clear h7 hS7 hf7 hkv7 eks hlT hho HO6 H6 H5
        go_wp2_with fail
        refine (unhide HH).mono ?_
        rintro e w8 ⟨rfl, hf8⟩
        have H8 := hide ((unhide H7).trans hf8 (fun _ _ h => h))
        clear hf8 H7 HH
        go_wp2_with fail
        go_ret
        exact ⟨rfl, unhide H8⟩
    · have hK : wholes ps n0 = k := by
        rw [hwh, List.drop_eq_nil_of_le (by omega)]; rfl
      have hi : ¬ (T : Int) < (ks.length : Int) := by omega
      have hTl : T ≤ ks.length := by omega
      clear hTk hlen
      have hfW := (unhide H4).trans hf (fun _ _ h => h)
      have gW := (unhide G).1.quiet hfW
      have hT2 := wcrash_any w d m keep s q O Z 0 60 I ps wr gW.ds (unhide G).2.1 hkp
      have ek : 0 + wholes (ps.drop 0) (min keep.toNat ((fby ps).length - (fby (ps.take 0)).length)) = k := by
        rw [List.drop_zero, List.take_zero, fby_nil, List.length_nil, Nat.sub_zero, ← (unhide HF).2, ← unhide HN0, Nat.zero_add]; exact hK
      rw [ek] at hT2
      have HT2 := hide hT2
      have HW := hide (And.intro hfW gW)
      have HK := hide (And.intro (unhide HTk) (And.intro hk hK))
      have hTc : (T : Int) ≤ (cap : Int) := by omega
      clear hT2 ek hfW gW hK hwh hf
      go_wp2_with fail
      refine (unhide HT2).mono ?_
      rintro e w5 ⟨rfl, s5, q5, hD5, hf5, t, hT5⟩
      have H5 := hide (And.intro hf5 hT5)
      have HS5 := hide (start_any d m s5 q5 O w5 hD5)
      clear hD5 hf5 hT5 HT2
      go_wp2_with fail
      refine (unhide HS5).mono ?_
      rintro e w6 ⟨rfl, hD6, hf6⟩
      have hDS : DS w w6 d m _ q5 O := ⟨hD6, ((unhide HW).2.fr.absorb (unhide H5).1 (unhide HW).2.o).absorb hf6 (fun k e => by rw [e]; exact (unhide HW).2.o _ (unhide HW).2.D.od), (unhide HW).2.o⟩
      have HO6 := hide (wopen_at w d m _ q5 O Z 60 I (ps.take k) t w6 hDS (unhide H5).2 hzz.1)
      have H6 := hide hf6
      clear hD6 hf6 hDS HS5
      go_wp2_with fail
      refine (unhide HO6).mono ?_
      rintro e w7 ⟨l7, rfl, s7, q7, O7, sv7, pv7, h7, hS7, _, hf7⟩
      have hkv7 : KV w w7 (.slice ao ks.length cap) ks us := by
        obtain ⟨g1, g2, g3, g4, g5⟩ := unhide G
        refine (((g4.fr (unhide HW).1 (fun _ _ h => h)).fr (unhide H5).1 (fun g hg ho => g5 g hg (.inl ho))).fr (unhide H6) (fun g hg e => g5 g hg (.inl ?_))).fr hf7 (fun g hg ho => g5 g hg (.inl ho))
        rw [e]
        exact (unhide HW).2.D.od
      have eks : I.flatten ++ ps.take k = ks.take T := by
        rw [← (unhide G).2.2.1, (unhide HK).1, (unhide HF).1, List.take_length_add_append]
      have hlT : (ks.take T).length = T := by
        rw [List.length_take]
        have := (unhide HK).1
        have := (unhide HK).2.1
        have := unhide HLN
        omega
      have hho := holds_of w l7 d m s7 q7 O7 sv7 pv7 Z 60 I (ps.take k) (ks.take T) ao cap w7 h7 hS7 eks (hkv7.rds h7.fr T)
      rw [hlT] at hho
      have HH := hide hho
      have H7 := hide h7.fr
      clear h7 hS7 hf7 hkv7 eks hlT hho HO6 H6 H5
      go_wp2_with fail
      refine (unhide HH).mono ?_
      rintro e w8 ⟨rfl, hf8⟩
      have H8 := hide ((unhide H7).trans hf8 (fun _ _ h => h))
      clear hf8 H7 HH
      go_wp2_with fail
      go_ret
      exact ⟨rfl, unhide H8⟩
end Go.Proofs.YtmmaddlphclpnaaGreatDoor

namespace Go.Proofs.YtmmaddlphclpnaaGreatDoor
open Go.ChangeShapes Go.WideShapes Go.ChangeAt Go.RowKit
set_option maxRecDepth 100000

noncomputable def yWorld (os : Os) : World :=
  let w0 := World.holding Tryz.prog os ⟨#[], #[], []⟩
  { w0 with heap := (((w0.heap.modify 2 fun
      | .cells _ t frozen => .cells (Lib.deBruijn64tab.map fun n : Nat => Value.int .u8 (n : Int)).toArray t frozen
      | o => o).modify 1 fun
      | .cells _ t frozen => .cells (Lib.deBruijn32tab.map fun n : Nat => Value.int .u8 (n : Int)).toArray t frozen
      | o => o).modify 0 fun
      | .cells _ t frozen => .cells (Lib.pow10Tab.map fun n : Int => Value.int .u64 n).toArray t frozen
      | o => o) }
theorem ywhole_contract (H : Type) (enc : TypeId × Value → H) (W : World) (base : Nat) (args : Array Value) (ds gs : List (DataW H)) (before : List MemPlace)
    (hval : ∀ (j : Nat) t v, Tryz.f6.params[j]? = some t → args[j]? = some v → Value.okWide Tryz.prog W .any base t v)
    (hW : DataW.Whole enc Tryz.prog Tryz.f6.params.toList Rows.walWholeSpec.vars false W args.toList ds gs before) (hk : Rows.uptoSmall H (ds ++ gs) = true) :
    Calls Tryz.prog 6 args W fun e W' => ∃ v, e = .returned v ∧ Rows.walWholeSpec.post enc Tryz.prog Tryz.f6 false true false false W args v W' := by
  have hW' := hW
  obtain ⟨p, q, hA0, hV, rfl, hfz, hnd⟩ := hW
  have hA : DataW.TrodAll enc Tryz.prog W 0 (fun _ => true) true Tryz.f6.params.toList args.toList ds p := hA0
  rw [Tryz.params6] at hA hval
  obtain ⟨v0, vs0, d0, ds0, p0, q0, hargs, rfl, rfl, h0, r0⟩ := trodAll_cons hA
  obtain ⟨v1, vs1, d1, ds1, p1, q1, rfl, rfl, rfl, h1, r1⟩ := trodAll_cons r0
  obtain ⟨v2, vs2, d2, ds2, p2, q2, rfl, rfl, rfl, h2, r2⟩ := trodAll_cons r1
  obtain ⟨rfl, rfl, rfl⟩ := trodAll_nil r2
  obtain rfl : args = #[v0, v1, v2] := by cases args; simp_all
  obtain ⟨rfl, rfl⟩ := trodVars_none hV
  have hbulk : Rows.uptoBulk d0 + (Rows.uptoBulk d1 + (Rows.uptoBulk d2 + 0)) ≤ 1048576 := by
    have h := of_decide_eq_true hk
    simpa only [List.append_nil, Rows.uptoBulkAll] using h
  obtain ⟨a0, rfl, rfl, rfl, w0⟩ := open_int Tryz.underlying3 (hval 0 3 v0 rfl rfl) h0
  have bd0 := bounds_i64 w0
  obtain ⟨xo1, xc1, hs1, rfl, hL1, hP1⟩ := pcj_of_reading (hval 1 67 v1 rfl rfl) h1 (by omega)
  obtain ⟨a2, rfl, rfl, rfl, w2⟩ := open_int Tryz.underlying3 (hval 2 3 v2 rfl rfl) h2
  have bd2 := bounds_i64 w2
  refine (wwhole_any a0 a2 xo1 xc1 hs1 W hP1 hL1 (by omega)).mono fun e W' ⟨he, hf⟩ => ?_
  subst he
  have hlt : ∀ x ∈ [] ++ (p1 ++ ([] ++ [])), x.block < W.heap.size := fun x hx => hW'.lt x (by simpa using hx)
  have hb := hf.below
  refine ⟨_, rfl, _, _, _, [], [] ++ (p1 ++ ([] ++ [])), [], hW', ?_, ?_, ?_, hb.frame _, fun h => by cases h⟩
  · exact trodAll_cons_mk (shut_bool Tryz.underlying4 true) trodAll_mk0
  · exact trodAll_cons_mk (shut_int Tryz.underlying3 w0) (trodAll_cons_mk (Below.trod (by kernel_rfl) (by kernel_rfl) (by decide +kernel) h1 hb (fun x hx => hlt x (by simp [hx]))) (trodAll_cons_mk (shut_int Tryz.underlying3 w2) trodAll_mk0))
  · rfl
theorem ywhole_laid_met (os : Os) : laidMetH Tryz.prog Rows.walWholeUptoRow.laid ((yWorld os).forCall (fun _ _ => 0) ⟨#[], #[.int .i64 0, .slice none 0 0, .int .i64 0], []⟩).memory :=
  laidMetH_of_parts (laidMet_of_run' 8 (by kernel_rfl) (by kernel_rfl)) (by kernel_rfl)
theorem ywhole_reads (os : Os) {H : Type} (enc : TypeId × Value → H) : ∃ places, DataW.whole enc Tryz.prog ((yWorld os).forCall (fun _ _ => 0) ⟨#[], #[.int .i64 0, .slice none 0 0, .int .i64 0], []⟩).memory Tryz.f6.params.toList Rows.walWholeSpec.vars false #[Value.int .i64 0, .slice none 0 0, .int .i64 0].toList 8 = some ([.lit (.int .i64 0), .nil, .lit (.int .i64 0)], [], places) :=
  ⟨[], by kernel_rfl⟩
theorem ywhole_lifted (os : Os) (started : os.Started) (H : Type) (enc : TypeId × Value → H) (F : Stop.Interp) :
    ReturnsInHanded {} Tryz.checked os 6 .any ((Rows.OpenSpec.upto Rows.walWholeSpec).preRow enc Tryz.prog Tryz.f6 Rows.walWholeUptoRow.domain false Rows.walWholeUptoRow.laid) (((Rows.OpenSpec.upto Rows.walWholeSpec).at F).post enc Tryz.prog Tryz.f6 false true false false) := by
  obtain ⟨places, hx⟩ := ywhole_reads os enc
  refine returnsInHanded_of_row (C := Tryz.checked) (s := Rows.OpenSpec.upto Rows.walWholeSpec) Tryz.ownKnob started (by kernel_rfl) Tryz.func6
    (witness_row_atRef (enc := enc) (C := Tryz.checked) false (yWorld os) #[.int .i64 0, .slice none 0 0, .int .i64 0] rfl (by kernel_rfl) (by kernel_rfl) (by kernel_rfl)
      (OpenSpec.preRow_of_cond 8 hx (by kernel_rfl) (fun k hk => by cases hk; kernel_rfl) (by kernel_rfl) (ywhole_laid_met os))) ?_
  intro W base args ds gs before hval hW _ hcond _ _ _ _
  exact ywhole_contract H enc W base args ds gs before hval hW (hcond _ rfl)
theorem ywhole_said : Rows.WalWholeUptoSaid :=
  OpenClaim.holds_of_cond 6 Tryz.f6 rfl rfl rfl rfl rfl rfl rfl ⟨rfl, rfl, rfl, rfl, rfl⟩ rfl rfl rfl rfl rfl (by kernel_rfl) Tryz.func6 (by kernel_rfl)
    (of_decide_eq_true (by kernel_rfl)) (by unfold Func.isWrapper; first | (rw [if_pos (by decide +kernel)]; kernel_rfl) | (rw [if_neg (by decide +kernel)]; exact ⟨rfl, rfl⟩))
    (fun os started H enc _ F => by rw [OpenClaim.pre_eq_preRow]; exact ywhole_lifted os started H enc F)
theorem ywhole_plain (f : FuncId) (fn : Func) (hf : Tryz.pinned.checked.prog.funcNamed Rows.walWholeUptoRow.func = some f) (hfn : Tryz.pinned.checked.prog.funcs[f]? = some fn) :
    false = Tryz.pinned.checked.prog.looks [] ∧ ∀ (j : Nat) t, fn.params[j]? = some t → Tryz.pinned.checked.prog.wantsStandIn t = false := by
  obtain rfl : f = 6 := Option.some.inj ((show Tryz.prog.funcNamed Rows.walWholeUptoRow.func = some 6 by kernel_rfl).symm.trans hf) |>.symm
  obtain rfl : fn = Tryz.f6 := (Option.some.inj (Tryz.func6.symm.trans hfn)).symm
  refine ⟨by kernel_rfl, fun j t ht => ?_⟩
  rw [Tryz.params6] at ht
  have ht' : t = 3 ∨ t = 67 := by
    have h := Array.mem_of_getElem? ht
    simp at h
    first
      | (rcases h with rfl | rfl | rfl | rfl | rfl | rfl <;> simp)
      | (rcases h with rfl | rfl | rfl | rfl | rfl <;> simp)
      | (rcases h with rfl | rfl | rfl | rfl <;> simp)
      | (rcases h with rfl | rfl | rfl <;> simp)
      | (rcases h with rfl | rfl <;> simp)
  rcases ht' with rfl | rfl
  · exact (show Tryz.prog.wantsStandIn 3 = false by kernel_rfl)
  · exact (show Tryz.prog.wantsStandIn 67 = false by kernel_rfl)
/-- THE SECOND FORM's CARD. -/
theorem ywhole_card : Rows.WalWholeUptoCardSaid :=
  Claim7.holds_tied_plain_at .later [] _ _ _ _ ywhole_said (fun _ h => by cases h) (by kernel_rfl) (fun _ h => by cases h) walWholeUpto_row_tie rfl ⟨rfl, rfl⟩ (by kernel_rfl) rfl ywhole_plain (by kernel_rfl)
#print axioms ywhole_card
end Go.Proofs.YtmmaddlphclpnaaGreatDoor

