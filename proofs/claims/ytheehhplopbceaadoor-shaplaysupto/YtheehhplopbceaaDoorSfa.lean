import Derived.Test.YtheehhplopbceaaDoorSre
namespace Go.Proofs.YtheehhplopbceaaDoor
open Go.RowKit

theorem ob_of_bt {w w' : World} {g n : Nat} {l : List Nat} (hB : BtAt w' g n (fun j => l.getD j 0)) (hl : l.length = n) (hb : ∀ v ∈ l, v < 256) (hn : NB w w' g n) (hF : Fr (fun _ => False) w w') (hm : n ≤ 32) : OB w w' (some ⟨g, 0, none⟩) n l := by
  obtain ⟨cur, h1, h2⟩ := hn.blk
  subst hl
  refine ⟨⟨by rw [cellsOf_length, Nat.mul_one], .inr ⟨g, l.length, cur, rfl, hn.le, h1, Nat.le_refl _, by simp only [maxLen]; omega, by rw [Nat.mul_one]; exact h2, ?_⟩⟩, hF⟩
  apply List.ext_getElem?
  intro j
  by_cases hj : j < l.length
  · have h3 := (hB j hj).1
    simp only [List.getD, List.getElem?_eq_getElem hj, Option.getD_some] at h3
    rw [cell_of_row w' g j cur 5 (0, 0) h1] at h3
    rw [List.getElem?_take, if_pos (by omega), Array.getElem?_toList, h3, cellsOf, List.getElem?_map, List.getElem?_eq_getElem hj, Option.map_some, B, Nat.mod_eq_of_lt (hb _ (List.getElem_mem hj))]
  · rw [List.getElem?_eq_none (by rw [List.length_take]; omega), List.getElem?_eq_none (by rw [cellsOf_length]; omega)]
theorem sm_lt (i : Int) (m : List Nat) : ∀ v ∈ sm i m, v < 256 := fun v hv => by
  rw [sm] at hv
  split at hv
  · exact sby_lt _ v (List.mem_of_mem_take hv)
  · cases hv
theorem sum_O (i : Int) (c : List Nat) (x : Value) (w : World) (hg : GS w) (hx : Src w x c) (hc : ∀ v ∈ c, v < 256) (hs : c.length < 9223372036854775808) (hcap : ∀ g n c', x = .slice g n c' → n ≤ c') (hlt : ∀ g o' n c', x = .slice (some ⟨g, o', none⟩) n c' → g < w.heap.size) :
    Calls Tryd.prog 10 #[.int .i64 i, x] w fun e w' => ∃ yo, e = .returned (.slice yo (sm i c).length (sm i c).length) ∧ OB w w' yo (sm i c).length (sm i c) := by
  by_cases h : 1 ≤ i ∧ i ≤ 32
  · obtain ⟨n, rfl⟩ : ∃ n : Nat, i = (n : Int) := ⟨i.toNat, by omega⟩
    refine (sum_any n c x w hg hx hc hs hcap hlt (by omega) (by omega)).mono ?_
    rintro e w' ⟨g, rfl, hB, hF, hn⟩
    have hl : (sm (n : Int) c).length = n := by rw [sm_len h, Int.toNat_natCast]
    rw [hl]
    refine ⟨_, rfl, ob_of_bt ?_ hl (sm_lt _ _) hn hF (by omega)⟩
    rw [sm, if_pos h, Int.toNat_natCast]
    exact hB
  · refine (sum_anyout i c x w hg hx hc hs hcap hlt (by omega)).mono ?_
    rintro e w' ⟨rfl, hF⟩
    rw [sm, if_neg h]
    exact ⟨none, rfl, own_nil _ _, hF⟩
theorem hsum_O (i : Int) (b o : Nat) (m : List Nat) (w : World) (hg : GS w) (hh : HM w b o m) (hm : ∀ x ∈ m, x < 256) (ht : m.length < 9223372036854775808) :
    Calls Tryd.prog 14 #[.pointer (some ⟨b, o, none⟩), .int .i64 i] w fun e w' => ∃ yo, e = .returned (.slice yo (sm i m).length (sm i m).length) ∧ OB w w' yo (sm i m).length (sm i m) := by
  by_cases h : 1 ≤ i ∧ i ≤ 32
  · obtain ⟨n, rfl⟩ : ∃ n : Nat, i = (n : Int) := ⟨i.toNat, by omega⟩
    refine (hmsum_any b o n m w hg hh hm ht (by omega) (by omega)).mono ?_
    rintro e w' ⟨g, rfl, hB, hF, hn⟩
    have hl : (sm (n : Int) m).length = n := by rw [sm_len h, Int.toNat_natCast]
    rw [hl]
    refine ⟨_, rfl, ob_of_bt ?_ hl (sm_lt _ _) hn hF (by omega)⟩
    rw [sm, if_pos h, Int.toNat_natCast]
    exact hB
  · refine (hsum_none b o i w (by omega)).mono ?_
    rintro e w' ⟨rfl, rfl⟩
    rw [sm, if_neg h]
    exact ⟨none, rfl, own_nil _ _, Fr.refl _ _⟩
/-- What guarded makes of bytes. -/
def gd (m : List Nat) (k : Nat) : List Nat := m ++ List.replicate k 77
theorem gd_len (m : List Nat) (k : Nat) : (gd m k).length = m.length + k := by simp [gd]
theorem gd_succ (m : List Nat) (k : Nat) : gd m k ++ [77] = gd m (k + 1) := by simp [gd, List.replicate_succ']
set_option maxRecDepth 100000 in
set_option maxHeartbeats 1000000 in
theorem guarded_any (x : Value) (m : List Nat) (w : World) (hx : Src w x m) (hm : m.length ≤ 16000000) :
    Calls Tryd.prog 19 #[x] w fun e w' => ∃ g cp, e = .returned (.tuple #[.slice (some ⟨g, 0, none⟩) m.length cp, .slice (some ⟨g, 0, none⟩) (m.length + 40) cp]) ∧ OB w w' (some ⟨g, 0, none⟩) cp (gd m 40) := by
  obtain ⟨xo, xc, rfl⟩ := hx.form
  obtain ⟨w1, hr1, ho1, hF1⟩ := make0 (m.length + 40) w (by omega)
  have hO1 : OB w w1 (some ⟨w.heap.size, 0, none⟩) (m.length + 40) [] := ⟨ho1, hF1⟩
  obtain ⟨a2, c2, w2, hr2, hO2⟩ := hO1.app _ m (hx.fr0 hF1) (by simp; omega)
  have hO2' : OB w w2 a2 c2 (gd m 0) := by simpa [gd] using hO2
  have e2 : (([] : List Nat) ++ m).length = m.length := rfl
  rw [e2] at hr2
  clear e2
  have HR1 := hide (show (Instr.makeSlice 24 (.int .i64 0) (.int .i64 ((m.length : Int) + 40))).run Tryd.prog w = .ok (.slice (some ⟨w.heap.size, 0, none⟩) 0 (m.length + 40)) w1 from hr1)
  have HR2 := hide hr2
  have HO := hide (And.intro hO2' hm)
  clear hr1 hr2 ho1 hF1 hO1 hO2 hO2' hx
  have r0 : IntKind.i64.wrap ((m.length : Int) + 40) = (m.length : Int) + 40 := by rw [IntKind.wrap_i64]; omega
  clear hm
  generalize hN : m.length = N at *
  have hr1 := unhide HR1
  go_enter Tryd.func19, Tryd.ntmps19
  go_wp2_with (first | (at_builtin; refine wpList_app rfl _ _ 24 24 rfl _ _ _ rfl rfl (unhide HR2) ?_))
  clear hr1
  go_loopw [4, 5] (fun v i wr => ∃ (k : Nat) (ao : Option Addr) (cp : Nat), k ≤ 40 ∧ i = .int .i64 (k : Nat) ∧ v = .slice ao (N + k) cp ∧ OB w wr ao cp (gd m k)) (fun _ i _ => 40 - (intOf i).toNat)
  case atStart => exact ⟨0, _, _, Nat.zero_le _, rfl, rfl, (unhide HO).1⟩
  case round =>
    obtain ⟨k, ao, cp, hk, rfl, rfl, hI⟩ := hrel
    have hb := (unhide HO).2
    by_cases hlt : k < 40
    · have hlt' : (k : Int) < 40 := by omega
      have hlp : (gd m k).length = N + k := by rw [gd_len, hN]
      obtain ⟨a4, c4, w4, hr4, hO4⟩ := hI.app1 77 (by decide) (by rw [hlp]; omega)
      rw [List.length_append, hlp] at hr4
      rw [gd_succ] at hO4
      have HR4 := hide hr4
      have HO4 := hide hO4
      clear hr4 hO4 hlp hI
      go_wp2_with (at_builtin; refine wpList_app rfl (.tmp 17) (.tmp 18) 24 24 rfl _ _ _ rfl rfl (unhide HR4) ?_)
      exact ⟨⟨k + 1, _, _, by omega, by go_num, rfl, unhide HO4⟩, by simp [intOf]; omega⟩
    · have hke : k = 40 := by omega
      have hlt' : ¬ (k : Int) < 40 := by omega
      obtain ⟨g, rfl, _, _, hcp, _⟩ := hI.at_ (by rw [gd_len]; omega)
      have hcp' : (N : Int) ≤ (cp : Int) := by rw [gd_len, hN] at hcp; omega
      have HQ := hide (And.intro hI hke)
      clear hI hke hcp
      go_wp2_with fail
      refine bodyPost_ret (v := .tuple #[.slice (some ⟨g, 0, none⟩) N cp, .slice (some ⟨g, 0, none⟩) (N + k) cp]) (by simp [results, Tryd.results19, go_sem]) rfl ?_
      obtain ⟨h1, h2⟩ := unhide HQ
      subst h2
      exact ⟨g, cp, rfl, h1⟩
theorem gd_at (m : List Nat) (k j : Nat) (hj : j < m.length + k) : (gd m k).getD j 0 = if j < m.length then m.getD j 0 else 77 := by
  rw [gd, List.getD, List.getD]
  by_cases h : j < m.length
  · rw [if_pos h, List.getElem?_append_left h]
  · rw [if_neg h, List.getElem?_append_right (by omega), List.getElem?_replicate, if_pos (by omega)]; rfl
theorem src_cell {w : World} {xo : Option Addr} {n xc : Nat} {a : List Nat} (h : Src w (.slice xo n xc) a) (k : Nat) (hk : k < a.length) (hb : ∀ v ∈ a, v < 256) : ∃ g o, xo = some ⟨g, o, none⟩ ∧ w.cell? ⟨g, o + k, none⟩ = some (.int .u8 ((a.getD k 0 : Nat) : Int)) := by
  obtain ⟨g, o, e, hc⟩ := src_at h k hk
  refine ⟨g, o, e, ?_⟩
  rw [hc, List.getD, List.getElem?_eq_getElem hk, Option.getD_some, Nat.mod_eq_of_lt (hb _ (List.getElem_mem hk))]
set_option maxRecDepth 100000 in
set_option maxHeartbeats 1000000 in
theorem left_T (x y : Value) (m : List Nat) (w : World) (hx : Src w x m) (hy : Src w y (gd m 40)) (hb : ∀ v ∈ m, v < 256) (hm : m.length ≤ 16000000) :
    Calls Tryd.prog 21 #[x, y] w fun e w' => e = .returned (.bool true) ∧ Fr (fun _ => False) w w' := by
  obtain ⟨xo, xc, rfl⟩ := hx.form
  obtain ⟨yo, yc, rfl⟩ := hy.form
  rw [gd_len] at hy ⊢
  have hbg : ∀ v ∈ gd m 40, v < 256 := fun v hv => by
    simp only [gd, List.mem_append, List.mem_replicate] at hv
    rcases hv with h | h
    · exact hb v h
    · omega
  have HX := hide (And.intro hx (And.intro hy (And.intro hb hbg)))
  clear hx hy hb hbg
  generalize hN : m.length = N at *
  go_enter Tryd.func21, Tryd.ntmps21
  go_wp2_with fail
  go_loopw [5] (fun i wr => ∃ (k q : Nat), k ≤ N + 40 ∧ i = .int .i64 (k : Nat) ∧ wr = w.drewN q) (fun i _ => N + 40 - (intOf i).toNat)
  case atStart => exact ⟨0, 0, Nat.zero_le _, rfl, rfl⟩
  case round =>
    obtain ⟨k, q, hk, rfl, rfl⟩ := hrel
    by_cases hlt : k < N + 40
    · have hlt' : (k : Int) < (N : Int) + 40 := by omega
      obtain ⟨gy, oy, rfl, cy⟩ := src_cell (unhide HX).2.1 k (by rw [gd_len, hN]; exact hlt) (unhide HX).2.2.2
      rw [gd_at m 40 k (by rw [hN]; exact hlt), hN] at cy
      by_cases hkn : k < N
      · rw [if_pos hkn] at cy
        obtain ⟨gx, ox, rfl, cx⟩ := src_cell (unhide HX).1 k (by rw [hN]; exact hkn) (unhide HX).2.2.1
        have hkn' : (k : Int) < (N : Int) := by omega
        have hkn2 : ¬ (N : Int) ≤ (k : Int) := by omega
        have hkn3 : ¬ N ≤ k := by omega
        generalize m.getD k 0 = v at *
        go_wp2_with fail
        go_quiet (fail)
        go_wp2_with fail
        exact ⟨⟨k + 1, q + nq, by omega, by go_num, rfl⟩, by simp [intOf]; omega⟩
      · rw [if_neg hkn] at cy
        have hkn' : ¬ (k : Int) < (N : Int) := by omega
        have hkn2 : (N : Int) ≤ (k : Int) := by omega
        go_wp2_with fail
        go_quiet (fail)
        go_wp2_with fail
        exact ⟨⟨k + 1, q + nq, by omega, by go_num, rfl⟩, by simp [intOf]; omega⟩
    · have hlt' : ¬ (k : Int) < (N : Int) + 40 := by omega
      go_wp2_with fail
      go_ret
      exact ⟨rfl, (Fr.refl _ _).drewN q⟩
end Go.Proofs.YtheehhplopbceaaDoor
