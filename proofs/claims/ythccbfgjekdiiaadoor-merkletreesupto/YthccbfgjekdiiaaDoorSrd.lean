import Derived.Test.YthccbfgjekdiiaaDoorSck
namespace Go.Proofs.YthccbfgjekdiiaaDoor
open Go.RowKit

theorem make0 (x : Nat) (w : World) (hx : x ≤ 16777216) : ∃ w', (Instr.makeSlice 25 (.int .i64 0) (.int .i64 (x : Int))).run Tryd.prog w = .ok (.slice (some ⟨w.heap.size, 0, none⟩) 0 x) w' ∧ w'.ownsRow w.heap.size 5 1 (.slice (some ⟨w.heap.size, 0, none⟩) 0 x) 0 [] ∧ Fr (fun _ => False) w w' := by
  have hz' : (Tryd.prog.info? 5).bind (·.zero) = some (.int .u8 0) := by kernel_rfl
  have hs' : (Tryd.prog.info? 5).map (·.size) = some 1 := by kernel_rfl
  have hb' : (Tryd.prog.info? 5).map (·.bytes) = some 1 := by kernel_rfl
  obtain ⟨i, hi, hz⟩ := Option.bind_eq_some_iff.1 hz'
  rw [hi] at hs' hb'
  have hs : i.size = 1 := by simpa using hs'
  have hb : i.bytes = 1 := by simpa using hb'
  obtain ⟨w', hr, ho, hg⟩ := run_makeSlice_owned (P := Tryd.prog) w w.heap.size 25 5 i (.int .u8 0) 1 Tryd.underlying25 hi hz hs .i64 .i64 x (by omega) (by rw [hb]; omega) (by simp only [maxLen]; omega) (Nat.le_refl _)
  exact ⟨w', hr, ho, (Fr.refl _ _).grown hg (fun _ h => by cases h)⟩
/-- Bytes of one's own, laid since w. -/
structure OB (w wr : World) (xo : Option Addr) (cp : Nat) (l : List Nat) : Prop where
  own : wr.ownsRow w.heap.size 5 1 (.slice xo l.length cp) l.length (cellsOf l)
  fr : Fr (fun _ => False) w wr
theorem OB.src {w wr : World} {xo : Option Addr} {cp : Nat} {l : List Nat} (h : OB w wr xo cp l) : Src wr (.slice xo l.length cp) l := own_src h.own
theorem OB.app {w wr : World} {xo : Option Addr} {cp : Nat} {l : List Nat} (h : OB w wr xo cp l) (x : Value) (c : List Nat) (hx : Src wr x c) (hb : l.length + c.length ≤ 140737488355328) :
    ∃ ao cp' w2, (Builtin.append_ #[25, 25] 25 #[.slice xo l.length cp, x]).run Tryd.prog wr = .ok (.slice ao (l ++ c).length cp') w2 ∧ OB w w2 ao cp' (l ++ c) := by
  obtain ⟨ao, cp', w2, hr, hown, hgrow, _⟩ := run_app_sl wr 25 w.heap.size l.length _ x _ c h.own hx hb h.fr.size
  rw [← List.length_append] at hr hown
  exact ⟨ao, cp', w2, hr, by rw [cellsOf_append]; exact hown, h.fr.grown hgrow (fun g hg => .inr (h.own.lt g hg).1)⟩
theorem OB.app1 {w wr : World} {xo : Option Addr} {cp : Nat} {l : List Nat} (h : OB w wr xo cp l) (V : Nat) (hV : V < 256) (hb : l.length + 1 ≤ 140737488355328) :
    ∃ ao cp' w2, (Builtin.append_ #[25, 25] 25 #[.slice xo l.length cp, .slice (some ⟨wr.heap.size, 0, none⟩) 1 1]).run Tryd.prog (wr.alloc (.cells #[.int .u8 (V : Int)] 5)) = .ok (.slice ao (l ++ [V]).length cp') w2 ∧ OB w w2 ao cp' (l ++ [V]) := by
  have h2 : OB w (wr.alloc (.cells #[.int .u8 (V : Int)] 5)) xo cp l := ⟨ownsRow_of_block h.own (fun g hg => Below.heap_alloc _ _ _ (h.own.lt g hg).2), h.fr.alloc _⟩
  exact h2.app _ [V] (lit_src wr [V] #[.int .u8 (V : Int)] 1 1 rfl (by simp [cellsOf, B, Nat.mod_eq_of_lt hV])) hb
def zN (m : List Nat) : Nat := (119 - m.length % 64) % 64
def lb (m : List Nat) (t : Nat) : Nat := 8 * m.length / 256 ^ (7 - t) % 256
def pdz (m : List Nat) (j : Nat) : List Nat := m ++ [128] ++ List.replicate j 0
def pdk (m : List Nat) (t : Nat) : List Nat := pdz m (zN m) ++ (List.range t).map (lb m)
/-- The padded bytes. -/
def pd (m : List Nat) : List Nat := pdk m 8
theorem pdz_len (m : List Nat) (j : Nat) : (pdz m j).length = m.length + 1 + j := by simp [pdz]; omega
theorem pdk_len (m : List Nat) (t : Nat) : (pdk m t).length = m.length + 1 + zN m + t := by simp [pdk, pdz_len]
theorem pdz_succ (m : List Nat) (j : Nat) : pdz m j ++ [0] = pdz m (j + 1) := by simp [pdz, List.replicate_succ']
theorem pdk_succ (m : List Nat) (t : Nat) : pdk m t ++ [lb m t] = pdk m (t + 1) := by simp [pdk, List.range_succ]
theorem lb_lt (m : List Nat) (t : Nat) : lb m t < 256 := Nat.mod_lt _ (by decide)
theorem and_255 (a : Nat) (h : a < 18446744073709551616) : bits .and .u64 (a : Int) 255 = ((a % 256 : Nat) : Int) := by
  rw [show (255 : Int) = ((255 : Nat) : Int) from rfl, u64_and_nat _ _ h (by decide)]
  rw [show (255 : Nat) = 2 ^ 8 - 1 from rfl, Nat.and_two_pow_sub_one_eq_mod]
set_option maxRecDepth 100000 in
set_option maxHeartbeats 1000000 in
theorem padded_any (x : Value) (m : List Nat) (w : World) (hx : Src w x m) (hm : m.length ≤ 16000000) :
    Calls Tryd.prog 104 #[x] w fun e w' => ∃ ao cp, e = .returned (.slice ao (pd m).length cp) ∧ OB w w' ao cp (pd m) := by
  obtain ⟨xo, xc, rfl⟩ := hx.form
  obtain ⟨w1, hr1, ho1, hF1⟩ := make0 (m.length + 72) w (by omega)
  have hO1 : OB w w1 (some ⟨w.heap.size, 0, none⟩) (m.length + 72) [] := ⟨ho1, hF1⟩
  obtain ⟨a2, c2, w2, hr2, hO2⟩ := hO1.app _ m (hx.fr0 hF1) (by simp; omega)
  obtain ⟨a3, c3, w3, hr3, hO3⟩ := hO2.app1 128 (by decide) (by simp; omega)
  have hO3' : OB w w3 a3 c3 (pdz m 0) := by simpa [pdz] using hO3
  have e2 : ([] ++ m).length = m.length := rfl
  have e3 : ([] ++ m ++ [128]).length = m.length + 1 := by simp
  rw [e2] at hr2 hr3
  rw [e3] at hr3
  have HR1 := hide (show (Instr.makeSlice 25 (.int .i64 0) (.int .i64 ((m.length : Int) + 72))).run Tryd.prog w = .ok (.slice (some ⟨w.heap.size, 0, none⟩) 0 (m.length + 72)) w1 from hr1)
  have HR2 := hide hr2
  have HR3 := hide hr3
  have HO := hide (And.intro hO3' hm)
  clear hr1 hr2 hr3 ho1 hF1 hO1 hO2 hO3 hO3' e2 e3 hx
  have r0 : IntKind.i64.wrap ((m.length : Int) + 72) = (m.length : Int) + 72 := by rw [IntKind.wrap_i64]; omega
  have r1 : IntKind.u64.wrap (m.length : Int) = (m.length : Int) := by rw [IntKind.wrap_u64]; omega
  have r2 : IntKind.u64.wrap ((m.length : Int) * 8) = (m.length : Int) * 8 := by rw [IntKind.wrap_u64]; omega
  clear hm
  generalize hN : m.length = N at *
  have hr1 := unhide HR1
  go_enter Tryd.func104, Tryd.ntmps104
  go_wp2_with (first | (at_builtin; refine wpList_app rfl (.tmp 10) (.tmp 11) 25 25 rfl _ _ _ rfl rfl (unhide HR2) ?_) | (at_builtin; refine wpList_app rfl (.tmp 13) (.tmp 14) 25 25 rfl _ _ _ rfl rfl (unhide HR3) ?_))
  clear hr1
  go_loopw [3] (fun v wr => ∃ j ao cp, j ≤ zN m ∧ v = .slice ao (N + 1 + j) cp ∧ OB w wr ao cp (pdz m j)) (fun v _ => match v with | .slice _ n _ => N + 1 + zN m - n | _ => 0)
  case atStart => exact ⟨0, _, _, Nat.zero_le _, rfl, (unhide HO).1⟩
  case round =>
    obtain ⟨j, ao, cp, hj, rfl, hI⟩ := hrel
    have hz : zN m < 64 := Nat.mod_lt _ (by decide)
    have hzN : zN m = (119 - N % 64) % 64 := by rw [zN, hN]
    have hb := (unhide HO).2
    by_cases hlt : j < zN m
    · have q1 : ¬ ((N : Int) + 1 + (j : Int)) % 64 = 56 := by omega
      have hlp : (pdz m j).length = N + 1 + j := by rw [pdz_len, hN]
      obtain ⟨a4, c4, w4, hr4, hO4⟩ := hI.app1 0 (by decide) (by rw [hlp]; omega)
      rw [List.length_append, hlp] at hr4
      rw [pdz_succ] at hO4
      have HR4 := hide hr4
      have HO4 := hide hO4
      clear hr4 hO4 hlp hzN hI
      go_wp2_with (at_builtin; refine wpList_app rfl (.tmp 20) (.tmp 21) 25 25 rfl _ _ _ rfl rfl (unhide HR4) ?_)
      exact ⟨⟨j + 1, _, _, by omega, rfl, unhide HO4⟩, by simp; omega⟩
    · have hje : j = zN m := by omega
      have q1 : ((N : Int) + 1 + (j : Int)) % 64 = 56 := by omega
      have hI2 : OB w wr ao cp (pdk m 0) := by rw [hje] at hI; simpa [pdk] using hI
      have HI := hide (And.intro hI2 (And.intro hz hje))
      clear hI hI2 hj hzN hlt hz hje
      go_wp2_with fail
      clear q1
      go_loopw [3, 5] (fun v i wq => ∃ (t : Nat) (ao : Option Addr) (cp : Nat), t ≤ 8 ∧ i = .int .i64 (7 - (t : Int)) ∧ v = .slice ao (N + 1 + j + t) cp ∧ OB w wq ao cp (pdk m t)) (fun _ i _ => (intOf i + 1).toNat)
      case atStart => exact ⟨0, _, _, Nat.zero_le _, rfl, rfl, (unhide HI).1⟩
      case round =>
        obtain ⟨t, ao', cp', ht, rfl, rfl, hQ⟩ := hrel
        have hb2 := (unhide HO).2
        have hz := (unhide HI).2.1
        have hje := (unhide HI).2.2
        by_cases hlt : t < 8
        · have g1 : (0 : Int) ≤ 7 - (t : Int) := by omega
          have hlp : (pdk m t).length = N + 1 + j + t := by rw [pdk_len, hN, hje]
          obtain ⟨a4, c4, w4, hr4, hO4⟩ := hQ.app1 (lb m t) (lb_lt m t) (by rw [hlp]; omega)
          rw [List.length_append, hlp] at hr4
          rw [pdk_succ] at hO4
          have hlb : bits .and .u64 ((N : Int) * 8 / 2 ^ (8 * (7 - t))) 255 = ((lb m t : Nat) : Int) := by
            have h256 : (256 : Nat) ^ (7 - t) = 2 ^ (8 * (7 - t)) := by rw [Nat.pow_mul]
            have e1 : (N : Int) * 8 / 2 ^ (8 * (7 - t)) = ((8 * N / 2 ^ (8 * (7 - t)) : Nat) : Int) := by
              rw [Nat.mul_comm 8 N]; simp
            rw [e1, and_255 _ (Nat.lt_of_le_of_lt (Nat.div_le_self _ _) (by omega)), lb, hN, h256]
          have hlb2 := lb_lt m t
          have e7 : (8 * (7 - (t : Int))).toNat = 8 * (7 - t) := by omega
          have e8 : IntKind.i64.wrap (8 * (7 - (t : Int))) = 8 * (7 - (t : Int)) := by rw [IntKind.wrap_i64]; omega
          have e9 : IntKind.u64.wrap (8 * (7 - (t : Int))) = 8 * (7 - (t : Int)) := by rw [IntKind.wrap_u64]; omega
          have e10 : (0 : Int) ≤ 8 * (7 - (t : Int)) := by omega
          generalize lb m t = V at *
          have e11 : IntKind.u8.wrap (V : Int) = (V : Int) := by rw [IntKind.wrap_u8]; omega
          have e12 : IntKind.i64.wrap (7 - (t : Int) - 1) = 7 - (t : Int) - 1 := by rw [IntKind.wrap_i64]; omega
          have HR4 := hide hr4
          have HO4 := hide hO4
          clear hr4 hO4 hlp hQ hje
          go_wp2_with (at_builtin; refine wpList_app rfl (.tmp 31) (.tmp 39) 25 25 rfl _ _ _ rfl rfl (unhide HR4) ?_)
          exact ⟨⟨t + 1, _, _, by omega, by go_num, rfl, unhide HO4⟩, by simp [intOf]; omega⟩
        · have hte : t = 8 := by omega
          have g1 : ¬ (0 : Int) ≤ 7 - (t : Int) := by omega
          have hlp : (pdk m t).length = N + 1 + j + t := by rw [pdk_len, hN, hje]
          have HQ := hide (And.intro hQ (And.intro hte hlp))
          clear hQ hte hlp hje
          go_wp2_with fail
          go_ret
          obtain ⟨h1, h2, h3⟩ := unhide HQ
          refine ⟨ao', cp', ?_, ?_⟩
          · rw [pd, ← h2, h3]; rfl
          · rw [pd, ← h2]; exact h1
end Go.Proofs.YthccbfgjekdiiaaDoor
