import Derived.Test.YthccbfgjekdiiaaDoorSck
import Derived.Test.YthccbfgjekdiiaaDoorSrb
import Derived.Test.YthccbfgjekdiiaaDoorSce
namespace Go.Proofs.YthccbfgjekdiiaaDoor
open Go.RowKit

theorem make0 (x : Nat) (w : World) (hx : x ≤ 16777216) : ∃ w', (Instr.makeSlice 25 (.int .i64 0) (.int .i64 (x : Int))).run Tryd.prog w = .ok (.slice (some ⟨w.heap.size, 0, none⟩) 0 x) w' ∧ w'.ownsRow w.heap.size 5 1 (.slice (some ⟨w.heap.size, 0, none⟩) 0 x) 0 [] ∧ Fr (fun _ => False) w w' := by
  have hz' : (Tryd.prog.info? 5).bind (·.zero) = some (.int .u8 0) := by kernel_rfl
  have hs' : (Tryd.prog.info? 5).map (·.size) = some 1 := by kernel_rfl
  have hb' : (Tryd.prog.info? 5).map (·.bytes) = some 1 := by kernel_rfl
  obtain ⟨i, hi, hz⟩ := Option.bind_eq_some_iff.1 hz'
  rw [hi] at hs' hb'
  have hs : i.size = 1 := by simpa using hs'
  have hb : i.bytes = 1 := by simpa using hb'
  obtain ⟨w', hr, ho, hg⟩ := run_makeSlice_owned (P := Tryd.prog) w w.heap.size 25 5 i (.int .u8 0) 1 Tryd.underlying25 hi hz hs .i64 .i64 x (by omega) (by rw [hb]; omega) (by simp only [maxLen]; omega) (Nat.le_refl _)
  exact ⟨w', hr, ho, (Fr.refl _ _).grown hg (fun _ h => by cases h)⟩
/-- Bytes of one's own, laid since w. -/
structure OB (w wr : World) (xo : Option Addr) (cp : Nat) (l : List Nat) : Prop where
  own : wr.ownsRow w.heap.size 5 1 (.slice xo l.length cp) l.length (cellsOf l)
  fr : Fr (fun _ => False) w wr
theorem OB.src {w wr : World} {xo : Option Addr} {cp : Nat} {l : List Nat} (h : OB w wr xo cp l) : Src wr (.slice xo l.length cp) l := own_src h.own
theorem OB.app {w wr : World} {xo : Option Addr} {cp : Nat} {l : List Nat} (h : OB w wr xo cp l) (x : Value) (c : List Nat) (hx : Src wr x c) (hb : l.length + c.length ≤ 140737488355328) :
    ∃ ao cp' w2, (Builtin.append_ #[25, 25] 25 #[.slice xo l.length cp, x]).run Tryd.prog wr = .ok (.slice ao (l ++ c).length cp') w2 ∧ OB w w2 ao cp' (l ++ c) := by
  obtain ⟨ao, cp', w2, hr, hown, hgrow, _⟩ := run_app_sl wr 25 w.heap.size l.length _ x _ c h.own hx hb h.fr.size
  rw [← List.length_append] at hr hown
  exact ⟨ao, cp', w2, hr, by rw [cellsOf_append]; exact hown, h.fr.grown hgrow (fun g hg => .inr (h.own.lt g hg).1)⟩
theorem OB.app1 {w wr : World} {xo : Option Addr} {cp : Nat} {l : List Nat} (h : OB w wr xo cp l) (V : Nat) (hV : V < 256) (hb : l.length + 1 ≤ 140737488355328) :
    ∃ ao cp' w2, (Builtin.append_ #[25, 25] 25 #[.slice xo l.length cp, .slice (some ⟨wr.heap.size, 0, none⟩) 1 1]).run Tryd.prog (wr.alloc (.cells #[.int .u8 (V : Int)] 5)) = .ok (.slice ao (l ++ [V]).length cp') w2 ∧ OB w w2 ao cp' (l ++ [V]) := by
  have h2 : OB w (wr.alloc (.cells #[.int .u8 (V : Int)] 5)) xo cp l := ⟨ownsRow_of_block h.own (fun g hg => Below.heap_alloc _ _ _ (h.own.lt g hg).2), h.fr.alloc _⟩
  exact h2.app _ [V] (lit_src wr [V] #[.int .u8 (V : Int)] 1 1 rfl (by simp [cellsOf, B, Nat.mod_eq_of_lt hV])) hb
def zN (m : List Nat) : Nat := (119 - m.length % 64) % 64
def lb (m : List Nat) (t : Nat) : Nat := 8 * m.length / 256 ^ (7 - t) % 256
def pdz (m : List Nat) (j : Nat) : List Nat := m ++ [128] ++ List.replicate j 0
def pdk (m : List Nat) (t : Nat) : List Nat := pdz m (zN m) ++ (List.range t).map (lb m)
/-- The padded bytes. -/
def pd (m : List Nat) : List Nat := pdk m 8
theorem pdz_len (m : List Nat) (j : Nat) : (pdz m j).length = m.length + 1 + j := by simp [pdz]; omega
theorem pdk_len (m : List Nat) (t : Nat) : (pdk m t).length = m.length + 1 + zN m + t := by simp [pdk, pdz_len]
theorem pdz_succ (m : List Nat) (j : Nat) : pdz m j ++ [0] = pdz m (j + 1) := by simp [pdz, List.replicate_succ']
theorem pdk_succ (m : List Nat) (t : Nat) : pdk m t ++ [lb m t] = pdk m (t + 1) := by simp [pdk, List.range_succ]
theorem lb_lt (m : List Nat) (t : Nat) : lb m t < 256 := Nat.mod_lt _ (by decide)
theorem and_255 (a : Nat) (h : a < 18446744073709551616) : bits .and .u64 (a : Int) 255 = ((a % 256 : Nat) : Int) := by
  rw [show (255 : Int) = ((255 : Nat) : Int) from rfl, u64_and_nat _ _ h (by decide)]
  rw [show (255 : Nat) = 2 ^ 8 - 1 from rfl, Nat.and_two_pow_sub_one_eq_mod]
set_option maxRecDepth 100000 in
set_option maxHeartbeats 1000000 in
theorem padded_any (x : Value) (m : List Nat) (w : World) (hx : Src w x m) (hm : m.length ≤ 16000000) :
    Calls Tryd.prog 104 #[x] w fun e w' => ∃ ao cp, e = .returned (.slice ao (pd m).length cp) ∧ OB w w' ao cp (pd m) := by
  obtain ⟨xo, xc, rfl⟩ := hx.form
  obtain ⟨w1, hr1, ho1, hF1⟩ := make0 (m.length + 72) w (by omega)
  have hO1 : OB w w1 (some ⟨w.heap.size, 0, none⟩) (m.length + 72) [] := ⟨ho1, hF1⟩
  obtain ⟨a2, c2, w2, hr2, hO2⟩ := hO1.app _ m (hx.fr0 hF1) (by simp; omega)
  obtain ⟨a3, c3, w3, hr3, hO3⟩ := hO2.app1 128 (by decide) (by simp; omega)
  have hO3' : OB w w3 a3 c3 (pdz m 0) := by simpa [pdz] using hO3
  have e2 : ([] ++ m).length = m.length := rfl
  have e3 : ([] ++ m ++ [128]).length = m.length + 1 := by simp
  rw [e2] at hr2 hr3
  rw [e3] at hr3
  have HR1 := hide (show (Instr.makeSlice 25 (.int .i64 0) (.int .i64 ((m.length : Int) + 72))).run Tryd.prog w = .ok (.slice (some ⟨w.heap.size, 0, none⟩) 0 (m.length + 72)) w1 from hr1)
  have HR2 := hide hr2
  have HR3 := hide hr3
  have HO := hide (And.intro hO3' hm)
  clear hr1 hr2 hr3 ho1 hF1 hO1 hO2 hO3 hO3' e2 e3 hx
  have r0 : IntKind.i64.wrap ((m.length : Int) + 72) = (m.length : Int) + 72 := by rw [IntKind.wrap_i64]; omega
  have r1 : IntKind.u64.wrap (m.length : Int) = (m.length : Int) := by rw [IntKind.wrap_u64]; omega
  have r2 : IntKind.u64.wrap ((m.length : Int) * 8) = (m.length : Int) * 8 := by rw [IntKind.wrap_u64]; omega
  clear hm
  generalize hN : m.length = N at *
  have hr1 := unhide HR1
  go_enter Tryd.func104, Tryd.ntmps104
  go_wp2_with (first | (at_builtin; refine wpList_app rfl (.tmp 10) (.tmp 11) 25 25 rfl _ _ _ rfl rfl (unhide HR2) ?_) | (at_builtin; refine wpList_app rfl (.tmp 13) (.tmp 14) 25 25 rfl _ _ _ rfl rfl (unhide HR3) ?_))
  clear hr1
  go_loopw [3] (fun v wr => ∃ j ao cp, j ≤ zN m ∧ v = .slice ao (N + 1 + j) cp ∧ OB w wr ao cp (pdz m j)) (fun v _ => match v with | .slice _ n _ => N + 1 + zN m - n | _ => 0)
  case atStart => exact ⟨0, _, _, Nat.zero_le _, rfl, (unhide HO).1⟩
  case round =>
    obtain ⟨j, ao, cp, hj, rfl, hI⟩ := hrel
    have hz : zN m < 64 := Nat.mod_lt _ (by decide)
    have hzN : zN m = (119 - N % 64) % 64 := by rw [zN, hN]
    have hb := (unhide HO).2
    by_cases hlt : j < zN m
    · have q1 : ¬ ((N : Int) + 1 + (j : Int)) % 64 = 56 := by omega
      have hlp : (pdz m j).length = N + 1 + j := by rw [pdz_len, hN]
      obtain ⟨a4, c4, w4, hr4, hO4⟩ := hI.app1 0 (by decide) (by rw [hlp]; omega)
      rw [List.length_append, hlp] at hr4
      rw [pdz_succ] at hO4
      have HR4 := hide hr4
      have HO4 := hide hO4
      clear hr4 hO4 hlp hzN hI
      go_wp2_with (at_builtin; refine wpList_app rfl (.tmp 20) (.tmp 21) 25 25 rfl _ _ _ rfl rfl (unhide HR4) ?_)
      exact ⟨⟨j + 1, _, _, by omega, rfl, unhide HO4⟩, by simp; omega⟩
    · have hje : j = zN m := by omega
      have q1 : ((N : Int) + 1 + (j : Int)) % 64 = 56 := by omega
      have hI2 : OB w wr ao cp (pdk m 0) := by rw [hje] at hI; simpa [pdk] using hI
      have HI := hide (And.intro hI2 (And.intro hz hje))
      clear hI hI2 hj hzN hlt hz hje
      go_wp2_with fail
      clear q1
      go_loopw [3, 5] (fun v i wq => ∃ (t : Nat) (ao : Option Addr) (cp : Nat), t ≤ 8 ∧ i = .int .i64 (7 - (t : Int)) ∧ v = .slice ao (N + 1 + j + t) cp ∧ OB w wq ao cp (pdk m t)) (fun _ i _ => (intOf i + 1).toNat)
      case atStart => exact ⟨0, _, _, Nat.zero_le _, rfl, rfl, (unhide HI).1⟩
      case round =>
        obtain ⟨t, ao', cp', ht, rfl, rfl, hQ⟩ := hrel
        have hb2 := (unhide HO).2
        have hz := (unhide HI).2.1
        have hje := (unhide HI).2.2
        by_cases hlt : t < 8
        · have g1 : (0 : Int) ≤ 7 - (t : Int) := by omega
          have hlp : (pdk m t).length = N + 1 + j + t := by rw [pdk_len, hN, hje]
          obtain ⟨a4, c4, w4, hr4, hO4⟩ := hQ.app1 (lb m t) (lb_lt m t) (by rw [hlp]; omega)
          rw [List.length_append, hlp] at hr4
          rw [pdk_succ] at hO4
          have hlb : bits .and .u64 ((N : Int) * 8 / 2 ^ (8 * (7 - t))) 255 = ((lb m t : Nat) : Int) := by
            have h256 : (256 : Nat) ^ (7 - t) = 2 ^ (8 * (7 - t)) := by rw [Nat.pow_mul]
            have e1 : (N : Int) * 8 / 2 ^ (8 * (7 - t)) = ((8 * N / 2 ^ (8 * (7 - t)) : Nat) : Int) := by
              rw [Nat.mul_comm 8 N]; simp
            rw [e1, and_255 _ (Nat.lt_of_le_of_lt (Nat.div_le_self _ _) (by omega)), lb, hN, h256]
          have hlb2 := lb_lt m t
          have e7 : (8 * (7 - (t : Int))).toNat = 8 * (7 - t) := by omega
          have e8 : IntKind.i64.wrap (8 * (7 - (t : Int))) = 8 * (7 - (t : Int)) := by rw [IntKind.wrap_i64]; omega
          have e9 : IntKind.u64.wrap (8 * (7 - (t : Int))) = 8 * (7 - (t : Int)) := by rw [IntKind.wrap_u64]; omega
          have e10 : (0 : Int) ≤ 8 * (7 - (t : Int)) := by omega
          generalize lb m t = V at *
          have e11 : IntKind.u8.wrap (V : Int) = (V : Int) := by rw [IntKind.wrap_u8]; omega
          have e12 : IntKind.i64.wrap (7 - (t : Int) - 1) = 7 - (t : Int) - 1 := by rw [IntKind.wrap_i64]; omega
          have HR4 := hide hr4
          have HO4 := hide hO4
          clear hr4 hO4 hlp hQ hje
          go_wp2_with (at_builtin; refine wpList_app rfl (.tmp 31) (.tmp 39) 25 25 rfl _ _ _ rfl rfl (unhide HR4) ?_)
          exact ⟨⟨t + 1, _, _, by omega, by go_num, rfl, unhide HO4⟩, by simp [intOf]; omega⟩
        · have hte : t = 8 := by omega
          have g1 : ¬ (0 : Int) ≤ 7 - (t : Int) := by omega
          have hlp : (pdk m t).length = N + 1 + j + t := by rw [pdk_len, hN, hje]
          have HQ := hide (And.intro hQ (And.intro hte hlp))
          clear hQ hte hlp hje
          go_wp2_with fail
          go_ret
          obtain ⟨h1, h2, h3⟩ := unhide HQ
          refine ⟨ao', cp', ?_, ?_⟩
          · rw [pd, ← h2, h3]; rfl
          · rw [pd, ← h2]; exact h1
end Go.Proofs.YthccbfgjekdiiaaDoor

namespace Go.Proofs.YthccbfgjekdiiaaDoor
open Go.RowKit

theorem pd_at (m : List Nat) (i : Nat) (hi : i < m.length + 1 + zN m + 8) : (pd m).getD i 0 = if i < m.length then m.getD i 0 else if i = m.length then 128 else if i < m.length + 1 + zN m then 0 else lb m (i - (m.length + 1 + zN m)) := by
  have e : pd m = m ++ ([128] ++ (List.replicate (zN m) 0 ++ (List.range 8).map (lb m))) := by simp [pd, pdk, pdz]
  rw [e, List.getD, List.getD]
  by_cases h1 : i < m.length
  · rw [if_pos h1, List.getElem?_append_left h1]
  · rw [if_neg h1, List.getElem?_append_right (by omega)]
    by_cases h2 : i = m.length
    · rw [if_pos h2, show i - m.length = 0 by omega]; rfl
    · rw [if_neg h2, List.getElem?_append_right (by simp; omega), List.length_singleton]
      by_cases h3 : i < m.length + 1 + zN m
      · rw [if_pos h3, List.getElem?_append_left (by simp; omega), List.getElem?_replicate, if_pos (by omega)]; rfl
      · rw [if_neg h3, List.getElem?_append_right (by simp; omega), List.length_replicate, List.getElem?_map, List.getElem?_range (by omega), Option.map_some, Option.getD_some]
        congr 1
        omega
theorem pd_len (m : List Nat) : (pd m).length = m.length + 1 + zN m + 8 := pdk_len m 8
theorem bt_eq (m : List Nat) (hm : m.length ≤ 16000000) : 8 * m.length % 18446744073709551616 = 8 * m.length := Nat.mod_eq_of_lt (by omega)
/-- The padded bytes, block by block, give the hash. -/
theorem dig_pd (m : List Nat) (hm : m.length ≤ 16000000) : ssn (pd m) ((pd m).length / 64) = dig m := by
  have e : pd m = m ++ ([128] ++ (List.replicate (zN m) 0 ++ (List.range 8).map (lb m))) := by simp [pd, pdk, pdz]
  have hq : ssn (pd m) (m.length / 64) = ssn m (m.length / 64) := by rw [e]; exact ssn_app _ _ _ (by omega)
  have hz : zN m = (119 - m.length % 64) % 64 := rfl
  rw [pd_len, dig, fin]
  by_cases h : m.length % 64 < 56
  · rw [if_pos h, show (m.length + 1 + zN m + 8) / 64 = m.length / 64 + 1 by omega]
    show fo (ssn (pd m) (m.length / 64)) (mb (pd m) (m.length / 64)) = _
    rw [hq]
    congr 1
    refine rl_congr _ _ (fun j hj => ?_)
    rw [pd_at m _ (by omega), lenk, pad, rfn, bt_eq m hm]
    by_cases h1 : 64 ≤ j + 8
    · rw [if_neg (by omega), if_neg (by omega), if_neg (by omega), if_pos h1, lb]
      congr 3
      omega
    · rw [if_neg h1]
      by_cases h2 : j = m.length % 64
      · rw [if_pos h2, if_neg (by omega), if_pos (by omega)]
      · rw [if_neg h2]
        by_cases h3 : j < m.length % 64
        · rw [if_pos h3, if_pos (by omega)]
        · rw [if_neg h3, if_neg (by omega), if_neg (by omega), if_pos (by omega)]
  · rw [if_neg h, show (m.length + 1 + zN m + 8) / 64 = m.length / 64 + 1 + 1 by omega]
    show fo (fo (ssn (pd m) (m.length / 64)) (mb (pd m) (m.length / 64))) (mb (pd m) (m.length / 64 + 1)) = _
    rw [hq]
    have e1 : mb (pd m) (m.length / 64) = rl (pad (rfn m) (m.length % 64)) := by
      refine rl_congr _ _ (fun j hj => ?_)
      rw [pd_at m _ (by omega), pad, rfn]
      by_cases h2 : j = m.length % 64
      · rw [if_pos h2, if_neg (by omega), if_pos (by omega)]
      · rw [if_neg h2]
        by_cases h3 : j < m.length % 64
        · rw [if_pos h3, if_pos (by omega)]
        · rw [if_neg h3, if_neg (by omega), if_neg (by omega), if_pos (by omega)]
    have e2 : mb (pd m) (m.length / 64 + 1) = rl (lenk (fun _ => 0) (8 * m.length % 18446744073709551616) 8) := by
      refine rl_congr _ _ (fun j hj => ?_)
      rw [pd_at m _ (by omega), lenk, bt_eq m hm]
      by_cases h1 : 64 ≤ j + 8
      · rw [if_neg (by omega), if_neg (by omega), if_neg (by omega), if_pos h1, lb]
        congr 3
        omega
      · rw [if_neg h1, if_neg (by omega), if_neg (by omega), if_pos (by omega)]
    rw [e1, e2]
theorem may_yes (i : Int) (w : World) (h1 : 1 ≤ i) (h2 : i ≤ 32) : Calls Tryd.prog 18 #[.int .i64 i] w fun e w' => e = .returned (.bool true) ∧ w' = w := by
  go_enter Tryd.func18, Tryd.ntmps18
  go_wp2_with fail
  go_ret
  exact ⟨rfl, rfl⟩
theorem may_no (i : Int) (w : World) (h : i < 1 ∨ 32 < i) : Calls Tryd.prog 18 #[.int .i64 i] w fun e w' => e = .returned (.bool false) ∧ w' = w := by
  by_cases h1 : 1 ≤ i
  · have h2 : ¬ i ≤ 32 := by omega
    go_enter Tryd.func18, Tryd.ntmps18
    go_wp2_with fail
    go_ret
    exact ⟨rfl, rfl⟩
  · go_enter Tryd.func18, Tryd.ntmps18
    go_wp2_with fail
    go_ret
    exact ⟨rfl, rfl⟩
theorem OB.at_ {w wr : World} {xo : Option Addr} {cp : Nat} {l : List Nat} (h : OB w wr xo cp l) (hl : 0 < l.length) : ∃ g, xo = some ⟨g, 0, none⟩ ∧ w.heap.size ≤ g ∧ g < wr.heap.size ∧ l.length ≤ cp ∧ ∀ j v, (cellsOf l)[j]? = some v → wr.cell? ⟨g, j, none⟩ = some v := by
  have ho := h.own
  have hlt := h.own.lt
  rcases h.own.2 with ⟨_, e⟩ | ⟨g, cap, cur, e, h1, h2, h3, h4, h5, h6⟩
  · omega
  · simp only [Value.slice.injEq, true_and] at e
    obtain ⟨rfl, rfl⟩ := e
    refine ⟨g, rfl, h1, (hlt g rfl).2, h3, fun j v hv => ?_⟩
    have hj : j < l.length * 1 := by
      have := (List.getElem?_eq_some_iff.1 hv).1
      rw [cellsOf_length] at this
      omega
    rw [ho.cellAt j hj, hv]
theorem OB.base {w wr wq : World} {xo : Option Addr} {cp : Nat} {l : List Nat} (h : OB wr wq xo cp l) (hf : Fr (fun _ => False) w wr) : OB w wq xo cp l := by
  refine ⟨⟨h.own.1, ?_⟩, hf.trans h.fr (fun _ _ h => h)⟩
  rcases h.own.2 with h0 | ⟨g, cap, cur, e1, e2, e3⟩
  · exact .inl h0
  · exact .inr ⟨g, cap, cur, e1, Nat.le_trans hf.size e2, e3⟩
/-- A block of bytes of one's own. -/
theorem OB.block {w wr : World} {g cp : Nat} {l : List Nat} (h : OB w wr (some ⟨g, 0, none⟩) cp l) (hb : ∀ v ∈ l, v < 256) (k : Nat) (hk : 64 * k + 64 ≤ l.length) : wr.rangeAt g (64 * k) (V8 (mb l k)) := fun j v hv => by
  obtain ⟨g', e, _, _, _, hc⟩ := h.at_ (by omega)
  simp only [Option.some.injEq, Addr.mk.injEq] at e
  obtain ⟨rfl, _⟩ := e
  obtain ⟨hj, rfl⟩ := V8_at _ j v hv
  rw [mb, rl_len] at hj
  rw [mb, rl_at _ j hj]
  refine hc (64 * k + j) _ ?_
  have hlt : 64 * k + j < l.length := by omega
  simp only [cellsOf, List.getElem?_map, List.getD, List.getElem?_eq_getElem hlt, Option.map_some, Option.getD_some, B, Nat.mod_eq_of_lt (hb _ (List.getElem_mem hlt))]
theorem mb_lt' (M : List Nat) (hM : ∀ v ∈ M, v < 256) (k j : Nat) : (mb M k).getD j 0 < 256 := by
  refine rl_lt _ (fun j _ => ?_) j
  rw [List.getD]
  rcases e : M[64 * k + j]? with _ | v
  · decide
  · exact hM v (List.mem_of_getElem? e)
theorem pd_lt (m : List Nat) (hm : ∀ v ∈ m, v < 256) : ∀ v ∈ pd m, v < 256 := fun v hv => by
  simp only [pd, pdk, pdz, List.mem_append, List.mem_map, List.mem_replicate, List.mem_singleton] at hv
  rcases hv with ((h | h) | h) | ⟨t, _, rfl⟩
  · exact hm v h
  · omega
  · omega
  · exact lb_lt m t
theorem sby_take_succ (z : S8) (t : Nat) (h : t < 32) : (sby z).take t ++ [sbf z t] = (sby z).take (t + 1) := by
  rw [List.take_add_one]
  congr 1
  rw [sby, List.getElem?_map, List.getElem?_range h]; rfl
abbrev p8_0 : Oper := { dst := some 22, op := Op.load 137 (Operand.tmp 6), type := 137, pos := "sha.go:84", after := #[], guard := none }
abbrev p8_1 : Oper := { dst := some 23, op := Op.move (Operand.tmp 5), type := 25, pos := "sha.go:84", after := #[], guard := none }
abbrev p8_2 : Oper := { dst := some 24, op := Op.move (Operand.tmp 7), type := 3, pos := "sha.go:84", after := #[], guard := none }
abbrev p8_3 : Oper := { dst := some 25, op := Op.move (Operand.tmp 7), type := 3, pos := "sha.go:84", after := #[], guard := none }
abbrev p8_4 : Oper := { dst := some 26, op := Op.binOp BinOp.add 3 (Operand.tmp 25) (Operand.const (Value.int IntKind.i64 64)) 3, type := 3, pos := "sha.go:84", after := #[{ on := 3, ground := Ground.data }], guard := none }
abbrev p8_5 : Oper := { dst := some 27, op := Op.slice 25 (Operand.tmp 23) (some (Operand.tmp 24)) (some (Operand.tmp 26)) none, type := 25, pos := "sha.go:84", after := #[{ on := 1, ground := Ground.data }, { on := 2, ground := Ground.data }, { on := 4, ground := Ground.data }], guard := none }
abbrev p8_6 : Oper := { dst := some 28, op := Op.call { callee := Callee.value (Operand.func 105), args := #[Operand.tmp 22, Operand.tmp 27], argTypes := #[137, 25] }, type := 137, pos := "sha.go:84", after := #[{ on := 0, ground := Ground.data }, { on := 5, ground := Ground.data }], guard := none }
abbrev p8_7 : Oper := { dst := none, op := Op.store 137 (Operand.tmp 6) (Operand.tmp 28), type := 0, pos := "sha.go:84", after := #[{ on := 6, ground := Ground.data }, { on := 6, ground := Ground.chain }, { on := 0, ground := Ground.phase }, { on := 1, ground := Ground.phase }, { on := 2, ground := Ground.phase }, { on := 3, ground := Ground.phase }, { on := 4, ground := Ground.phase }, { on := 5, ground := Ground.phase }, { on := 6, ground := Ground.phase }], guard := none }
def opsP : Array Oper := #[p8_0, p8_1, p8_2, p8_3, p8_4, p8_5, p8_6, p8_7]
theorem x_add64 (r : Operand → Value) (o : Oper) (x : Operand) (ho : o.op = .binOp .add 3 x (.const (.int .i64 64)) 3) (i : Int) (h : r x = .int .i64 i) (hc : r (.const (.int .i64 64)) = .int .i64 64) (hw : IntKind.i64.wrap (i + 64) = i + 64) (w : World) : (execOp r o).run Tryd.prog w = .ok (.value (.int .i64 (i + 64))) w := by
  unfold execOp
  simp only [ho, h, hc]
  go_simp
  try with_reducible rfl
theorem x_sl (r : Operand → Value) (o : Oper) (x y z : Operand) (ho : o.op = .slice 25 x (some y) (some z) none) (g n cp i : Nat) (h : r x = .slice (some ⟨g, 0, none⟩) n cp) (hy : r y = .int .i64 (i : Nat)) (hz : r z = .int .i64 ((i : Nat) + 64)) (h1 : i + 64 ≤ cp) (w : World) : (execOp r o).run Tryd.prog w = .ok (.value (.slice (some ⟨g, i, none⟩) 64 (cp - i))) w := by
  have h2 : (i : Int) + 64 ≤ (cp : Int) := by omega
  have h3 : (0 : Int) ≤ (i : Int) + 64 := by omega
  have h4 : (i : Int) ≤ (i : Int) + 64 := by omega
  have h5 : ((i : Int) + 64).toNat = i + 64 := by omega
  have h6 : i + 64 - i = 64 := by omega
  have h7 : ¬ cp = i := by omega
  have h8 : ¬ cp - i = 0 := by omega
  unfold execOp
  simp only [ho, h, hy, hz, Option.map_some, Option.map_none]
  go_simp
  try with_reducible rfl
theorem x_gfold (a : Act) (o : Oper) (x y : Operand) (tys : Array TypeId) (ho : o.op = .call { callee := .value (.func 105), args := #[x, y], argTypes := tys }) (vx vy : Value) (hx : a.eval x = vx) (hy : a.eval y = vy) (w : World) : (execOp a.eval o).run Tryd.prog w = .ok (.enter 105 #[vx, vy]) w := by
  unfold execOp
  simp only [ho, resolve, List.map_toArray, List.map_cons, List.map_nil, hx, hy]
  go_simp
  try with_reducible rfl
/-- What the temporaries hold behind the region. -/
def putP (a : Act) (ps sl : Value) (i : Nat) (h r : Value) : Act :=
  ((((((a.put (some 23) ps).put (some 24) (.int .i64 (i : Nat))).put (some 25) (.int .i64 (i : Nat))).put (some 26) (.int .i64 ((i : Nat) + 64))).put (some 27) sl).put (some 22) h).put (some 28) r
set_option linter.unusedSimpArgs false in
set_option maxHeartbeats 400000 in
set_option maxRecDepth 100000 in
/-- A block of the padded bytes is folded. -/
theorem regP {Q : Exit → Act → World → Prop} (hQ : ∀ c (a : Act) d v w, Q (.panic c) (a.put d v) w → Q (.panic c) a w) (a : Act) (w : World) (b g n cp i : Nat) (s : S8) (l : List Nat) (ha : 28 < a.tmps.size) (h6 : a.eval (.tmp 6) = .pointer (some ⟨b, 0, none⟩)) (h5 : a.eval (.tmp 5) = .slice (some ⟨g, 0, none⟩) n cp) (h7 : a.eval (.tmp 7) = .int .i64 (i : Nat))
    (hw : IntKind.i64.wrap ((i : Int) + 64) = (i : Int) + 64) (hi : i + 64 ≤ cp) (hE : Et8 w b s) (hg : GR w) (hs : s.ok) (hl : l.length = 64) (hb : ∀ j, l.getD j 0 < 256) (hc : w.rangeAt g i (V8 l))
    (h : ∀ w2, Fr (fun _ => False) w w2 → Q .normal (putP a (.slice (some ⟨g, 0, none⟩) n cp) (.slice (some ⟨g, i, none⟩) 64 (cp - i)) i (.agg (V64 s.vals).toArray) (.agg (V64 (fo s l).vals).toArray)) (w2.setCells b 0 (V64 (fo s l).vals))) :
    (Code.region 8 opsP true).wp Tryd.prog Q a w := by
  have g22 : 22 < a.tmps.size := by omega
  have g23 : 23 < a.tmps.size := by omega
  have g24 : 24 < a.tmps.size := by omega
  have g25 : 25 < a.tmps.size := by omega
  have g26 : 26 < a.tmps.size := by omega
  have g27 : 27 < a.tmps.size := by omega
  refine wp_region_any (by kernel_rfl) ?_
  change wpAny _ _ _ _ _ _ _ (World.drew _)
  refine wpAny_take (i := 1) (oi := p8_1) (v := .slice (some ⟨g, 0, none⟩) n cp) rfl (by kernel_rfl) (by kernel_rfl) (by kernel_rfl) (fun _ _ _ h => hQ _ _ _ _ _ h) (Or.inl ⟨by rfl, fun w => by rw [x_move _ _ (.tmp 5) rfl]; simp [ev_put, put_size, h5, h6, h7, g22, g23, g24, g25, g26, g27]⟩) ?_
  refine wpAny_take (i := 2) (oi := p8_2) (v := .int .i64 (i : Nat)) rfl (by kernel_rfl) (by kernel_rfl) (by kernel_rfl) (fun _ _ _ h => hQ _ _ _ _ _ h) (Or.inl ⟨by rfl, fun w => by rw [x_move _ _ (.tmp 7) rfl]; simp [ev_put, put_size, h5, h6, h7, g22, g23, g24, g25, g26, g27]⟩) ?_
  refine wpAny_take (i := 3) (oi := p8_3) (v := .int .i64 (i : Nat)) rfl (by kernel_rfl) (by kernel_rfl) (by kernel_rfl) (fun _ _ _ h => hQ _ _ _ _ _ h) (Or.inl ⟨by rfl, fun w => by rw [x_move _ _ (.tmp 7) rfl]; simp [ev_put, put_size, h5, h6, h7, g22, g23, g24, g25, g26, g27]⟩) ?_
  refine wpAny_take (i := 4) (oi := p8_4) (v := .int .i64 ((i : Nat) + 64)) rfl (by kernel_rfl) (by kernel_rfl) (by kernel_rfl) (fun _ _ _ h => hQ _ _ _ _ _ h) (Or.inl ⟨by rfl, fun w => x_add64 _ _ (.tmp 25) rfl _ (by simp [ev_put, put_size, h5, h6, h7, g22, g23, g24, g25, g26, g27]) rfl hw w⟩) ?_
  refine wpAny_take (i := 5) (oi := p8_5) (v := .slice (some ⟨g, i, none⟩) 64 (cp - i)) rfl (by kernel_rfl) (by kernel_rfl) (by kernel_rfl) (fun _ _ _ h => hQ _ _ _ _ _ h) (Or.inl ⟨by rfl, fun w => x_sl _ _ (.tmp 23) (.tmp 24) (.tmp 26) rfl g n cp i (by simp [ev_put, put_size, h5, h6, h7, g22, g23, g24, g25, g26, g27]) (by simp [ev_put, put_size, h5, h6, h7, g22, g23, g24, g25, g26, g27]) (by simp [ev_put, put_size, h5, h6, h7, g22, g23, g24, g25, g26, g27]) hi w⟩) ?_
  obtain ⟨A, hA⟩ : ∃ A, (((((a.put p8_1.dst (.slice (some ⟨g, 0, none⟩) n cp)).put p8_2.dst (.int .i64 (i : Nat))).put p8_3.dst (.int .i64 (i : Nat))).put p8_4.dst (.int .i64 ((i : Nat) + 64))).put p8_5.dst (.slice (some ⟨g, i, none⟩) 64 (cp - i))) = A := ⟨_, rfl⟩
  rw [hA]
  have e6 : A.eval (.tmp 6) = .pointer (some ⟨b, 0, none⟩) := by rw [← hA]; simp [ev_put, put_size, h5, h6, h7, g22, g23, g24, g25, g26, g27]
  have e27 : A.eval (.tmp 27) = .slice (some ⟨g, i, none⟩) 64 (cp - i) := by rw [← hA]; simp [ev_put, put_size, h5, h6, h7, g22, g23, g24, g25, g26, g27]
  have hAs : A.tmps.size = a.tmps.size := by rw [← hA]; simp [put_size]
  have hput : putP a (.slice (some ⟨g, 0, none⟩) n cp) (.slice (some ⟨g, i, none⟩) 64 (cp - i)) i (.agg (V64 s.vals).toArray) (.agg (V64 (fo s l).vals).toArray) = (A.put (some 22) (.agg (V64 s.vals).toArray)).put (some 28) (.agg (V64 (fo s l).vals).toArray) := by rw [← hA]; rfl
  rw [hput] at h
  have hgd : GR w.drew := hg
  have hr1 : w.drew.rangeAt b 0 (V64 s.vals) := hE.range
  have hr2 : w.drew.rangeAt g i (V8 l) := hc
  have hE2 : ∀ w2, Fr (fun _ => False) w.drew w2 → w2.there b 0 8 := fun w2 hf => (hE.fr (S := fun _ => False) (Fr.trans (S := fun _ => False) (⟨rfl, rfl, rfl, Nat.le_refl _, fun _ _ _ => rfl⟩ : Fr (fun _ => False) w w.drew) hf (fun _ _ h => h)) (fun h => h)).there
  refine any_one (i := 0) (op := p8_0) (by kernel_rfl) (by kernel_rfl) (fun K hK => ?_)
  refine step_ld rfl 137 (.tmp 6) rfl b 0 e6 (V64 s.vals) _ hr1 Tryd.underlying137 rfl info_h64 (hK _ _ ?_)
  refine any_one (i := 6) (op := p8_6) (by kernel_rfl) (by kernel_rfl) (fun K hK => ?_)
  rw [if_pos (by rfl)]
  unfold Oper.wp
  rw [x_gfold _ _ (.tmp 22) (.tmp 27) _ rfl (.agg (V64 s.vals).toArray) (.slice (some ⟨g, i, none⟩) 64 (cp - i)) (by simp [ev_put, put_size, hAs, g22]) (by simp [ev_put, put_size, e27]) _]
  refine (gfold_any s l g i (cp - i) w.drew hs hl hb hr2 hgd).mono ?_
  rintro e w2 ⟨rfl, hf⟩
  refine hK _ _ ?_
  refine any_st (i := 7) (op := p8_7) (by kernel_rfl) (by kernel_rfl) rfl rfl 137 (.tmp 6) (.tmp 28) rfl b 0 (V64 (fo s l).vals).toArray (by simp [ev_put, put_size, e6]) (by simp [ev_put, put_size, hAs, ha]) (hE2 w2 hf) info_h64 (all_oneCell_toArray (V64_one _)) ?_
  refine wpAny_done (by kernel_rfl) ?_ _
  exact h w2 (Fr.trans (S := fun _ => False) (⟨rfl, rfl, rfl, Nat.le_refl _, fun _ _ _ => rfl⟩ : Fr (fun _ => False) w w.drew) hf (fun _ _ h => h))
set_option maxRecDepth 100000 in
set_option maxHeartbeats 1000000 in
theorem gsum_in (n : Nat) (x : Value) (m : List Nat) (w : World) (hg : GR w) (hx : Src w x m) (hc : ∀ v ∈ m, v < 256) (hm : m.length ≤ 16000000) (h1 : 1 ≤ n) (h2 : n ≤ 32) :
    Calls Tryd.prog 89 #[.int .i64 n, x] w fun e w' => ∃ yo yc, e = .returned (.slice yo n yc) ∧ OB w w' yo yc ((sby (dig m)).take n) := by
  obtain ⟨xo, xc, rfl⟩ := hx.form
  have hz1 := zero_h64
  have HG := hide (And.intro hg (And.intro hx (And.intro hc hm)))
  clear hg hx hc hm
  generalize hL : m.length = L at *
  have i1 : (1 : Int) ≤ (n : Int) := by omega
  have i2 : (n : Int) ≤ 32 := by omega
  go_enter Tryd.func89, Tryd.ntmps89
  go_wp2_with fail
  refine (may_yes n w i1 i2).mono ?_
  rintro e w0 ⟨rfl, rfl⟩
  go_wp2_with fail
  refine (padded_any _ m w0 (unhide HG).2.1 (by rw [hL]; exact (unhide HG).2.2.2)).mono ?_
  rintro e w1 ⟨ao, cp, rfl, hO⟩
  have hg1 := (unhide HG).1.fr0 hO.fr
  have hB : w1.rangeAt 2 0 (V64 st0.vals) := fun j v hv => by
    obtain ⟨hj, rfl⟩ := V64_at _ j v hv
    rw [Nat.zero_add]
    exact hg1.2.1 j hj
  have hi8 : (Tryd.prog.info? 137).map (·.size) = some (V64 st0.vals).length := info_h64
  obtain ⟨w2, hw2⟩ : ∃ w2, (w1.alloc (.cells (Array.replicate 8 (.int .u64 0)) 137)).setCells w1.heap.size 0 (V64 st0.vals) = w2 := ⟨_, rfl⟩
  have h2a := et8_zero w1 137
  have hE2 : Et8 w2 w1.heap.size st0 := by rw [← hw2]; exact Et8.put h2a.there st0
  have hF12 : Fr (fun _ => False) w1 w2 := by rw [← hw2]; exact Fr.setCells ((Fr.refl _ _).alloc _) (.inr (Nat.le_refl _)) _
  have H2 := hide (And.intro hO (And.intro hg1 (And.intro hB (And.intro hi8 (And.intro hw2 (And.intro h2a.there (And.intro hE2 hF12)))))))
  clear hO hg1 hB hi8 hw2 h2a hE2 hF12
  go_wp2_with (first
    | (refine wpList_load_mid rfl 137 (.global 2) rfl 2 0 rfl (V64 st0.vals) _ (unhide H2).2.2.1 Tryd.underlying137 rfl (unhide H2).2.2.2.1 ?_)
    | (refine wpList_store_to rfl 137 (.tmp 6) (.tmp 15) rfl w1.heap.size 0 (V64 st0.vals).toArray rfl rfl (unhide H2).2.2.2.2.2.1 (unhide H2).2.2.2.1 (all_oneCell_toArray (V64_one _)) w2 (unhide H2).2.2.2.2.1 ?_))
  obtain ⟨g, rfl, hgl, hgu, hcp, _⟩ := (unhide H2).1.at_ (by rw [pd_len]; omega)
  have hlen : (pd m).length % 64 = 0 := by
    have hz : zN m = (119 - m.length % 64) % 64 := rfl
    rw [pd_len]; omega
  have hple : (pd m).length ≤ 16000200 := by
    have hz : zN m < 64 := Nat.mod_lt _ (by decide)
    have := (unhide HG).2.2.2
    rw [pd_len]; omega
  have hdig := dig_pd m (by rw [hL]; exact (unhide HG).2.2.2)
  have hpb := pd_lt m (unhide HG).2.2.1
  have hOP : OB w0 w1 (some ⟨g, 0, none⟩) cp (pd m) := (unhide H2).1
  generalize pd m = M at *
  generalize hP : M.length = P at *
  have H3 := hide (And.intro hgl (And.intro hgu (And.intro hcp (And.intro hlen (And.intro hple (And.intro hdig (And.intro hpb (And.intro hOP hP))))))))
  clear hgl hgu hcp hlen hple hdig hpb hOP hP
  go_loopw [7] (fun i wr => ∃ k : Nat, 64 * k ≤ P ∧ i = .int .i64 ((64 * k : Nat) : Int) ∧ Et8 wr w1.heap.size (ssn M k) ∧ Fr (fun x => x = w1.heap.size) w2 wr) (fun i _ => P - (intOf i).toNat)
  case atStart => exact ⟨0, Nat.zero_le _, rfl, (unhide H2).2.2.2.2.2.2.1, Fr.refl _ _⟩
  case round =>
    obtain ⟨k, hk, rfl, hE, hF⟩ := hrel
    rename World => wr
    have hlen := (unhide H3).2.2.2.1
    have hple := (unhide H3).2.2.2.2.1
    have hgu := (unhide H3).2.1
    have hFw : Fr (fun _ => False) w1 wr := fr_new hF (unhide H2).2.2.2.2.2.2.2 (Nat.le_refl _)
    by_cases hlt : 64 * k < P
    · have hlt' : ((64 * k : Nat) : Int) < (P : Int) := by omega
      have hw64 : IntKind.i64.wrap (((64 * k : Nat) : Int) + 64) = ((64 * k : Nat) : Int) + 64 := by rw [IntKind.wrap_i64]; omega
      have hbl : wr.rangeAt g (64 * k) (V8 (mb M k)) := fun j v hv => by
        have h1 := (unhide H3).2.2.2.2.2.2.2.1.block (unhide H3).2.2.2.2.2.2.1 k (by rw [(unhide H3).2.2.2.2.2.2.2.2]; omega) j v hv
        exact (hFw.cell (p := ⟨g, 64 * k + j, none⟩) hgu (fun h => h)).trans h1
      have hcp := (unhide H3).2.2.1
      have hgr := (unhide H2).2.1.fr0 hFw
      have HI := hide (And.intro hE (And.intro hF (And.intro hbl (And.intro hgr (And.intro hw64 hcp)))))
      clear hE hF hbl hgr hFw hcp hgu hw64
      generalize hI : 64 * k = I at *
      go_wp2_with fail
      refine wp_region_noPanic (regP (fun _ _ _ _ _ h => h) _ _ w1.heap.size g P cp I (ssn M k) (mb M k) (by simp) rfl rfl rfl (unhide HI).2.2.2.2.1 (by have := (unhide HI).2.2.2.2.2; omega) (unhide HI).1 (unhide HI).2.2.2.1 (ssn_ok M k) (rl_len _) (mb_lt' M (unhide H3).2.2.2.2.2.2.1 k) (unhide HI).2.2.1 (fun w5 hf => NoPanic.normal ?_))
      have hth : w5.there w1.heap.size 0 8 := ((unhide HI).1.fr hf (fun h => h)).there
      have hN1 : Et8 (w5.setCells w1.heap.size 0 (V64 (fo (ssn M k) (mb M k)).vals)) w1.heap.size (ssn M (k + 1)) := Et8.put hth _
      have hN2 : Fr (fun x => x = w1.heap.size) w2 (w5.setCells w1.heap.size 0 (V64 (fo (ssn M k) (mb M k)).vals)) := Fr.setCells ((unhide HI).2.1.trans (hf.mono (T := fun x => x = w1.heap.size) (fun _ _ h => h.elim)) (fun _ _ h => h)) (.inl rfl) _
      have HN := hide (And.intro hN1 hN2)
      clear hN1 hN2 hth hf
      simp only [putP, Act.put, List.setIfInBounds_toArray, List.set_cons_zero, List.set_cons_succ]
      have r64 : IntKind.i64.wrap ((I : Int) + 64) = (I : Int) + 64 := by rw [IntKind.wrap_i64]; omega
      go_wp2_with fail
      refine ⟨⟨k + 1, by omega, by rw [show 64 * (k + 1) = I + 64 by omega]; go_num, (unhide HN).1, (unhide HN).2⟩, by simp [intOf]; omega⟩
    · have hPe : 64 * k = P := by omega
      have hE2 : Et8 wr w1.heap.size (dig m) := by
        rw [← (unhide H3).2.2.2.2.2.1, ← hPe, show 64 * k / 64 = k by omega]; exact hE
      have hF0 : Fr (fun _ => False) w0 wr := (unhide H2).1.fr.trans hFw (fun _ _ h => h)
      have hok : (dig m).ok := by rw [← (unhide H3).2.2.2.2.2.1]; exact ssn_ok _ _
      have HE := hide (And.intro hE2 (And.intro hF0 (And.intro hok hFw)))
      clear hE2 hF0 hok hE hF hFw hlen hple hgu
      generalize hI : 64 * k = I at *
      have hge : ¬ (I : Int) < (P : Int) := by omega
      go_wp2_with fail
      clear hge
      generalize hz : dig m = z at *
      go_loopw [8, 9] (fun v i wq => ∃ (t : Nat) (yo : Option Addr) (yc : Nat), t ≤ n ∧ i = .int .i64 (t : Nat) ∧ v = .slice yo t yc ∧ OB wr wq yo yc ((sby z).take t)) (fun _ i _ => n - (intOf i).toNat)
      case atStart => exact ⟨0, none, 0, Nat.zero_le _, rfl, rfl, ⟨own_nil _ _, Fr.refl _ _⟩⟩
      case round =>
        obtain ⟨t, yo, yc, ht, rfl, rfl, hO⟩ := hrel
        rename World => wq
        by_cases hlt : t < n
        · have hlt' : (t : Int) < (n : Int) := by omega
          have hcl : wq.cell? ⟨w1.heap.size, t / 4, none⟩ = _ := ((unhide HE).1.fr hO.fr (fun h => h)).at_ (t / 4) (by omega)
          have hb := vals_lt z (unhide HE).2.2.1 (t / 4) (by omega)
          have hsl : ((sby z).take t).length = t := by rw [List.length_take, sby_len]; omega
          obtain ⟨a4, c4, w4, hr4, hO4⟩ := hO.app1 (sbf z t) (Nat.mod_lt _ (by decide)) (by rw [hsl]; omega)
          rw [List.length_append, hsl] at hr4
          rw [sby_take_succ z t (by omega)] at hO4
          have hsf : sbf z t = z.vals.getD (t / 4) 0 / 2 ^ (24 - 8 * (t % 4)) % 256 := rfl
          have hsb : sbf z t < 256 := Nat.mod_lt _ (by decide)
          generalize z.vals.getD (t / 4) 0 = y at *
          have hsh : bits .and .u64 ((y : Int) / 2 ^ (24 - 8 * (t % 4))) 255 = ((sbf z t : Nat) : Int) := by
            have e1 : (y : Int) / 2 ^ (24 - 8 * (t % 4)) = ((y / 2 ^ (24 - 8 * (t % 4)) : Nat) : Int) := by simp
            rw [e1, and_255 _ (Nat.lt_of_le_of_lt (Nat.div_le_self _ _) (by omega)), hsf]
          clear hsf
          generalize sbf z t = V at *
          have e11 : IntKind.u8.wrap (V : Int) = (V : Int) := by rw [IntKind.wrap_u8]; omega
          have d1 : (0 : Int) ≤ (t : Int) / 4 := by omega
          have d2 : (t : Int) / 4 < 8 := by omega
          have d3 : ((t : Int) / 4).toNat = t / 4 := by omega
          have d4 : (0 : Int) ≤ 24 - 8 * ((t : Int) % 4) := by omega
          have d5 : (24 - 8 * ((t : Int) % 4)).toNat = 24 - 8 * (t % 4) := by omega
          have d6 : IntKind.i64.wrap (8 * ((t : Int) % 4)) = 8 * ((t : Int) % 4) := by rw [IntKind.wrap_i64]; omega
          have d7 : IntKind.i64.wrap (24 - 8 * ((t : Int) % 4)) = 24 - 8 * ((t : Int) % 4) := by rw [IntKind.wrap_i64]; omega
          have d8 : IntKind.u64.wrap (24 - 8 * ((t : Int) % 4)) = 24 - 8 * ((t : Int) % 4) := by rw [IntKind.wrap_u64]; omega
          have d9 : IntKind.i64.wrap ((t : Int) / 4) = (t : Int) / 4 := by rw [IntKind.wrap_i64]; omega
          have HR4 := hide hr4
          have HO4 := hide hO4
          clear hr4 hO4 hO hsl
          go_wp2_with (at_builtin; refine wpList_app rfl (.tmp 34) (.tmp 47) 25 25 rfl _ _ _ rfl rfl (unhide HR4) ?_)
          exact ⟨⟨t + 1, _, _, by omega, by go_num, rfl, unhide HO4⟩, by simp [intOf]; omega⟩
        · have hte : t = n := by omega
          have hlt' : ¬ (t : Int) < (n : Int) := by omega
          have hO2 := hO.base (unhide HE).2.1
          have HQ := hide (And.intro hO2 hte)
          clear hO hO2 hte
          go_wp2_with fail
          go_ret
          obtain ⟨h3, h4⟩ := unhide HQ
          subst h4
          refine ⟨yo, yc, rfl, ?_⟩
          exact h3
set_option maxRecDepth 100000 in
theorem gsum_out (i : Int) (x : Value) (w : World) (h : i < 1 ∨ 32 < i) : Calls Tryd.prog 89 #[.int .i64 i, x] w fun e w' => e = .returned (.slice none 0 0) ∧ w' = w := by
  go_enter Tryd.func89, Tryd.ntmps89
  go_wp2_with fail
  refine (may_no i w h).mono ?_
  rintro e w0 ⟨rfl, rfl⟩
  go_wp2_with fail
  go_ret
  exact ⟨rfl, rfl⟩
theorem gsum_T (i : Int) (x : Value) (m : List Nat) (w : World) (hg : GR w) (hx : Src w x m) (hc : ∀ v ∈ m, v < 256) (hm : m.length ≤ 16000000) :
    Calls Tryd.prog 89 #[.int .i64 i, x] w fun e w' => ∃ yo yc, e = .returned (.slice yo (sm i m).length yc) ∧ OB w w' yo yc (sm i m) := by
  by_cases h : 1 ≤ i ∧ i ≤ 32
  · obtain ⟨n, rfl⟩ : ∃ n : Nat, i = (n : Int) := ⟨i.toNat, by omega⟩
    refine (gsum_in n x m w hg hx hc hm (by omega) (by omega)).mono ?_
    rintro e w' ⟨yo, yc, rfl, hO⟩
    refine ⟨yo, yc, by rw [sm_len h, Int.toNat_natCast], ?_⟩
    rw [sm, if_pos h, Int.toNat_natCast]
    exact hO
  · refine (gsum_out i x w (by omega)).mono ?_
    rintro e w' ⟨rfl, rfl⟩
    rw [sm, if_neg h]
    exact ⟨none, 0, rfl, own_nil _ _, Fr.refl _ _⟩
end Go.Proofs.YthccbfgjekdiiaaDoor

namespace Go.Proofs.YthccbfgjekdiiaaDoor
open Go.RowKit

theorem ob_of_bt {w w' : World} {g n : Nat} {l : List Nat} (hB : BtAt w' g n (fun j => l.getD j 0)) (hl : l.length = n) (hb : ∀ v ∈ l, v < 256) (hn : NB w w' g n) (hF : Fr (fun _ => False) w w') (hm : n ≤ 32) : OB w w' (some ⟨g, 0, none⟩) n l := by
  obtain ⟨cur, h1, h2⟩ := hn.blk
  subst hl
  refine ⟨⟨by rw [cellsOf_length, Nat.mul_one], .inr ⟨g, l.length, cur, rfl, hn.le, h1, Nat.le_refl _, by simp only [maxLen]; omega, by rw [Nat.mul_one]; exact h2, ?_⟩⟩, hF⟩
  apply List.ext_getElem?
  intro j
  by_cases hj : j < l.length
  · have h3 := (hB j hj).1
    simp only [List.getD, List.getElem?_eq_getElem hj, Option.getD_some] at h3
    rw [cell_of_row w' g j cur 5 (0, 0) h1] at h3
    rw [List.getElem?_take, if_pos (by omega), Array.getElem?_toList, h3, cellsOf, List.getElem?_map, List.getElem?_eq_getElem hj, Option.map_some, B, Nat.mod_eq_of_lt (hb _ (List.getElem_mem hj))]
  · rw [List.getElem?_eq_none (by rw [List.length_take]; omega), List.getElem?_eq_none (by rw [cellsOf_length]; omega)]
theorem sm_lt (i : Int) (m : List Nat) : ∀ v ∈ sm i m, v < 256 := fun v hv => by
  rw [sm] at hv
  split at hv
  · exact sby_lt _ v (List.mem_of_mem_take hv)
  · cases hv
theorem sum_O (i : Int) (c : List Nat) (x : Value) (w : World) (hg : GS w) (hx : Src w x c) (hc : ∀ v ∈ c, v < 256) (hs : c.length < 9223372036854775808) (hcap : ∀ g n c', x = .slice g n c' → n ≤ c') (hlt : ∀ g o' n c', x = .slice (some ⟨g, o', none⟩) n c' → g < w.heap.size) :
    Calls Tryd.prog 28 #[.int .i64 i, x] w fun e w' => ∃ yo, e = .returned (.slice yo (sm i c).length (sm i c).length) ∧ OB w w' yo (sm i c).length (sm i c) := by
  by_cases h : 1 ≤ i ∧ i ≤ 32
  · obtain ⟨n, rfl⟩ : ∃ n : Nat, i = (n : Int) := ⟨i.toNat, by omega⟩
    refine (sum_any n c x w hg hx hc hs hcap hlt (by omega) (by omega)).mono ?_
    rintro e w' ⟨g, rfl, hB, hF, hn⟩
    have hl : (sm (n : Int) c).length = n := by rw [sm_len h, Int.toNat_natCast]
    rw [hl]
    refine ⟨_, rfl, ob_of_bt ?_ hl (sm_lt _ _) hn hF (by omega)⟩
    rw [sm, if_pos h, Int.toNat_natCast]
    exact hB
  · refine (sum_anyout i c x w hg hx hc hs hcap hlt (by omega)).mono ?_
    rintro e w' ⟨rfl, hF⟩
    rw [sm, if_neg h]
    exact ⟨none, rfl, own_nil _ _, hF⟩
theorem hsum_O (i : Int) (b o : Nat) (m : List Nat) (w : World) (hg : GS w) (hh : HM w b o m) (hm : ∀ x ∈ m, x < 256) (ht : m.length < 9223372036854775808) :
    Calls Tryd.prog 56 #[.pointer (some ⟨b, o, none⟩), .int .i64 i] w fun e w' => ∃ yo, e = .returned (.slice yo (sm i m).length (sm i m).length) ∧ OB w w' yo (sm i m).length (sm i m) := by
  by_cases h : 1 ≤ i ∧ i ≤ 32
  · obtain ⟨n, rfl⟩ : ∃ n : Nat, i = (n : Int) := ⟨i.toNat, by omega⟩
    refine (hmsum_any b o n m w hg hh hm ht (by omega) (by omega)).mono ?_
    rintro e w' ⟨g, rfl, hB, hF, hn⟩
    have hl : (sm (n : Int) m).length = n := by rw [sm_len h, Int.toNat_natCast]
    rw [hl]
    refine ⟨_, rfl, ob_of_bt ?_ hl (sm_lt _ _) hn hF (by omega)⟩
    rw [sm, if_pos h, Int.toNat_natCast]
    exact hB
  · refine (hsum_none b o i w (by omega)).mono ?_
    rintro e w' ⟨rfl, rfl⟩
    rw [sm, if_neg h]
    exact ⟨none, rfl, own_nil _ _, Fr.refl _ _⟩
theorem src_cell {w : World} {xo : Option Addr} {n xc : Nat} {a : List Nat} (h : Src w (.slice xo n xc) a) (k : Nat) (hk : k < a.length) (hb : ∀ v ∈ a, v < 256) : ∃ g o, xo = some ⟨g, o, none⟩ ∧ w.cell? ⟨g, o + k, none⟩ = some (.int .u8 ((a.getD k 0 : Nat) : Int)) := by
  obtain ⟨g, o, e, hc⟩ := src_at h k hk
  refine ⟨g, o, e, ?_⟩
  rw [hc, List.getD, List.getElem?_eq_getElem hk, Option.getD_some, Nat.mod_eq_of_lt (hb _ (List.getElem_mem hk))]
end Go.Proofs.YthccbfgjekdiiaaDoor

namespace Go.Proofs.YthccbfgjekdiiaaDoor
open Go.RowKit

/-- Bytes of one's own in a block from base on. -/
def Ow (wr : World) (base : Nat) (xo : Option Addr) (cp : Nat) (l : List Nat) : Prop := wr.ownsRow base 5 1 (.slice xo l.length cp) l.length (cellsOf l)
theorem OB.ow {w wr : World} {xo : Option Addr} {cp : Nat} {l : List Nat} (h : OB w wr xo cp l) : Ow wr w.heap.size xo cp l := h.own
theorem Ow.ob {w wr : World} {xo : Option Addr} {cp : Nat} {l : List Nat} (h : Ow wr w.heap.size xo cp l) (hf : Fr (fun _ => False) w wr) : OB w wr xo cp l := ⟨h, hf⟩
theorem Ow.src {wr : World} {base : Nat} {xo : Option Addr} {cp : Nat} {l : List Nat} (h : Ow wr base xo cp l) : Src wr (.slice xo l.length cp) l := own_src h
theorem Ow.fr {wr wq : World} {base : Nat} {xo : Option Addr} {cp : Nat} {l : List Nat} {S : Nat → Prop} (h : Ow wr base xo cp l) (hf : Fr S wr wq) (hS : ∀ k, base ≤ k → ¬ S k) : Ow wq base xo cp l :=
  ownsRow_of_block h (fun g hg => hf.block g (h.lt g hg).2 (hS g (h.lt g hg).1))
theorem Ow.fr0 {wr wq : World} {base : Nat} {xo : Option Addr} {cp : Nat} {l : List Nat} (h : Ow wr base xo cp l) (hf : Fr (fun _ => False) wr wq) : Ow wq base xo cp l := h.fr hf (fun _ _ h => h)
theorem cellsOf_set (l : List Nat) (j v : Nat) (hv : v < 256) : cellsOf (l.set j v) = (cellsOf l).set j (.int .u8 (v : Int)) := by
  simp [cellsOf, List.map_set, B, Nat.mod_eq_of_lt hv]
theorem Ow.set {wr : World} {base g cp : Nat} {l : List Nat} (h : Ow wr base (some ⟨g, 0, none⟩) cp l) (j v : Nat) (hv : v < 256) : Ow (wr.setCell ⟨g, j, none⟩ (.int .u8 (v : Int))) base (some ⟨g, 0, none⟩) cp (l.set j v) := by
  have := (World.ownsRow.stored h j (.int .u8 (v : Int))).1
  unfold Ow
  rw [cellsOf_set l j v hv, List.length_set]
  exact this
theorem Ow.lt {wr : World} {base g cp : Nat} {l : List Nat} (h : Ow wr base (some ⟨g, 0, none⟩) cp l) : base ≤ g ∧ g < wr.heap.size := World.ownsRow.lt h g rfl
theorem Ow.cell {wr : World} {base g cp : Nat} {l : List Nat} (h : Ow wr base (some ⟨g, 0, none⟩) cp l) (j : Nat) (hj : j < l.length) (hb : ∀ v ∈ l, v < 256) : wr.cell? ⟨g, j, none⟩ = some (.int .u8 ((l.getD j 0 : Nat) : Int)) := by
  rw [World.ownsRow.cellAt h j (by omega), cellsOf, List.getElem?_map, List.getElem?_eq_getElem hj, Option.map_some, List.getD, List.getElem?_eq_getElem hj, Option.getD_some, B, Nat.mod_eq_of_lt (hb _ (List.getElem_mem hj))]
theorem Ow.fz {wr : World} {base g cp : Nat} {l : List Nat} (h : Ow wr base (some ⟨g, 0, none⟩) cp l) (j : Nat) : wr.frozen? ⟨g, j, none⟩ = false := World.ownsRow.frozenAt h j
theorem Ow.frB {wr wq : World} {base : Nat} {xo : Option Addr} {cp : Nat} {l : List Nat} {S : Nat → Prop} (h : Ow wr base xo cp l) (hf : Fr S wr wq) (hS : ∀ g o, xo = some ⟨g, o, none⟩ → ¬ S g) : Ow wq base xo cp l :=
  ownsRow_of_block h (fun g hg => hf.block g (World.ownsRow.lt h g hg).2 (by
    rcases h.2 with ⟨e, _⟩ | ⟨g', cap, cur, e, _⟩
    · rw [e] at hg; cases hg
    · rw [e] at hg
      simp only [Value.ownBlock, Option.some.injEq] at hg
      subst hg
      simp only [Value.slice.injEq] at e
      exact hS g' 0 e.1))
theorem Ow.base {wr : World} {base base' : Nat} {xo : Option Addr} {cp : Nat} {l : List Nat} (h : Ow wr base xo cp l) (hb : base' ≤ base) : Ow wr base' xo cp l := by
  refine ⟨h.1, ?_⟩
  rcases h.2 with h0 | ⟨g, cap, cur, e1, e2, e3⟩
  · exact .inl h0
  · exact .inr ⟨g, cap, cur, e1, Nat.le_trans hb e2, e3⟩
theorem Ow.cap {wr : World} {base g cp : Nat} {l : List Nat} (h : Ow wr base (some ⟨g, 0, none⟩) cp l) : l.length ≤ cp := by
  rcases h.2 with ⟨e, _⟩ | ⟨g', cap, cur, e, _, _, h3, _⟩
  · simp at e
  · simp only [Value.slice.injEq, true_and] at e
    rw [e.2]; exact h3
theorem set_lt (m : List Nat) (j v : Nat) (hv : v < 256) (hm : ∀ v ∈ m, v < 256) : ∀ u ∈ m.set j v, u < 256 := fun u hu => by
  rcases List.mem_or_eq_of_mem_set hu with h | h
  · exact hm u h
  · omega
end Go.Proofs.YthccbfgjekdiiaaDoor

namespace Go.Proofs.YthccbfgjekdiiaaDoor
open Go.RowKit

/-- The hash of an entry, of two hashes. -/
def lf (i : Int) (e : List Nat) : List Nat := sm i (0 :: e)
def nd (i : Int) (a b : List Nat) : List Nat := sm i (1 :: (a ++ b))
theorem fl_all (ps : List (List Nat)) : fl ps ps.length = ps.flatten := by rw [fl, List.take_length]
theorem ob_lit1 (w : World) (v : Nat) (hv : v < 256) : OB w (w.alloc (.cells #[.int .u8 (v : Int)] 5)) (some ⟨w.heap.size, 0, none⟩) 1 [v] := by
  refine ⟨?_, (Fr.refl _ _).alloc _⟩
  have := World.ownsRow_lit (e := 5) (size := 1) w #[.int .u8 (v : Int)] 1 (Nat.le_refl _) (by simp only [maxLen]; omega) rfl
  have e : cellsOf [v] = [.int .u8 (v : Int)] := by simp [cellsOf, B, Nat.mod_eq_of_lt hv]
  rw [e]
  exact this
set_option maxRecDepth 100000 in
set_option maxHeartbeats 1000000 in
theorem join_any (mk : Nat) (x : Value) (vs : List Value) (ps : List (List Nat)) (w : World) (hp : Pcs w x vs ps) (hmk : mk < 256) (hB : ∀ p ∈ ps, p.length ≤ 16000000) (hn : ps.length ≤ 16) :
    Calls Tryd.prog 35 #[.int .u8 mk, x] w fun e w' => ∃ ao cp, e = .returned (.slice ao (mk :: ps.flatten).length cp) ∧ OB w w' ao cp (mk :: ps.flatten) := by
  obtain ⟨xo, xc, rfl⟩ := hp.form
  have HG := hide (And.intro hp (And.intro hB hn))
  clear hp hB hn
  generalize hN : ps.length = N at *
  obtain ⟨R, hR⟩ : ∃ R, mk :: ps.flatten = R := ⟨_, rfl⟩
  rw [hR]
  have HRR := hide hR
  clear hR
  go_enter Tryd.func35, Tryd.ntmps35
  go_wp2_with fail
  have hfb : ∀ k, k ≤ N → (fl ps k).length ≤ 16000000 * k := fun k => by
    induction k with
    | zero => intro _; simp [fl]
    | succ k ih =>
      intro hk
      have h1 := ih (by omega)
      have h2 := (unhide HG).2.1 (ps[k]'(by omega)) (List.getElem_mem _)
      rw [fl_succ ps k (by omega), List.length_append]
      omega
  have HF := hide hfb
  clear hfb
  go_loopw [5, 12] (fun v iv wr => ∃ (k : Nat) (ao : Option Addr) (cp n : Nat), k ≤ N ∧ iv = .int .i64 (k : Nat) ∧ v = .slice ao n cp ∧ n = (mk :: fl ps k).length ∧ OB w wr ao cp (mk :: fl ps k)) (fun _ iv _ => N - (intOf iv).toNat)
  case atStart => exact ⟨0, _, _, 1, Nat.zero_le _, rfl, rfl, rfl, ob_lit1 w mk hmk⟩
  case round =>
    obtain ⟨k, ao, cp, n, hk, rfl, rfl, hn, hO⟩ := hrel
    have hN16 := (unhide HG).2.2
    by_cases hlt : k < N
    · have hlt' : (k : Int) < (N : Int) := by omega
      have hkp : k < ps.length := by omega
      obtain ⟨g, o, v, rfl, hcell, hsrc, hcap, _, _⟩ := (unhide HG).1.cell hO.fr k hkp
      obtain ⟨vo, vc, rfl⟩ := hsrc.form
      have hb1 := (unhide HG).2.1 ps[k] (List.getElem_mem hkp)
      have hb2 := (unhide HF) k hk
      obtain ⟨a2, c2, w2, hr2, hO2⟩ := hO.app _ ps[k] hsrc (by rw [List.length_cons]; omega)
      rw [← hn] at hr2
      have e2 : (mk :: fl ps k) ++ ps[k] = mk :: fl ps (k + 1) := by rw [fl_succ ps k hkp]; rfl
      rw [e2] at hr2 hO2
      have HR2 := hide hr2
      have HO2 := hide hO2
      clear hr2 hO2 e2 hO hsrc hcap hn hb1 hb2
      go_wp2_with (at_builtin; refine wpList_app rfl _ _ 25 25 rfl _ _ _ rfl rfl (unhide HR2) ?_)
      exact ⟨⟨k + 1, _, _, _, by omega, by go_num, rfl, rfl, unhide HO2⟩, by simp [intOf]; omega⟩
    · have hlt' : ¬ (k : Int) < (N : Int) := by omega
      have hkN : k = N := by omega
      have e : mk :: fl ps k = R := by rw [hkN, ← hN, fl_all ps]; exact unhide HRR
      rw [e] at hO hn
      have HO2 := hide (And.intro hO hn)
      clear hO hn e hkN
      go_wp2_with fail
      go_ret
      exact ⟨ao, cp, by rw [← (unhide HO2).2]; rfl, (unhide HO2).1⟩
theorem cons_lt {mk : Nat} {l : List Nat} (h : mk < 256) (hl : ∀ v ∈ l, v < 256) : ∀ v ∈ mk :: l, v < 256 := fun v hv => by
  rcases List.mem_cons.1 hv with rfl | hv
  · exact h
  · exact hl v hv
theorem app_lt {a b : List Nat} (ha : ∀ v ∈ a, v < 256) (hb : ∀ v ∈ b, v < 256) : ∀ v ∈ a ++ b, v < 256 := fun v hv => by
  rcases List.mem_append.1 hv with h | h
  · exact ha v h
  · exact hb v h
theorem OB.lt {w wr : World} {xo : Option Addr} {cp : Nat} {l : List Nat} (h : OB w wr xo cp l) : ∀ g o n c, (Value.slice xo l.length cp) = .slice (some ⟨g, o, none⟩) n c → g < wr.heap.size := fun g o n c e => by
  simp only [Value.slice.injEq] at e
  obtain ⟨rfl, _⟩ := e
  exact (World.ownsRow.lt h.own g rfl).2
theorem OB.cap {w wr : World} {xo : Option Addr} {cp : Nat} {l : List Nat} (h : OB w wr xo cp l) : l.length ≤ cp := by
  rcases h.own.2 with ⟨e, e2⟩ | ⟨g, cap, cur, e, _, _, h3, _⟩
  · omega
  · simp only [Value.slice.injEq, true_and] at e
    rw [e.2]; exact h3
/-- What a slice that a call is handed must keep to. -/
structure Sl (w : World) (x : Value) (l : List Nat) : Prop where
  s : Src w x l
  cap : ∀ g n c, x = .slice g n c → n ≤ c
  lt : l = [] ∨ ∀ g o n c, x = .slice (some ⟨g, o, none⟩) n c → g < w.heap.size
  b : ∀ v ∈ l, v < 256
theorem Sl.fr0 {w w' : World} {x : Value} {l : List Nat} (h : Sl w x l) (hf : Fr (fun _ => False) w w') : Sl w' x l :=
  ⟨h.s.fr0 hf, h.cap, h.lt.imp id (fun hh g o n c e => Nat.lt_of_lt_of_le (hh g o n c e) hf.size), h.b⟩
theorem OB.sl {w wr : World} {xo : Option Addr} {cp : Nat} {l : List Nat} (h : OB w wr xo cp l) (hb : ∀ v ∈ l, v < 256) : Sl wr (.slice xo l.length cp) l :=
  ⟨h.src, fun _ _ _ e => by cases e; exact h.cap, .inr h.lt, hb⟩
theorem Sl.form {w : World} {x : Value} {l : List Nat} (h : Sl w x l) : ∃ xo xc, x = .slice xo l.length xc := h.s.form
theorem lf_lt (i : Int) (e : List Nat) : ∀ v ∈ lf i e, v < 256 := sm_lt i _
theorem nd_lt (i : Int) (a b : List Nat) : ∀ v ∈ nd i a b, v < 256 := sm_lt i _
end Go.Proofs.YthccbfgjekdiiaaDoor

namespace Go.Proofs.YthccbfgjekdiiaaDoor
open Go.RowKit

set_option maxRecDepth 100000 in
set_option maxHeartbeats 1000000 in
/-- merkle.Leaf. -/
theorem leaf_any (i : Int) (x : Value) (e : List Nat) (w : World) (hg : GS w) (hx : Sl w x e) (he : e.length ≤ 16000000) :
    Calls Tryd.prog 11 #[.int .i64 i, x] w fun e' w' => ∃ yo, e' = .returned (.slice yo (lf i e).length (lf i e).length) ∧ OB w w' yo (lf i e).length (lf i e) := by
  obtain ⟨xo, xc, rfl⟩ := hx.form
  have HG := hide (And.intro hg (And.intro hx he))
  clear hg hx he
  obtain ⟨R, hR⟩ : ∃ R, lf i e = R := ⟨_, rfl⟩
  rw [hR]
  have hSum : ∀ (x : Value) (w : World), GS w → Src w x (0 :: e) → (∀ g n c', x = .slice g n c' → n ≤ c') → (∀ g o' n c', x = .slice (some ⟨g, o', none⟩) n c' → g < w.heap.size) → Calls Tryd.prog 28 #[.int .i64 i, x] w fun e' w' => ∃ yo, e' = .returned (.slice yo R.length R.length) ∧ OB w w' yo R.length R := fun x w h1 h2 h3 h4 => by
    rw [← hR]
    exact sum_O i (0 :: e) x w h1 h2 (cons_lt (by decide) (unhide HG).2.1.b) (by have := (unhide HG).2.2; rw [List.length_cons]; omega) h3 h4
  have HSum := hide hSum
  clear hSum hR
  generalize hE : e.length = E at *
  obtain ⟨w1, hw1⟩ : ∃ w1, w.alloc (.cells #[.slice xo E xc] 25) = w1 := ⟨_, rfl⟩
  have hF1 : Fr (fun _ => False) w w1 := by rw [← hw1]; exact (Fr.refl _ _).alloc _
  have hp : Pcs w1 (.slice (some ⟨w.heap.size, 0, none⟩) 1 1) [.slice xo E xc] [e] := by
    have hx1 := (unhide HG).2.1.fr0 hF1
    have hc : w1.cell? ⟨w.heap.size, 0, none⟩ = some (.slice xo E xc) := by rw [← hw1, World.cell?_alloc_at _ _ _ _ rfl]; rfl
    refine ⟨rfl, .inr (.inr ⟨w.heap.size, 0, 1, rfl, lt_of_cell hc, fun j v hv => ?_⟩), fun j v p hv hp => ?_, fun p hp => ?_⟩
    · match j with
      | 0 => simp at hv; subst hv; exact hc
      | j + 1 => simp at hv
    · match j with
      | 0 => simp at hv hp; subst hv hp; exact ⟨hx1.s, hx1.cap, hx1.lt⟩
      | j + 1 => simp at hv
    · simp at hp; subst hp; exact hx1.b
  have H1 := hide (And.intro hF1 hp)
  clear hF1 hp
  go_enter Tryd.func11, Tryd.ntmps11
  go_wp2_with fail
  refine (join_any 0 _ _ [e] w1 (unhide H1).2 (by decide) (fun p hp => by simp at hp; subst hp; rw [hE]; exact (unhide HG).2.2) (by simp)).mono ?_
  rintro e' w2 ⟨ao, cp, rfl, hO⟩
  have ef : [e].flatten = e := by simp
  have hln : (0 :: e).length = E + 1 := by rw [List.length_cons, hE]
  rw [ef] at hO ⊢
  rw [hln]
  have hsrc := hO.src
  have hcap := hO.cap
  have hlt := hO.lt
  rw [hln] at hsrc hcap hlt
  clear ef hln
  have H2 := hide (And.intro hO (And.intro hsrc (And.intro hcap hlt)))
  clear hO hsrc hcap hlt
  go_wp2_with fail
  refine ((unhide HSum) _ w2 (((unhide HG).1.fr0 (unhide H1).1).fr0 (unhide H2).1.fr) (unhide H2).2.1 (fun _ _ _ e => by cases e; exact (unhide H2).2.2.1) (unhide H2).2.2.2).mono ?_
  rintro e' w3 ⟨yo, rfl, hO⟩
  have H3 := hide ((hO.base (unhide H2).1.fr).base (unhide H1).1)
  clear hO
  go_wp2_with fail
  go_ret
  exact ⟨yo, rfl, unhide H3⟩
set_option maxRecDepth 100000 in
set_option maxHeartbeats 1000000 in
/-- merkle.Node. -/
theorem node_any (i : Int) (x y : Value) (a b : List Nat) (w : World) (hg : GS w) (hx : Sl w x a) (hy : Sl w y b) (ha : a.length ≤ 16000000) (hb : b.length ≤ 16000000) :
    Calls Tryd.prog 62 #[.int .i64 i, x, y] w fun e' w' => ∃ yo, e' = .returned (.slice yo (nd i a b).length (nd i a b).length) ∧ OB w w' yo (nd i a b).length (nd i a b) := by
  obtain ⟨xo, xc, rfl⟩ := hx.form
  obtain ⟨yo, yc, rfl⟩ := hy.form
  have HG := hide (And.intro hg (And.intro hx (And.intro hy (And.intro ha hb))))
  clear hg hx hy ha hb
  obtain ⟨R, hR⟩ : ∃ R, nd i a b = R := ⟨_, rfl⟩
  rw [hR]
  have hSum : ∀ (x : Value) (w : World), GS w → Src w x (1 :: (a ++ b)) → (∀ g n c', x = .slice g n c' → n ≤ c') → (∀ g o' n c', x = .slice (some ⟨g, o', none⟩) n c' → g < w.heap.size) → Calls Tryd.prog 28 #[.int .i64 i, x] w fun e' w' => ∃ yo, e' = .returned (.slice yo R.length R.length) ∧ OB w w' yo R.length R := fun x w h1 h2 h3 h4 => by
    rw [← hR]
    exact sum_O i (1 :: (a ++ b)) x w h1 h2 (cons_lt (by decide) (app_lt (unhide HG).2.1.b (unhide HG).2.2.1.b)) (by have h1 := (unhide HG).2.2.2.1; have h2 := (unhide HG).2.2.2.2; rw [List.length_cons, List.length_append]; omega) h3 h4
  have HSum := hide hSum
  clear hSum hR
  generalize hA : a.length = A at *
  generalize hB : b.length = B1 at *
  obtain ⟨w1, hw1⟩ : ∃ w1, w.alloc (.cells #[.slice xo A xc, .slice yo B1 yc] 25) = w1 := ⟨_, rfl⟩
  have hF1 : Fr (fun _ => False) w w1 := by rw [← hw1]; exact (Fr.refl _ _).alloc _
  have hp : Pcs w1 (.slice (some ⟨w.heap.size, 0, none⟩) 2 2) [.slice xo A xc, .slice yo B1 yc] [a, b] := by
    have hx1 := (unhide HG).2.1.fr0 hF1
    have hy1 := (unhide HG).2.2.1.fr0 hF1
    have hc : ∀ j, j < 2 → w1.cell? ⟨w.heap.size, 0 + j, none⟩ = (#[.slice xo A xc, .slice yo B1 yc] : Array Value)[j]? := fun j hj => by rw [Nat.zero_add, ← hw1, World.cell?_alloc_at _ _ _ _ rfl]
    have hc0 := hc 0 (by decide)
    have hl : w.heap.size < w1.heap.size := lt_of_cell (v := .slice xo A xc) hc0
    refine ⟨rfl, .inr (.inr ⟨w.heap.size, 0, 2, rfl, hl, fun j v hv => ?_⟩), fun j v p hv hp => ?_, fun p hp => ?_⟩
    · match j with
      | 0 => rw [hc 0 (by decide)]; simpa using hv
      | 1 => rw [hc 1 (by decide)]; simpa using hv
      | j + 2 => simp at hv
    · match j with
      | 0 => simp at hv hp; subst hv hp; exact ⟨hx1.s, hx1.cap, hx1.lt⟩
      | 1 => simp at hv hp; subst hv hp; exact ⟨hy1.s, hy1.cap, hy1.lt⟩
      | j + 2 => simp at hv
    · simp at hp
      rcases hp with rfl | rfl
      · exact hx1.b
      · exact hy1.b
  have H1 := hide (And.intro hF1 hp)
  clear hF1 hp
  go_enter Tryd.func62, Tryd.ntmps62
  go_wp2_with fail
  refine (join_any 1 _ _ [a, b] w1 (unhide H1).2 (by decide) (fun p hp => by
    simp at hp
    rcases hp with rfl | rfl
    · rw [hA]; exact (unhide HG).2.2.2.1
    · rw [hB]; exact (unhide HG).2.2.2.2) (by simp)).mono ?_
  rintro e' w2 ⟨ao, cp, rfl, hO⟩
  have ef : [a, b].flatten = a ++ b := by simp
  have hln : (1 :: (a ++ b)).length = A + B1 + 1 := by rw [List.length_cons, List.length_append, hA, hB]
  rw [ef] at hO ⊢
  rw [hln]
  have hsrc := hO.src
  have hcap := hO.cap
  have hlt := hO.lt
  rw [hln] at hsrc hcap hlt
  clear ef hln
  have H2 := hide (And.intro hO (And.intro hsrc (And.intro hcap hlt)))
  clear hO hsrc hcap hlt
  go_wp2_with fail
  refine ((unhide HSum) _ w2 (((unhide HG).1.fr0 (unhide H1).1).fr0 (unhide H2).1.fr) (unhide H2).2.1 (fun _ _ _ e => by cases e; exact (unhide H2).2.2.1) (unhide H2).2.2.2).mono ?_
  rintro e' w3 ⟨zo, rfl, hO⟩
  have H3 := hide ((hO.base (unhide H2).1.fr).base (unhide H1).1)
  clear hO
  go_wp2_with fail
  go_ret
  exact ⟨zo, rfl, unhide H3⟩
end Go.Proofs.YthccbfgjekdiiaaDoor

namespace Go.Proofs.YthccbfgjekdiiaaDoor
open Go.RowKit

set_option maxRecDepth 100000 in
set_option maxHeartbeats 1000000 in
theorem joined_any (mk : Nat) (x y : Value) (a b : List Nat) (w : World) (hx : Src w x a) (hy : Src w y b) (hmk : mk < 256) (ha : a.length ≤ 4000000) (hb : b.length ≤ 4000000) :
    Calls Tryd.prog 92 #[.int .u8 mk, x, y] w fun e w' => ∃ ao cp, e = .returned (.slice ao (mk :: (a ++ b)).length cp) ∧ OB w w' ao cp (mk :: (a ++ b)) := by
  obtain ⟨xo, xc, rfl⟩ := hx.form
  obtain ⟨yo, yc, rfl⟩ := hy.form
  obtain ⟨w1, hr1, ho1, hF1⟩ := make0 (a.length + b.length + 1) w (by omega)
  have hO1 : OB w w1 (some ⟨w.heap.size, 0, none⟩) (a.length + b.length + 1) [] := ⟨ho1, hF1⟩
  obtain ⟨a2, c2, w2, hr2, hO2⟩ := hO1.app1 mk hmk (by simp)
  obtain ⟨a3, c3, w3, hr3, hO3⟩ := hO2.app _ a (hx.fr0 hO2.fr) (by simp; omega)
  obtain ⟨a4, c4, w4, hr4, hO4⟩ := hO3.app _ b (hy.fr0 hO3.fr) (by simp; omega)
  have e4 : [] ++ [mk] ++ a ++ b = mk :: (a ++ b) := by simp
  have l2 : (([] : List Nat) ++ [mk]).length = 1 := rfl
  have l3 : (([] : List Nat) ++ [mk] ++ a).length = 1 + a.length := by simp; omega
  have l4 : (([] : List Nat) ++ [mk] ++ a ++ b).length = 1 + a.length + b.length := by simp; omega
  rw [l2] at hr2 hr3
  rw [l3] at hr3 hr4
  rw [l4] at hr4
  rw [e4] at hO4
  obtain ⟨R, hR⟩ : ∃ R, mk :: (a ++ b) = R := ⟨_, rfl⟩
  rw [hR] at hO4 ⊢
  have HO := hide (And.intro hO4 (show R.length = 1 + a.length + b.length by rw [← hR, ← e4]; exact l4))
  clear hR
  have HR1 := hide (show (Instr.makeSlice 25 (.int .i64 0) (.int .i64 ((a.length : Int) + (b.length : Int) + 1))).run Tryd.prog w = .ok (.slice (some ⟨w.heap.size, 0, none⟩) 0 (a.length + b.length + 1)) w1 from hr1)
  have HR2 := hide hr2
  have HR3 := hide hr3
  have HR4 := hide hr4
  clear hr1 hr2 hr3 hr4 ho1 hF1 hO1 hO2 hO3 hO4 e4 l2 l3 l4 hx hy
  have r0 : IntKind.i64.wrap ((a.length : Int) + (b.length : Int)) = (a.length : Int) + (b.length : Int) := by rw [IntKind.wrap_i64]; omega
  have r1 : IntKind.i64.wrap ((a.length : Int) + (b.length : Int) + 1) = (a.length : Int) + (b.length : Int) + 1 := by rw [IntKind.wrap_i64]; omega
  clear ha hb
  generalize a.length = A at *
  generalize b.length = B1 at *
  have hr1 := unhide HR1
  go_enter Tryd.func92, Tryd.ntmps92
  go_wp2_with (first
    | (at_builtin; refine wpList_app rfl _ _ 25 25 rfl _ _ _ rfl rfl (unhide HR2) ?_)
    | (at_builtin; refine wpList_app rfl _ _ 25 25 rfl _ _ _ rfl rfl (unhide HR3) ?_)
    | (at_builtin; refine wpList_app rfl _ _ 25 25 rfl _ _ _ rfl rfl (unhide HR4) ?_))
  go_ret
  exact ⟨a4, c4, by rw [(unhide HO).2]; rfl, (unhide HO).1⟩
set_option maxRecDepth 100000 in
/-- The ref's Leaf. -/
theorem gleaf_any (i : Int) (x : Value) (e : List Nat) (w : World) (hr : GR w) (hx : Src w x e) (hb : ∀ v ∈ e, v < 256) (he : e.length ≤ 4000000) :
    Calls Tryd.prog 69 #[.int .i64 i, x] w fun e' w' => ∃ yo yc, e' = .returned (.slice yo (lf i e).length yc) ∧ OB w w' yo yc (lf i e) := by
  have HG := hide (And.intro hr (And.intro hx (And.intro hb he)))
  clear hr hx hb he
  obtain ⟨R, hR⟩ : ∃ R, lf i e = R := ⟨_, rfl⟩
  rw [hR]
  have hSum : ∀ (x : Value) (w : World), GR w → Src w x (0 :: e) → Calls Tryd.prog 89 #[.int .i64 i, x] w fun e' w' => ∃ yo yc, e' = .returned (.slice yo R.length yc) ∧ OB w w' yo yc R := fun x w h1 h2 => by
    rw [← hR]
    exact gsum_T i x (0 :: e) w h1 h2 (cons_lt (by decide) (unhide HG).2.2.1) (by have := (unhide HG).2.2.2; rw [List.length_cons]; omega)
  have HSum := hide hSum
  clear hSum hR
  go_enter Tryd.func69, Tryd.ntmps69
  go_wp2_with fail
  refine (joined_any 0 x (.slice none 0 0) e [] w (unhide HG).2.1 (.inl ⟨rfl, rfl⟩) (by decide) (unhide HG).2.2.2 (by simp)).mono ?_
  rintro e' w1 ⟨ao, cp, rfl, hO⟩
  rw [List.append_nil] at hO ⊢
  have hsrc := hO.src
  rw [List.length_cons] at hsrc ⊢
  have H1 := hide (And.intro hO hsrc)
  clear hO hsrc
  go_wp2_with fail
  refine ((unhide HSum) _ w1 ((unhide HG).1.fr0 (unhide H1).1.fr) (unhide H1).2).mono ?_
  rintro e' w2 ⟨yo, yc, rfl, hO⟩
  have H2 := hide (hO.base (unhide H1).1.fr)
  clear hO
  go_wp2_with fail
  go_ret
  exact ⟨yo, yc, rfl, unhide H2⟩
set_option maxRecDepth 100000 in
/-- The ref's Node. -/
theorem gnode_any (i : Int) (x y : Value) (a b : List Nat) (w : World) (hr : GR w) (hx : Src w x a) (hy : Src w y b) (ha : ∀ v ∈ a, v < 256) (hb : ∀ v ∈ b, v < 256) (hla : a.length ≤ 4000000) (hlb : b.length ≤ 4000000) :
    Calls Tryd.prog 91 #[.int .i64 i, x, y] w fun e' w' => ∃ yo yc, e' = .returned (.slice yo (nd i a b).length yc) ∧ OB w w' yo yc (nd i a b) := by
  have HG := hide (And.intro hr (And.intro hx (And.intro hy (And.intro ha (And.intro hb (And.intro hla hlb))))))
  clear hr hx hy ha hb hla hlb
  obtain ⟨R, hR⟩ : ∃ R, nd i a b = R := ⟨_, rfl⟩
  rw [hR]
  have hSum : ∀ (x : Value) (w : World), GR w → Src w x (1 :: (a ++ b)) → Calls Tryd.prog 89 #[.int .i64 i, x] w fun e' w' => ∃ yo yc, e' = .returned (.slice yo R.length yc) ∧ OB w w' yo yc R := fun x w h1 h2 => by
    rw [← hR]
    exact gsum_T i x (1 :: (a ++ b)) w h1 h2 (cons_lt (by decide) (app_lt (unhide HG).2.2.2.1 (unhide HG).2.2.2.2.1)) (by have h1 := (unhide HG).2.2.2.2.2.1; have h2 := (unhide HG).2.2.2.2.2.2; rw [List.length_cons, List.length_append]; omega)
  have HSum := hide hSum
  clear hSum hR
  go_enter Tryd.func91, Tryd.ntmps91
  go_wp2_with fail
  refine (joined_any 1 x y a b w (unhide HG).2.1 (unhide HG).2.2.1 (by decide) (unhide HG).2.2.2.2.2.1 (unhide HG).2.2.2.2.2.2).mono ?_
  rintro e' w1 ⟨ao, cp, rfl, hO⟩
  have hsrc := hO.src
  rw [List.length_cons, List.length_append] at hsrc ⊢
  have H1 := hide (And.intro hO hsrc)
  clear hO hsrc
  go_wp2_with fail
  refine ((unhide HSum) _ w1 ((unhide HG).1.fr0 (unhide H1).1.fr) (unhide H1).2).mono ?_
  rintro e' w2 ⟨yo, yc, rfl, hO⟩
  have H2 := hide (hO.base (unhide H1).1.fr)
  clear hO
  go_wp2_with fail
  go_ret
  exact ⟨yo, yc, rfl, unhide H2⟩
/-- k(n). -/
def hfk (n : Nat) : Nat → Nat
  | 0 => 1
  | t + 1 => 2 * hfk n t
theorem hfk_pow (n t : Nat) : hfk n t = 2 ^ t := by
  induction t with
  | zero => rfl
  | succ t ih => rw [hfk, ih, Nat.pow_succ, Nat.mul_comm]
/-- The greatest power of two below n; 1 where there is none. -/
def hf (n : Nat) : Nat := 2 ^ (Nat.log2 (n - 1))
theorem hf_pos (n : Nat) : 0 < hf n := Nat.pow_pos (by decide)
theorem hf_lt (n : Nat) (h : 2 ≤ n) : hf n < n := by
  have := Nat.log2_self_le (n := n - 1) (by omega)
  unfold hf
  omega
theorem hf_ge (n : Nat) (h : 2 ≤ n) : n ≤ 2 * hf n := by
  have := Nat.lt_log2_self (n := n - 1)
  rw [Nat.pow_succ] at this
  unfold hf
  omega
theorem hf_uniq (n t : Nat) (h1 : 2 ^ t < n) (h2 : n ≤ 2 * 2 ^ t) : hf n = 2 ^ t := by
  have hp : 0 < 2 ^ t := Nat.pow_pos (by decide)
  have hl : Nat.log2 (n - 1) = t := (Nat.log2_eq_iff (by omega)).2 ⟨by omega, by rw [Nat.pow_succ]; omega⟩
  unfold hf
  rw [hl]
set_option maxRecDepth 100000 in
theorem half_any (n : Nat) (w : World) (hn : n < 9223372036854775808) (h2 : 2 ≤ n) : Calls Tryd.prog 90 #[.int .i64 n] w fun e w' => e = .returned (.int .i64 (hf n : Nat)) ∧ w' = w := by
  go_enter Tryd.func90, Tryd.ntmps90
  go_wp2_with fail
  go_loopw [3] (fun kv wr => ∃ t : Nat, 2 ^ t < n ∧ kv = .int .i64 ((2 ^ t : Nat) : Int) ∧ wr = w) (fun kv _ => n - (intOf kv).toNat)
  case atStart => exact ⟨0, by simp; omega, rfl, rfl⟩
  case round =>
    obtain ⟨t, ht, rfl, rfl⟩ := hrel
    have hu := hf_uniq n t ht
    have hp : 0 < 2 ^ t := Nat.pow_pos (by decide)
    have hsucc : 2 ^ (t + 1) = 2 * 2 ^ t := by rw [Nat.pow_succ, Nat.mul_comm]
    have HU := hide (And.intro hu hsucc)
    clear hu hsucc
    generalize 2 ^ t = K at *
    have w1 : IntKind.i64.wrap ((n : Int) - (K : Int)) = (n : Int) - (K : Int) := by rw [IntKind.wrap_i64]; omega
    by_cases hlt : K < n - K
    · have hlt' : (K : Int) < (n : Int) - (K : Int) := by omega
      have w2 : IntKind.i64.wrap (2 * (K : Int)) = 2 * (K : Int) := by rw [IntKind.wrap_i64]; omega
      go_wp2_with fail
      exact ⟨⟨t + 1, by rw [(unhide HU).2]; omega, by rw [(unhide HU).2]; go_num, trivial⟩, by simp [intOf]; omega⟩
    · have hlt' : ¬ (K : Int) < (n : Int) - (K : Int) := by omega
      go_wp2_with fail
      go_ret
      exact ⟨by rw [(unhide HU).1 (by omega)]; rfl, rfl⟩
end Go.Proofs.YthccbfgjekdiiaaDoor

