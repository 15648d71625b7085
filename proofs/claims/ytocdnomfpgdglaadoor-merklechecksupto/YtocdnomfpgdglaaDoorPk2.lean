import Derived.Test.YtocdnomfpgdglaaDoorPk1
import Derived.Test.YtocdnomfpgdglaaDoorMae
namespace Go.Proofs.YtocdnomfpgdglaaDoor
open Go.RowKit

/-- Has each the width? -/
def wdq (j : Int) (ps : List (List Nat)) : Bool := ps.all fun p => decide ((p.length : Int) = j)
theorem wdq_take (j : Int) (ps : List (List Nat)) (k : Nat) (hk : k < ps.length) : wdq j (ps.take (k + 1)) = (wdq j (ps.take k) && decide ((ps[k].length : Int) = j)) := by
  rw [wdq, wdq, List.take_add_one, List.getElem?_eq_getElem hk, Option.toList_some, List.all_append]; simp
theorem wdq_false (j : Int) (ps : List (List Nat)) (k : Nat) (hk : k < ps.length) (h : ¬ (ps[k].length : Int) = j) : wdq j ps = false := by
  rw [wdq, List.all_eq_false]
  exact ⟨ps[k], List.getElem_mem hk, by simp [h]⟩
theorem wdq_true {j : Int} {ps : List (List Nat)} (h : wdq j ps = true) : ∀ p ∈ ps, (p.length : Int) = j := fun p hp => by
  rw [wdq, List.all_eq_true] at h
  simpa using h p hp
theorem Pcs.nth {w w' : World} {xo : Option Addr} {n xc : Nat} {vs : List Value} {ps : List (List Nat)} (h : Pcs w (.slice xo n xc) vs ps) (hf : Fr (fun _ => False) w w') (k : Nat) (hk : k < ps.length) : ∃ g o vo vc, xo = some ⟨g, o, none⟩ ∧ w'.cell? ⟨g, o + k, none⟩ = some (.slice vo ps[k].length vc) ∧ Sl w' (.slice vo ps[k].length vc) ps[k] := by
  obtain ⟨g, o, v, e, hc, hs, hcap, hlt, _⟩ := h.cell hf k hk
  obtain ⟨vo, vc, rfl⟩ := hs.form
  exact ⟨g, o, vo, vc, e, hc, hs, hcap, hlt.imp id (fun hh g o n c e => Nat.lt_of_lt_of_le (hh g o n c e) hf.size), h.byt _ (List.getElem_mem hk)⟩
set_option maxRecDepth 100000 in
set_option maxHeartbeats 1000000 in
/-- merkle.wide. -/
theorem wide_any (j : Int) (x : Value) (vs : List Value) (ps : List (List Nat)) (w : World) (hp : Pcs w x vs ps) (hn : ps.length < 4611686018427387904) :
    Calls Tryd.prog 49 #[.int .i64 j, x] w fun e w' => e = .returned (.bool (wdq j ps)) ∧ w' = w := by
  obtain ⟨xo, xc, rfl⟩ := hp.form
  have HG := hide (And.intro hp hn)
  clear hp hn
  generalize hN : ps.length = N at *
  go_enter Tryd.func49, Tryd.ntmps49
  go_wp2_with fail
  go_loopw [9] (fun iv wr => ∃ (k : Nat), k ≤ N ∧ iv = .int .i64 (k : Nat) ∧ wr = w ∧ wdq j (ps.take k) = true) (fun iv _ => N - (intOf iv).toNat)
  case atStart => exact ⟨0, Nat.zero_le _, rfl, rfl, by simp [wdq]⟩
  case round =>
    obtain ⟨k, hk, rfl, rfl, hw⟩ := hrel
    have hN8 := (unhide HG).2
    by_cases hlt : k < N
    · have hlt' : (k : Int) < (N : Int) := by omega
      have hke : k < ps.length := by omega
      obtain ⟨g, o, vo, vc, rfl, hcell, -⟩ := (unhide HG).1.nth (Fr.refl _ _) k hke
      by_cases he : (ps[k].length : Int) = j
      · have hw2 : wdq j (ps.take (k + 1)) = true := by rw [wdq_take j ps k hke, hw, decide_eq_true he]; rfl
        have HW := hide hw2
        clear hw2 hw
        have w1 : IntKind.i64.wrap ((k : Int) + 1) = (k : Int) + 1 := by rw [IntKind.wrap_i64]; omega
        have hee : ((ps[k].length : Int) == j) = true := by rw [he]; simp
        subst he
        generalize ps[k].length = EL at *
        go_wp2_with fail
        exact ⟨⟨k + 1, by omega, by go_num, by first | rfl | trivial, unhide HW⟩, by simp [intOf]; omega⟩
      · have hf := wdq_false j ps k hke he
        have HW := hide hf
        clear hf hw
        have hee : ((ps[k].length : Int) == j) = false := beq_false_of_ne he
        generalize ps[k].length = EL at *
        go_wp2_with fail
        go_ret
        exact ⟨by rw [unhide HW]; rfl, rfl⟩
    · have hkN : k = N := by omega
      have hlt' : ¬ (k : Int) < (N : Int) := by omega
      have htk : ps.take k = ps := List.take_of_length_le (by omega)
      rw [htk] at hw
      have HW := hide hw
      clear hw htk hkN
      go_wp2_with fail
      go_ret
      exact ⟨by rw [unhide HW]; rfl, rfl⟩
set_option maxRecDepth 100000 in
theorem ofEntry_any (wi i : Nat) (ro : Option Addr) (rn rc : Nat) (xo : Option Addr) (xn xc : Nat) (w : World) :
    Calls Tryd.prog 50 #[.int .i64 wi, .slice ro rn rc, .int .i64 i, .slice xo xn xc] w fun e w' => e = .returned (cv wi i 1 (.slice ro rn rc) (.slice xo xn xc)) ∧ Fr (fun _ => False) w w' := by
  unfold cv
  go_enter Tryd.func50, Tryd.ntmps50
  go_wp2_with fail
  go_returns
  exact ⟨rfl, (Fr.refl _ _).alloc _⟩
set_option maxRecDepth 100000 in
set_option maxHeartbeats 1000000 in
theorem fits_any (wi f n tf tn : Nat) (ro : Option Addr) (rn rc : Nat) (xo : Option Addr) (N xc : Nat) (w : World) (hb : f + n < 9223372036854775808) (hr : Rch f n tf tn) :
    Calls Tryd.prog 51 #[cv wi tf tn (.slice ro rn rc) (.slice xo N xc), sv f n] w fun e w' => e = .returned (.bool (decide (N = dep f n tf tn))) ∧ Fr (fun _ => False) w w' := by
  have hd := fun w => depth_any n f n tf tn w (Nat.le_refl _) hb hr
  unfold DepSays at hd
  have hee : ((N : Int) == ((dep f n tf tn : Nat) : Int)) = decide (N = dep f n tf tn) := by
    by_cases h : N = dep f n tf tn
    · simp [h]
    · rw [decide_eq_false h]; exact beq_false_of_ne (by omega)
  generalize dep f n tf tn = D at *
  generalize hB : decide (N = D) = B1 at *
  have HD := hide hd
  clear hd hr hb hB
  unfold cv sv at *
  go_enter Tryd.func51, Tryd.ntmps51
  go_wp2_with fail
  obtain ⟨W0, hW0⟩ : ∃ W0, (w.alloc (.cells #[.int .i64 wi, .int .i64 tf, .int .i64 tn, .slice ro rn rc, .slice xo N xc] 71)).alloc (.cells #[.int .i64 f, .int .i64 n] 69) = W0 := ⟨_, rfl⟩
  rw [hW0]
  obtain ⟨⟨a0, a1, a2, a3, a4⟩, b0, b1, hF0⟩ := box52 w _ _ _ _ _ _ _ _ _ W0 hW0
  have HF := hide hF0
  clear hF0 hW0 a0 a3
  generalize w.heap.size = P at *
  have hS : ∀ w', Fr (fun _ => False) W0 w' → w'.cell? ⟨P, 1, none⟩ = some (.int .i64 tf) ∧ w'.cell? ⟨P, 2, none⟩ = some (.int .i64 tn) ∧ w'.cell? ⟨P, 4, none⟩ = some (.slice xo N xc) ∧ w'.cell? ⟨P + 1, 0, none⟩ = some (.int .i64 f) ∧ w'.cell? ⟨P + 1, 1, none⟩ = some (.int .i64 n) := fun w' hf =>
    ⟨(hf.cell (lt_of_cell a1) (fun h => h)).trans a1, (hf.cell (lt_of_cell a2) (fun h => h)).trans a2, (hf.cell (lt_of_cell a4) (fun h => h)).trans a4, (hf.cell (lt_of_cell b0) (fun h => h)).trans b0, (hf.cell (lt_of_cell b1) (fun h => h)).trans b1⟩
  have HS := hide hS
  clear hS
  go_region_held3 (fun w' => w'.cell? ⟨P, 1, none⟩ = some (.int .i64 tf) ∧ w'.cell? ⟨P, 2, none⟩ = some (.int .i64 tn) ∧ w'.cell? ⟨P, 4, none⟩ = some (.slice xo N xc) ∧ w'.cell? ⟨P + 1, 0, none⟩ = some (.int .i64 f) ∧ w'.cell? ⟨P + 1, 1, none⟩ = some (.int .i64 n))
    (first | assumption | exact (unhide HS) _ (Fr.refl _ _).drew | exact (unhide HS) _ ((Fr.refl _ _).drew.trans fC (fun _ _ h => h)))
    (first
      | (go_at_call 83; refine ((unhide HD) _).mono ?_; rintro e wC ⟨rfl, fC⟩))
  have HE := hide ((unhide HF).drew.trans fC (fun _ _ h => h))
  clear fC
  go_wp2_with fail
  go_ret
  exact ⟨rfl, unhide HE⟩
theorem Sl.ints {w : World} {xo : Option Addr} {n c : Nat} {l : List Nat} (h : Sl w (.slice xo n c) l) : (l.map fun v : Nat => (v : Int)).length = n ∧ Lib.BytesIn w xo n (l.map fun v : Nat => (v : Int)) := by
  obtain ⟨a, c', e⟩ := h.form
  simp only [Value.slice.injEq] at e
  have hn : l.length = n := e.2.1.symm
  refine ⟨by simp [hn], ?_⟩
  by_cases h0 : l = []
  · subst h0
    have : n = 0 := by rw [← hn]; rfl
    subst this
    rcases xo with _ | a
    · exact Lib.BytesIn.nil _ _ _
    · exact Lib.BytesIn.of_cells (fun i hi => by simp at hi)
  · obtain ⟨g, o, rfl, _⟩ := src_cell h.s 0 (List.length_pos_iff.2 h0) h.b
    refine Lib.BytesIn.of_cells (fun i hi => ?_)
    have hi' : i < l.length := by omega
    obtain ⟨g', o', e', hc⟩ := src_cell h.s i hi' h.b
    simp only [Option.some.injEq, Addr.mk.injEq, and_true] at e'
    obtain ⟨rfl, rfl⟩ := e'
    rw [add_at2, hc]
    simp [List.getD, List.getElem?_eq_getElem hi']
theorem bytesOf_inj {a b : List Nat} (ha : ∀ v ∈ a, v < 256) (hb : ∀ v ∈ b, v < 256) : (Lib.bytesOf (a.map fun v : Nat => (v : Int)) == Lib.bytesOf (b.map fun v : Nat => (v : Int))) = decide (a = b) := by
  by_cases h : a = b
  · subst h; simp
  · rw [decide_eq_false h, beq_eq_false_iff_ne]
    intro e
    apply h
    have key : ∀ l : List Nat, (∀ v ∈ l, v < 256) → (Lib.bytesOf (l.map fun v : Nat => (v : Int))).map UInt8.toNat = l := fun l hl => by
      rw [Lib.bytesOf, List.map_map, List.map_map]
      conv => rhs; rw [← List.map_id l]
      apply List.map_congr_left
      intro v hv
      have := hl v hv
      simp
      omega
    rw [← key a ha, ← key b hb, e]
/-- bytes.Equal. -/
theorem beq_sl (x y : Value) (a b : List Nat) (w : World) (hx : Sl w x a) (hy : Sl w y b) : Calls Tryd.prog 52 #[x, y] w fun e w' => e = .returned (.bool (decide (a = b))) ∧ w' = w := by
  obtain ⟨xo, xc, rfl⟩ := hx.form
  obtain ⟨yo, yc, rfl⟩ := hy.form
  have := beq_any xo yo a.length xc b.length yc _ _ w hx.ints.1 hy.ints.1 hx.ints.2 hy.ints.2
  rw [bytesOf_inj hx.b hy.b] at this
  exact this
end Go.Proofs.YtocdnomfpgdglaaDoor

namespace Go.Proofs.YtocdnomfpgdglaaDoor
open Go.RowKit

theorem pcs2 {w : World} {x y : Value} {a b : List Nat} (hx : Sl w x a) (hy : Sl w y b) (W : World) (hW : w.alloc (.cells #[x, y] 26) = W) : Pcs W (.slice (some ⟨w.heap.size, 0, none⟩) 2 2) [x, y] [a, b] := by
  have hF1 : Fr (fun _ => False) w W := by rw [← hW]; exact (Fr.refl _ _).alloc _
  have hx1 := hx.fr0 hF1
  have hy1 := hy.fr0 hF1
  have hc : ∀ j, j < 2 → W.cell? ⟨w.heap.size, 0 + j, none⟩ = (#[x, y] : Array Value)[j]? := fun j hj => by rw [Nat.zero_add, ← hW, World.cell?_alloc_at _ _ _ _ rfl]
  have hc0 := hc 0 (by decide)
  have hl : w.heap.size < W.heap.size := lt_of_cell (v := x) hc0
  refine ⟨rfl, .inr (.inr ⟨w.heap.size, 0, 2, rfl, hl, fun j v hv => ?_⟩), fun j v p hv hp => ?_, fun p hp => ?_⟩
  · match j with
    | 0 => rw [hc 0 (by decide)]; simpa using hv
    | 1 => rw [hc 1 (by decide)]; simpa using hv
    | j + 2 => simp at hv
  · match j with
    | 0 => simp at hv hp; subst hv hp; exact ⟨hx1.s, hx1.cap, hx1.lt⟩
    | 1 => simp at hv hp; subst hv hp; exact ⟨hy1.s, hy1.cap, hy1.lt⟩
    | j + 2 => simp at hv
  · simp at hp
    rcases hp with rfl | rfl
    · exact hx1.b
    · exact hy1.b
/-- What CheckPath answers. -/
def chkP (j : Int) (leaf : List Nat) (i n : Int) (ps : List (List Nat)) (root : List Nat) : Bool :=
  decide (1 ≤ j ∧ j ≤ 32) && (decide (0 ≤ i) && (decide (i < n) && (wdq j [leaf, root] && (wdq j ps && (decide (ps.length = dep 0 n.toNat i.toNat 1) && decide (topv j.toNat leaf 0 n.toNat i.toNat 1 ps = root))))))
set_option maxRecDepth 100000 in
set_option maxHeartbeats 2000000 in
theorem checkPath_any (j i n : Int) (lv rv x : Value) (leaf root : List Nat) (vs : List Value) (ps : List (List Nat)) (w : World) (hg : GS w) (hl : Sl w lv leaf) (hr : Sl w rv root) (hp : Pcs w x vs ps) (hcx : Cp x) (hn : n < 9223372036854775808) (hps : ps.length < 4611686018427387904) :
    Calls Tryd.prog 19 #[.int .i64 j, lv, .int .i64 i, .int .i64 n, x, rv] w fun e w' => e = .returned (.bool (chkP j leaf i n ps root)) ∧ Fr (fun _ => False) w w' := by
  obtain ⟨lo, lc, rfl⟩ := hl.form
  obtain ⟨rr, rc, rfl⟩ := hr.form
  obtain ⟨xo, xc, rfl⟩ := hp.form
  by_cases h1o : j < 1 ∨ 32 < j
  · have h1 : ¬ (1 ≤ j ∧ j ≤ 32) := by omega
    have hB : chkP j leaf i n ps root = false := by rw [chkP, decide_eq_false h1]; rfl
    rw [hB]
    have HM := hide h1
    clear hg hl hr hp hcx hn hps hB h1 h1o
    generalize leaf.length = LL at *
    generalize root.length = RL at *
    generalize ps.length = PL at *
    go_enter Tryd.func19, Tryd.ntmps19
    go_wp2_with (go_at_call 48; refine (maybe_any j _).mono ?_; rintro e' w' ⟨rfl, hw'⟩; rw [hw', decide_eq_false (unhide HM)])
    go_ret
    exact ⟨rfl, Fr.refl _ _⟩
  · have h1 : 1 ≤ j ∧ j ≤ 32 := by omega
    clear h1o
    have HM := hide h1
    by_cases h2' : i < 0
    · have h2 : ¬ 0 ≤ i := by omega
      have hB : chkP j leaf i n ps root = false := by rw [chkP, decide_eq_true h1, decide_eq_false h2]; rfl
      rw [hB]
      clear hg hl hr hp hcx hn hps hB h1
      generalize leaf.length = LL at *
      generalize root.length = RL at *
      generalize ps.length = PL at *
      go_enter Tryd.func19, Tryd.ntmps19
      go_wp2_with (go_at_call 48; refine (maybe_any j _).mono ?_; rintro e' w' ⟨rfl, hw'⟩; rw [hw', decide_eq_true (unhide HM)])
      go_ret
      exact ⟨rfl, Fr.refl _ _⟩
    · have h2 : 0 ≤ i := by omega
      by_cases h3' : n ≤ i
      · have h3 : ¬ i < n := by omega
        have hB : chkP j leaf i n ps root = false := by rw [chkP, decide_eq_true h1, decide_eq_true h2, decide_eq_false h3]; rfl
        rw [hB]
        clear hg hl hr hp hcx hn hps hB h1
        generalize leaf.length = LL at *
        generalize root.length = RL at *
        generalize ps.length = PL at *
        go_enter Tryd.func19, Tryd.ntmps19
        go_wp2_with (go_at_call 48; refine (maybe_any j _).mono ?_; rintro e' w' ⟨rfl, hw'⟩; rw [hw', decide_eq_true (unhide HM)])
        go_ret
        exact ⟨rfl, Fr.refl _ _⟩
      · have h3 : i < n := by omega
        clear h2' h3'
        obtain ⟨wi, rfl⟩ : ∃ k : Nat, j = (k : Int) := ⟨j.toNat, by omega⟩
        obtain ⟨I, rfl⟩ : ∃ k : Nat, i = (k : Int) := ⟨i.toNat, by omega⟩
        obtain ⟨N, rfl⟩ : ∃ k : Nat, n = (k : Int) := ⟨n.toNat, by omega⟩
        have h2' : ¬ (I : Int) < 0 := by omega
        have h3' : ¬ (N : Int) ≤ (I : Int) := by omega
        have hIN : I < N := by omega
        have hrch := rch_one N 0 N I (Nat.le_refl _) (by omega) (by omega)
        obtain ⟨W1, hW1⟩ : ∃ W1, w.alloc (.cells #[.slice lo leaf.length lc, .slice rr root.length rc] 26) = W1 := ⟨_, rfl⟩
        have hF1 : Fr (fun _ => False) w W1 := by rw [← hW1]; exact (Fr.refl _ _).alloc _
        have hwd1 := wide_any wi _ _ [leaf, root] W1 (pcs2 hl hr W1 hW1) (by simp)
        have hwd2 := wide_any wi _ vs ps W1 (hp.fr0 hF1) hps
        have hce : chkP wi leaf I N ps root = (wdq wi [leaf, root] && (wdq wi ps && (decide (ps.length = dep 0 N I 1) && decide (topv wi leaf 0 N I 1 ps = root)))) := by
          rw [chkP, decide_eq_true h1, decide_eq_true h2, decide_eq_true h3]; rfl
        rw [hce]
        clear hce
        cases hq1 : wdq wi [leaf, root] with
        | false =>
          rw [hq1] at hwd1
          rw [Bool.false_and]
          have HC := hide (And.intro hwd1 hF1)
          clear hg hl hr hp hcx hn hps h1 h2 h3 hwd1 hwd2 hF1 hrch hIN hq1
          generalize leaf.length = LL at *
          generalize root.length = RL at *
          generalize ps.length = PL at *
          go_enter Tryd.func19, Tryd.ntmps19
          go_wp2_with (go_at_call 48; refine (maybe_any wi _).mono ?_; rintro e' w' ⟨rfl, hw'⟩; rw [hw', decide_eq_true (unhide HM)])
          refine (unhide HC).1.mono ?_
          rintro e' w2 ⟨rfl, rfl⟩
          go_wp2_with fail
          go_ret
          exact ⟨rfl, (unhide HC).2⟩
        | true =>
          rw [hq1] at hwd1
          rw [Bool.true_and]
          cases hq2 : wdq wi ps with
          | false =>
            rw [hq2] at hwd2
            rw [Bool.false_and]
            have HC := hide (And.intro hwd1 (And.intro hwd2 hF1))
            clear hg hl hr hp hcx hn hps h1 h2 h3 hwd1 hwd2 hF1 hrch hIN hq1 hq2
            generalize leaf.length = LL at *
            generalize root.length = RL at *
            generalize ps.length = PL at *
            go_enter Tryd.func19, Tryd.ntmps19
            go_wp2_with (go_at_call 48; refine (maybe_any wi _).mono ?_; rintro e' w' ⟨rfl, hw'⟩; rw [hw', decide_eq_true (unhide HM)])
            refine (unhide HC).1.mono ?_
            rintro e' w2 ⟨rfl, rfl⟩
            go_wp2_with fail
            refine (unhide HC).2.1.mono ?_
            rintro e' w3 ⟨rfl, rfl⟩
            go_wp2_with fail
            go_ret
            exact ⟨rfl, (unhide HC).2.2⟩
          | true =>
            rw [hq2] at hwd2
            rw [Bool.true_and]
            have hlw : leaf.length = wi := by have := wdq_true hq1 leaf (by simp); omega
            have hpw : ∀ p ∈ ps, p.length = wi := fun p hp => by have := wdq_true hq2 p hp; omega
            have hoe := fun w' => ofEntry_any wi I lo leaf.length lc xo ps.length xc w'
            have hft := fun w' => fits_any wi 0 N I 1 lo leaf.length lc xo ps.length xc w' (by omega) hrch
            by_cases hD : ps.length = dep 0 N I 1
            · have htop := fun w' (hf : Fr (fun _ => False) w w') => top_any wi (by omega) (by omega) N 0 N I 1 w' lo leaf.length lc leaf _ vs ps (Nat.le_refl _) (by omega) hrch (hg.fr0 hf) (hl.fr0 hf) hlw (hp.fr0 hf) hcx hD hpw
              rw [decide_eq_true hD] at hft ⊢
              rw [Bool.true_and]
              have HC := hide (And.intro hwd1 (And.intro hwd2 (And.intro hoe (And.intro hft (And.intro htop (And.intro hr hF1))))))
              clear hg hl hp hcx hn hps h1 h2 h3 hwd1 hwd2 hF1 hrch hIN hq1 hq2 hoe hft htop hD hpw hlw hr
              generalize topv wi leaf 0 N I 1 ps = TV at *
              obtain ⟨BB, hBB⟩ : ∃ BB, decide (TV = root) = BB := ⟨_, rfl⟩
              rw [hBB]
              have HBB := hide hBB
              clear hBB
              generalize leaf.length = LL at *
              generalize root.length = RL at *
              generalize ps.length = PL at *
              unfold sv cv at HC
              have e1 : ((1 : Nat) : Int) = 1 := rfl
              have e0 : ((0 : Nat) : Int) = 0 := rfl
              simp only [e1, e0] at HC
              clear e1 e0
              go_enter Tryd.func19, Tryd.ntmps19
              go_wp2_with (go_at_call 48; refine (maybe_any wi _).mono ?_; rintro e' w' ⟨rfl, hw'⟩; rw [hw', decide_eq_true (unhide HM)])
              refine (unhide HC).1.mono ?_
              rintro e' w2 ⟨rfl, rfl⟩
              go_wp2_with fail
              refine (unhide HC).2.1.mono ?_
              rintro e' w3 ⟨rfl, rfl⟩
              go_wp2_with fail
              refine ((unhide HC).2.2.1 _).mono ?_
              rintro e' wA ⟨rfl, hFA⟩
              have HA := hide ((unhide HC).2.2.2.2.2.2.trans hFA (fun _ _ h => h))
              clear hFA
              go_wp2_with fail
              obtain ⟨W2, hW2⟩ : ∃ W2, (wA.alloc (.cells #[.int .i64 wi, .int .i64 I, .int .i64 1, .slice lo LL lc, .slice xo PL xc] 71)).alloc (.cells #[.int .i64 0, .int .i64 N] 69) = W2 := ⟨_, rfl⟩
              rw [hW2]
              obtain ⟨⟨a0, a1, a2, a3, a4⟩, b0, b1, hF2⟩ := box52 wA _ _ _ _ _ _ _ _ _ W2 hW2
              refine ((unhide HC).2.2.2.1 _).mono ?_
              rintro e' wB ⟨rfl, hFB⟩
              have c0 := (hFB.cell (lt_of_cell a0) (fun h => h)).trans a0
              have c1 := (hFB.cell (lt_of_cell a1) (fun h => h)).trans a1
              have c2 := (hFB.cell (lt_of_cell a2) (fun h => h)).trans a2
              have c3 := (hFB.cell (lt_of_cell a3) (fun h => h)).trans a3
              have c4 := (hFB.cell (lt_of_cell a4) (fun h => h)).trans a4
              have d0 := (hFB.cell (lt_of_cell b0) (fun h => h)).trans b0
              have d1 := (hFB.cell (lt_of_cell b1) (fun h => h)).trans b1
              have HB := hide (((unhide HA).trans hF2 (fun _ _ h => h)).trans hFB (fun _ _ h => h))
              clear hF2 hFB hW2 a0 a1 a2 a3 a4 b0 b1 HA
              generalize wA.heap.size = P at *
              go_wp2_with fail
              refine ((unhide HC).2.2.2.2.1 _ (unhide HB)).mono ?_
              rintro e' wC ⟨uo, un, uc, rfl, hS, hFC⟩
              have HS := hide (And.intro hS ((unhide HB).trans hFC (fun _ _ h => h)))
              clear hS hFC
              go_wp2_with fail
              refine (beq_sl _ _ _ _ _ (unhide HS).1 ((unhide HC).2.2.2.2.2.1.fr0 (unhide HS).2)).mono ?_
              rintro e' wD ⟨rfl, rfl⟩
              rw [unhide HBB]
              go_wp2_with fail
              go_ret
              exact ⟨rfl, (unhide HS).2⟩
            · rw [decide_eq_false hD] at hft ⊢
              rw [Bool.false_and]
              have HC := hide (And.intro hwd1 (And.intro hwd2 (And.intro hoe (And.intro hft hF1))))
              clear hg hl hp hcx hn hps h1 h2 h3 hwd1 hwd2 hF1 hrch hIN hq1 hq2 hoe hft hD hpw hlw hr
              generalize leaf.length = LL at *
              generalize root.length = RL at *
              generalize ps.length = PL at *
              unfold sv cv at HC
              have e1 : ((1 : Nat) : Int) = 1 := rfl
              have e0 : ((0 : Nat) : Int) = 0 := rfl
              simp only [e1, e0] at HC
              clear e1 e0
              go_enter Tryd.func19, Tryd.ntmps19
              go_wp2_with (go_at_call 48; refine (maybe_any wi _).mono ?_; rintro e' w' ⟨rfl, hw'⟩; rw [hw', decide_eq_true (unhide HM)])
              refine (unhide HC).1.mono ?_
              rintro e' w2 ⟨rfl, rfl⟩
              go_wp2_with fail
              refine (unhide HC).2.1.mono ?_
              rintro e' w3 ⟨rfl, rfl⟩
              go_wp2_with fail
              refine ((unhide HC).2.2.1 _).mono ?_
              rintro e' wA ⟨rfl, hFA⟩
              have HA := hide ((unhide HC).2.2.2.2.trans hFA (fun _ _ h => h))
              clear hFA
              go_wp2_with fail
              refine ((unhide HC).2.2.2.1 _).mono ?_
              rintro e' wB ⟨rfl, hFB⟩
              have HB := hide ((unhide HA).trans ((((Fr.refl _ _).alloc _).alloc _).trans hFB (fun _ _ h => h)) (fun _ _ h => h))
              clear hFB
              go_wp2_with fail
              go_ret
              exact ⟨rfl, unhide HB⟩
end Go.Proofs.YtocdnomfpgdglaaDoor

namespace Go.Proofs.YtocdnomfpgdglaaDoor
open Go.RowKit

theorem set5 (w : World) (b : Nat) (x0 x1 x2 x3 x4 : Value) (h : ∀ j : Nat, j < 5 → (w.cell? ⟨b, j, none⟩).isSome = true) (W : World) (hW : ((((w.setCell ⟨b, 0, none⟩ x0).setCell ⟨b, 1, none⟩ x1).setCell ⟨b, 2, none⟩ x2).setCell ⟨b, 3, none⟩ x3).setCell ⟨b, 4, none⟩ x4 = W) : W.cell? ⟨b, 0, none⟩ = some x0 ∧ W.cell? ⟨b, 1, none⟩ = some x1 ∧ W.cell? ⟨b, 2, none⟩ = some x2 ∧ W.cell? ⟨b, 3, none⟩ = some x3 ∧ W.cell? ⟨b, 4, none⟩ = some x4 := by
  subst hW
  have o : ∀ (v : World) (i j : Nat) (u : Value), i ≠ j → (v.setCell ⟨b, i, none⟩ u).cell? ⟨b, j, none⟩ = v.cell? ⟨b, j, none⟩ := fun v i j u h => World.cell?_setCell_other _ _ _ _ (by intro e; injection e with e1 e2; omega)
  refine ⟨?_, ?_, ?_, ?_, ?_⟩
  · rw [o _ 4 0 _ (by decide), o _ 3 0 _ (by decide), o _ 2 0 _ (by decide), o _ 1 0 _ (by decide), World.cell?_setCell_same' _ _ _ (h 0 (by decide))]
  · rw [o _ 4 1 _ (by decide), o _ 3 1 _ (by decide), o _ 2 1 _ (by decide), World.cell?_setCell_same' _ _ _ (by rw [o _ 0 1 _ (by decide)]; exact h 1 (by decide))]
  · rw [o _ 4 2 _ (by decide), o _ 3 2 _ (by decide), World.cell?_setCell_same' _ _ _ (by rw [o _ 1 2 _ (by decide), o _ 0 2 _ (by decide)]; exact h 2 (by decide))]
  · rw [o _ 4 3 _ (by decide), World.cell?_setCell_same' _ _ _ (by rw [o _ 2 3 _ (by decide), o _ 1 3 _ (by decide), o _ 0 3 _ (by decide)]; exact h 3 (by decide))]
  · rw [World.cell?_setCell_same' _ _ _ (by rw [o _ 3 4 _ (by decide), o _ 2 4 _ (by decide), o _ 1 4 _ (by decide), o _ 0 4 _ (by decide)]; exact h 4 (by decide))]
theorem nil5 (w : World) (W : World) (hW : w.alloc (.cells #[.int .i64 0, .int .i64 0, .int .i64 0, .slice none 0 0, .slice none 0 0] 71) = W) : (W.cell? ⟨w.heap.size, 0, none⟩ = some (.int .i64 0) ∧ W.cell? ⟨w.heap.size, 1, none⟩ = some (.int .i64 0) ∧ W.cell? ⟨w.heap.size, 2, none⟩ = some (.int .i64 0) ∧ W.cell? ⟨w.heap.size, 3, none⟩ = some (.slice none 0 0) ∧ W.cell? ⟨w.heap.size, 4, none⟩ = some (.slice none 0 0)) ∧ (∀ j : Nat, j < 5 → W.frozen? ⟨w.heap.size, j, none⟩ = false) ∧ Fr (fun _ => False) w W := by
  subst hW
  refine ⟨⟨?_, ?_, ?_, ?_, ?_⟩, fun j hj => ?_, (Fr.refl _ _).alloc _⟩
  iterate 5 (rw [World.cell?_alloc_at _ _ _ _ rfl] <;> rfl)
  rw [World.frozen?_alloc_at _ _ _ _ rfl] <;> first | rfl | skip
set_option maxRecDepth 100000 in
set_option maxHeartbeats 1000000 in
/-- What a proof says, where SUB never left the first entries. -/
theorem ofProof_l (wi m n : Nat) (h0 : 0 < m) (hm : m ≤ n) (hn : n < 9223372036854775808) (he : (endF 0 n m).1 = 0) (ro : Option Addr) (rn rc : Nat) (xo : Option Addr) (xn xc : Nat) (w : World) :
    Calls Tryd.prog 70 #[.int .i64 wi, .int .i64 m, .int .i64 n, .slice ro rn rc, .slice xo xn xc] w fun e w' => e = .returned (.tuple #[cv wi (endF 0 n m).1 (endF 0 n m).2 (.slice ro rn rc) (.slice xo xn xc), .bool true]) ∧ Fr (fun _ => False) w w' := by
  have hend := fun w' => end_any n 0 n m w' (Nat.le_refl _) (by omega) h0 (by omega)
  unfold EndSays at hend
  rw [he] at hend ⊢
  generalize (endF 0 n m).2 = EN at *
  have HE := hide hend
  clear hend he h0 hm hn
  unfold sv cv at *
  have e0 : ((0 : Nat) : Int) = 0 := rfl
  simp only [e0] at HE ⊢
  clear e0
  go_enter Tryd.func70, Tryd.ntmps70
  go_wp2_with fail
  obtain ⟨W0, hW0⟩ : ∃ W0, w.alloc (.cells #[.int .i64 0, .int .i64 0, .int .i64 0, .slice none 0 0, .slice none 0 0] 71) = W0 := ⟨_, rfl⟩
  rw [hW0]
  obtain ⟨⟨a0, a1, a2, a3, a4⟩, hz, hF0⟩ := nil5 w W0 hW0
  refine ((unhide HE) _).mono ?_
  rintro e w1 ⟨rfl, hF⟩
  have c0 := (hF.cell (lt_of_cell a0) (fun h => h)).trans a0
  have c1 := (hF.cell (lt_of_cell a1) (fun h => h)).trans a1
  have c2 := (hF.cell (lt_of_cell a2) (fun h => h)).trans a2
  have c3 := (hF.cell (lt_of_cell a3) (fun h => h)).trans a3
  have c4 := (hF.cell (lt_of_cell a4) (fun h => h)).trans a4
  have y0 := (hF.frozen (p := ⟨w.heap.size, 0, none⟩) (lt_of_cell a0) (fun h => h)).trans (hz 0 (by decide))
  have y1 := (hF.frozen (p := ⟨w.heap.size, 1, none⟩) (lt_of_cell a1) (fun h => h)).trans (hz 1 (by decide))
  have y2 := (hF.frozen (p := ⟨w.heap.size, 2, none⟩) (lt_of_cell a2) (fun h => h)).trans (hz 2 (by decide))
  have y3 := (hF.frozen (p := ⟨w.heap.size, 3, none⟩) (lt_of_cell a3) (fun h => h)).trans (hz 3 (by decide))
  have y4 := (hF.frozen (p := ⟨w.heap.size, 4, none⟩) (lt_of_cell a4) (fun h => h)).trans (hz 4 (by decide))
  have HF := hide (hF0.trans hF (fun _ _ h => h))
  have hP : w.heap.size ≤ w.heap.size := Nat.le_refl _
  clear hF hF0 a0 a1 a2 a3 a4 hz hW0
  generalize hPe : w.heap.size = P at *
  have HP := hide hPe
  clear hPe
  have l0 : P < w1.heap.size := lt_of_cell c0
  have l1 : P < w1.heap.size + 1 := Nat.lt_succ_of_lt l0
  go_wp2_with fail
  obtain ⟨W2, hW2⟩ : ∃ W2, ((((w1.setCell ⟨P, 0, none⟩ (.int .i64 (wi : Int))).setCell ⟨P, 1, none⟩ (.int .i64 0)).setCell ⟨P, 2, none⟩ (.int .i64 (EN : Int))).setCell ⟨P, 3, none⟩ (.slice ro rn rc)).setCell ⟨P, 4, none⟩ (.slice xo xn xc) = W2 := ⟨_, rfl⟩
  obtain ⟨k0, k1, k2, k3, k4⟩ := set5 w1 P _ _ _ _ _ (fun j hj => by
    match j, hj with
    | 0, _ => rw [c0]; rfl
    | 1, _ => rw [c1]; rfl
    | 2, _ => rw [c2]; rfl
    | 3, _ => rw [c3]; rfl
    | 4, _ => rw [c4]; rfl) W2 hW2
  have hPw : w.heap.size ≤ P := Nat.le_of_eq (unhide HP)
  have hF2 : Fr (fun _ => False) w W2 := by
    rw [← hW2]
    exact (((((unhide HF).setCell (p := ⟨P, 0, none⟩) (.inr hPw) _).setCell (p := ⟨P, 1, none⟩) (.inr hPw) _).setCell (p := ⟨P, 2, none⟩) (.inr hPw) _).setCell (p := ⟨P, 3, none⟩) (.inr hPw) _).setCell (p := ⟨P, 4, none⟩) (.inr hPw) _
  rw [hW2]
  obtain ⟨W3, hW3⟩ : ∃ W3, W2.alloc (.cells #[.int .i64 0, .int .i64 (EN : Int)] 69) = W3 := ⟨_, rfl⟩
  have hF3 : Fr (fun _ => False) W2 W3 := by rw [← hW3]; exact (Fr.refl _ _).alloc _
  rw [hW3]
  have j0 := (hF3.cell (lt_of_cell k0) (fun h => h)).trans k0
  have j1 := (hF3.cell (lt_of_cell k1) (fun h => h)).trans k1
  have j2 := (hF3.cell (lt_of_cell k2) (fun h => h)).trans k2
  have j3 := (hF3.cell (lt_of_cell k3) (fun h => h)).trans k3
  have j4 := (hF3.cell (lt_of_cell k4) (fun h => h)).trans k4
  refine bodyPost_ret (by simp [results, Tryd.results70, go_sem, j0, j1, j2, j3, j4]; try rfl) rfl ?_
  exact ⟨rfl, hF2.trans hF3 (fun _ _ h => h)⟩
end Go.Proofs.YtocdnomfpgdglaaDoor

namespace Go.Proofs.YtocdnomfpgdglaaDoor
open Go.RowKit

set_option maxRecDepth 100000 in
set_option maxHeartbeats 1000000 in
/-- A proof without the root of the part where SUB ends. -/
theorem ofProof_no (wi m n : Nat) (h0 : 0 < m) (hm : m ≤ n) (hn : n < 9223372036854775808) (he : ¬ (endF 0 n m).1 = 0) (ro : Option Addr) (rn rc : Nat) (xo : Option Addr) (xc : Nat) (w : World) :
    Calls Tryd.prog 70 #[.int .i64 wi, .int .i64 m, .int .i64 n, .slice ro rn rc, .slice xo 0 xc] w fun e w' => e = .returned (.tuple #[cv 0 0 0 (.slice none 0 0) (.slice none 0 0), .bool false]) ∧ Fr (fun _ => False) w w' := by
  have hend := fun w' => end_any n 0 n m w' (Nat.le_refl _) (by omega) h0 (by omega)
  unfold EndSays at hend
  generalize (endF 0 n m).2 = EN at *
  generalize (endF 0 n m).1 = E1 at *
  have q1 : ((E1 : Int) == 0) = false := beq_false_of_ne (by omega)
  have q2 := he
  have HE := hide hend
  clear hend he h0 hm hn
  unfold sv cv at *
  have e0 : ((0 : Nat) : Int) = 0 := rfl
  simp only [e0] at HE ⊢
  clear e0
  go_enter Tryd.func70, Tryd.ntmps70
  go_wp2_with fail
  obtain ⟨W0, hW0⟩ : ∃ W0, w.alloc (.cells #[.int .i64 0, .int .i64 0, .int .i64 0, .slice none 0 0, .slice none 0 0] 71) = W0 := ⟨_, rfl⟩
  rw [hW0]
  obtain ⟨⟨a0, a1, a2, a3, a4⟩, hz, hF0⟩ := nil5 w W0 hW0
  refine ((unhide HE) _).mono ?_
  rintro e w1 ⟨rfl, hF⟩
  have c0 := (hF.cell (lt_of_cell a0) (fun h => h)).trans a0
  have c1 := (hF.cell (lt_of_cell a1) (fun h => h)).trans a1
  have c2 := (hF.cell (lt_of_cell a2) (fun h => h)).trans a2
  have c3 := (hF.cell (lt_of_cell a3) (fun h => h)).trans a3
  have c4 := (hF.cell (lt_of_cell a4) (fun h => h)).trans a4
  have y0 := (hF.frozen (p := ⟨w.heap.size, 0, none⟩) (lt_of_cell a0) (fun h => h)).trans (hz 0 (by decide))
  have y1 := (hF.frozen (p := ⟨w.heap.size, 1, none⟩) (lt_of_cell a1) (fun h => h)).trans (hz 1 (by decide))
  have y2 := (hF.frozen (p := ⟨w.heap.size, 2, none⟩) (lt_of_cell a2) (fun h => h)).trans (hz 2 (by decide))
  have y3 := (hF.frozen (p := ⟨w.heap.size, 3, none⟩) (lt_of_cell a3) (fun h => h)).trans (hz 3 (by decide))
  have y4 := (hF.frozen (p := ⟨w.heap.size, 4, none⟩) (lt_of_cell a4) (fun h => h)).trans (hz 4 (by decide))
  have HF := hide (hF0.trans hF (fun _ _ h => h))
  have hP : w.heap.size ≤ w.heap.size := Nat.le_refl _
  clear hF hF0 a0 a1 a2 a3 a4 hz hW0
  generalize hPe : w.heap.size = P at *
  have HP := hide hPe
  clear hPe
  have l0 : P < w1.heap.size := lt_of_cell c0
  have l1 : P < w1.heap.size + 1 := Nat.lt_succ_of_lt l0
  go_wp2_with fail
  obtain ⟨W2, hW2⟩ : ∃ W2, ((((w1.setCell ⟨P, 0, none⟩ (.int .i64 0)).setCell ⟨P, 1, none⟩ (.int .i64 0)).setCell ⟨P, 2, none⟩ (.int .i64 0)).setCell ⟨P, 3, none⟩ (.slice none 0 0)).setCell ⟨P, 4, none⟩ (.slice none 0 0) = W2 := ⟨_, rfl⟩
  obtain ⟨k0, k1, k2, k3, k4⟩ := set5 w1 P _ _ _ _ _ (fun j hj => by
    match j, hj with
    | 0, _ => rw [c0]; rfl
    | 1, _ => rw [c1]; rfl
    | 2, _ => rw [c2]; rfl
    | 3, _ => rw [c3]; rfl
    | 4, _ => rw [c4]; rfl) W2 hW2
  have hPw : w.heap.size ≤ P := Nat.le_of_eq (unhide HP)
  have hF2 : Fr (fun _ => False) w W2 := by
    rw [← hW2]
    exact (((((unhide HF).setCell (p := ⟨P, 0, none⟩) (.inr hPw) _).setCell (p := ⟨P, 1, none⟩) (.inr hPw) _).setCell (p := ⟨P, 2, none⟩) (.inr hPw) _).setCell (p := ⟨P, 3, none⟩) (.inr hPw) _).setCell (p := ⟨P, 4, none⟩) (.inr hPw) _
  rw [hW2]
  obtain ⟨W3, hW3⟩ : ∃ W3, W2.alloc (.cells #[.int .i64 (E1 : Int), .int .i64 (EN : Int)] 69) = W3 := ⟨_, rfl⟩
  have hF3 : Fr (fun _ => False) W2 W3 := by rw [← hW3]; exact (Fr.refl _ _).alloc _
  rw [hW3]
  have j0 := (hF3.cell (lt_of_cell k0) (fun h => h)).trans k0
  have j1 := (hF3.cell (lt_of_cell k1) (fun h => h)).trans k1
  have j2 := (hF3.cell (lt_of_cell k2) (fun h => h)).trans k2
  have j3 := (hF3.cell (lt_of_cell k3) (fun h => h)).trans k3
  have j4 := (hF3.cell (lt_of_cell k4) (fun h => h)).trans k4
  refine bodyPost_ret (by simp [results, Tryd.results70, go_sem, j0, j1, j2, j3, j4]; try rfl) rfl ?_
  exact ⟨rfl, hF2.trans hF3 (fun _ _ h => h)⟩
end Go.Proofs.YtocdnomfpgdglaaDoor

namespace Go.Proofs.YtocdnomfpgdglaaDoor
open Go.RowKit

set_option maxRecDepth 100000 in
set_option maxHeartbeats 2000000 in
/-- What a proof says, its first hash the root of the part where SUB ends. -/
theorem ofProof_r (wi m n : Nat) (h0 : 0 < m) (hm : m ≤ n) (hn : n < 9223372036854775808) (he : ¬ (endF 0 n m).1 = 0) (ro : Option Addr) (rn rc : Nat) (g o xn xc : Nat) (vo : Option Addr) (vn vc : Nat) (w : World) (hc : w.cell? ⟨g, o, none⟩ = some (.slice vo vn vc)) (hxc : xn + 1 ≤ xc) (hx1 : ¬ xc = 1) :
    Calls Tryd.prog 70 #[.int .i64 wi, .int .i64 m, .int .i64 n, .slice ro rn rc, .slice (some ⟨g, o, none⟩) (xn + 1) xc] w fun e w' => e = .returned (.tuple #[cv wi (endF 0 n m).1 (endF 0 n m).2 (.slice vo vn vc) (.slice (some ⟨g, o + 1, none⟩) xn (xc - 1)), .bool true]) ∧ Fr (fun _ => False) w w' := by
  have hend := fun w' => end_any n 0 n m w' (Nat.le_refl _) (by omega) h0 (by omega)
  unfold EndSays at hend
  generalize (endF 0 n m).2 = EN at *
  generalize (endF 0 n m).1 = E1 at *
  have q1 : ((E1 : Int) == 0) = false := beq_false_of_ne (by omega)
  have q2 := he
  have q3 : (((xn : Int) + 1) == 0) = false := beq_false_of_ne (by omega)
  have q4 : ¬ (xn : Int) + 1 = 0 := by omega
  have q5 : (0 : Int) < (xn : Int) + 1 := by omega
  have q6 : (1 : Int) ≤ (xn : Int) + 1 := by omega
  have q7 : (1 : Int) ≤ (xc : Int) := by omega
  have q8 : (xn : Int) + 1 ≤ (xc : Int) := by omega
  have q9 : ¬ 1 = xc := fun h => hx1 h.symm
  have HE := hide hend
  clear hend he h0 hm hn
  unfold sv cv at *
  have e0 : ((0 : Nat) : Int) = 0 := rfl
  simp only [e0] at HE ⊢
  clear e0
  go_enter Tryd.func70, Tryd.ntmps70
  go_wp2_with fail
  obtain ⟨W0, hW0⟩ : ∃ W0, w.alloc (.cells #[.int .i64 0, .int .i64 0, .int .i64 0, .slice none 0 0, .slice none 0 0] 71) = W0 := ⟨_, rfl⟩
  rw [hW0]
  obtain ⟨⟨a0, a1, a2, a3, a4⟩, hz, hF0⟩ := nil5 w W0 hW0
  refine ((unhide HE) _).mono ?_
  rintro e w1 ⟨rfl, hF⟩
  have hc1 := ((hF0.trans hF (fun _ _ h => h)).cell (lt_of_cell hc) (fun h => h)).trans hc
  have hgl : g < w1.heap.size := lt_of_cell hc1
  have hgl1 : g < w1.heap.size + 1 := Nat.lt_succ_of_lt hgl
  have hgne : ¬ g = w.heap.size := by have := lt_of_cell hc; exact fun h => by simp at this; omega
  clear hc
  have c0 := (hF.cell (lt_of_cell a0) (fun h => h)).trans a0
  have c1 := (hF.cell (lt_of_cell a1) (fun h => h)).trans a1
  have c2 := (hF.cell (lt_of_cell a2) (fun h => h)).trans a2
  have c3 := (hF.cell (lt_of_cell a3) (fun h => h)).trans a3
  have c4 := (hF.cell (lt_of_cell a4) (fun h => h)).trans a4
  have y0 := (hF.frozen (p := ⟨w.heap.size, 0, none⟩) (lt_of_cell a0) (fun h => h)).trans (hz 0 (by decide))
  have y1 := (hF.frozen (p := ⟨w.heap.size, 1, none⟩) (lt_of_cell a1) (fun h => h)).trans (hz 1 (by decide))
  have y2 := (hF.frozen (p := ⟨w.heap.size, 2, none⟩) (lt_of_cell a2) (fun h => h)).trans (hz 2 (by decide))
  have y3 := (hF.frozen (p := ⟨w.heap.size, 3, none⟩) (lt_of_cell a3) (fun h => h)).trans (hz 3 (by decide))
  have y4 := (hF.frozen (p := ⟨w.heap.size, 4, none⟩) (lt_of_cell a4) (fun h => h)).trans (hz 4 (by decide))
  have HF := hide (hF0.trans hF (fun _ _ h => h))
  have hP : w.heap.size ≤ w.heap.size := Nat.le_refl _
  clear hF hF0 a0 a1 a2 a3 a4 hz hW0
  generalize hPe : w.heap.size = P at *
  have HP := hide hPe
  clear hPe
  have l0 : P < w1.heap.size := lt_of_cell c0
  have l1 : P < w1.heap.size + 1 := Nat.lt_succ_of_lt l0
  go_wp2_with fail
  go_region
  go_wp2_with fail
  obtain ⟨W2, hW2⟩ : ∃ W2, ((((w1.setCell ⟨P, 0, none⟩ (.int .i64 (wi : Int))).setCell ⟨P, 1, none⟩ (.int .i64 (E1 : Int))).setCell ⟨P, 2, none⟩ (.int .i64 (EN : Int))).setCell ⟨P, 3, none⟩ (.slice vo vn vc)).setCell ⟨P, 4, none⟩ (.slice (some ⟨g, o + 1, none⟩) xn (xc - 1)) = W2 := ⟨_, rfl⟩
  obtain ⟨k0, k1, k2, k3, k4⟩ := set5 w1 P _ _ _ _ _ (fun j hj => by
    match j, hj with
    | 0, _ => rw [c0]; rfl
    | 1, _ => rw [c1]; rfl
    | 2, _ => rw [c2]; rfl
    | 3, _ => rw [c3]; rfl
    | 4, _ => rw [c4]; rfl) W2 hW2
  have hPw : w.heap.size ≤ P := Nat.le_of_eq (unhide HP)
  have hF2 : Fr (fun _ => False) w W2 := by
    rw [← hW2]
    exact (((((unhide HF).setCell (p := ⟨P, 0, none⟩) (.inr hPw) _).setCell (p := ⟨P, 1, none⟩) (.inr hPw) _).setCell (p := ⟨P, 2, none⟩) (.inr hPw) _).setCell (p := ⟨P, 3, none⟩) (.inr hPw) _).setCell (p := ⟨P, 4, none⟩) (.inr hPw) _
  rw [hW2]
  obtain ⟨W3, hW3⟩ : ∃ W3, (W2.alloc (.cells #[.int .i64 (E1 : Int), .int .i64 (EN : Int)] 69)).drew = W3 := ⟨_, rfl⟩
  have hF3 : Fr (fun _ => False) W2 W3 := by rw [← hW3]; exact ((Fr.refl _ _).alloc _).drew
  rw [hW3]
  have j0 := (hF3.cell (lt_of_cell k0) (fun h => h)).trans k0
  have j1 := (hF3.cell (lt_of_cell k1) (fun h => h)).trans k1
  have j2 := (hF3.cell (lt_of_cell k2) (fun h => h)).trans k2
  have j3 := (hF3.cell (lt_of_cell k3) (fun h => h)).trans k3
  have j4 := (hF3.cell (lt_of_cell k4) (fun h => h)).trans k4
  refine bodyPost_ret (by simp [results, Tryd.results70, go_sem, j0, j1, j2, j3, j4]; try rfl) rfl ?_
  exact ⟨rfl, hF2.trans hF3 (fun _ _ h => h)⟩
end Go.Proofs.YtocdnomfpgdglaaDoor

namespace Go.Proofs.YtocdnomfpgdglaaDoor
open Go.RowKit

set_option maxRecDepth 100000 in
set_option maxHeartbeats 2000000 in
/-- What a proof says, its one hash the root of the part where SUB ends, in a slice of capacity 1. -/
theorem ofProof_r1 (wi m n : Nat) (h0 : 0 < m) (hm : m ≤ n) (hn : n < 9223372036854775808) (he : ¬ (endF 0 n m).1 = 0) (ro : Option Addr) (rn rc : Nat) (g o : Nat) (vo : Option Addr) (vn vc : Nat) (w : World) (hc : w.cell? ⟨g, o, none⟩ = some (.slice vo vn vc)) :
    Calls Tryd.prog 70 #[.int .i64 wi, .int .i64 m, .int .i64 n, .slice ro rn rc, .slice (some ⟨g, o, none⟩) 1 1] w fun e w' => e = .returned (.tuple #[cv wi (endF 0 n m).1 (endF 0 n m).2 (.slice vo vn vc) (.slice (some ⟨g, o, none⟩) 0 0), .bool true]) ∧ Fr (fun _ => False) w w' := by
  have hend := fun w' => end_any n 0 n m w' (Nat.le_refl _) (by omega) h0 (by omega)
  unfold EndSays at hend
  generalize (endF 0 n m).2 = EN at *
  generalize (endF 0 n m).1 = E1 at *
  have q1 : ((E1 : Int) == 0) = false := beq_false_of_ne (by omega)
  have q2 := he
  have HE := hide hend
  clear hend he h0 hm hn
  unfold sv cv at *
  have e0 : ((0 : Nat) : Int) = 0 := rfl
  simp only [e0] at HE ⊢
  clear e0
  go_enter Tryd.func70, Tryd.ntmps70
  go_wp2_with fail
  obtain ⟨W0, hW0⟩ : ∃ W0, w.alloc (.cells #[.int .i64 0, .int .i64 0, .int .i64 0, .slice none 0 0, .slice none 0 0] 71) = W0 := ⟨_, rfl⟩
  rw [hW0]
  obtain ⟨⟨a0, a1, a2, a3, a4⟩, hz, hF0⟩ := nil5 w W0 hW0
  refine ((unhide HE) _).mono ?_
  rintro e w1 ⟨rfl, hF⟩
  have hc1 := ((hF0.trans hF (fun _ _ h => h)).cell (lt_of_cell hc) (fun h => h)).trans hc
  have hgl : g < w1.heap.size := lt_of_cell hc1
  have hgl1 : g < w1.heap.size + 1 := Nat.lt_succ_of_lt hgl
  have hgne : ¬ g = w.heap.size := by have := lt_of_cell hc; exact fun h => by simp at this; omega
  clear hc
  have c0 := (hF.cell (lt_of_cell a0) (fun h => h)).trans a0
  have c1 := (hF.cell (lt_of_cell a1) (fun h => h)).trans a1
  have c2 := (hF.cell (lt_of_cell a2) (fun h => h)).trans a2
  have c3 := (hF.cell (lt_of_cell a3) (fun h => h)).trans a3
  have c4 := (hF.cell (lt_of_cell a4) (fun h => h)).trans a4
  have y0 := (hF.frozen (p := ⟨w.heap.size, 0, none⟩) (lt_of_cell a0) (fun h => h)).trans (hz 0 (by decide))
  have y1 := (hF.frozen (p := ⟨w.heap.size, 1, none⟩) (lt_of_cell a1) (fun h => h)).trans (hz 1 (by decide))
  have y2 := (hF.frozen (p := ⟨w.heap.size, 2, none⟩) (lt_of_cell a2) (fun h => h)).trans (hz 2 (by decide))
  have y3 := (hF.frozen (p := ⟨w.heap.size, 3, none⟩) (lt_of_cell a3) (fun h => h)).trans (hz 3 (by decide))
  have y4 := (hF.frozen (p := ⟨w.heap.size, 4, none⟩) (lt_of_cell a4) (fun h => h)).trans (hz 4 (by decide))
  have HF := hide (hF0.trans hF (fun _ _ h => h))
  have hP : w.heap.size ≤ w.heap.size := Nat.le_refl _
  clear hF hF0 a0 a1 a2 a3 a4 hz hW0
  generalize hPe : w.heap.size = P at *
  have HP := hide hPe
  clear hPe
  have l0 : P < w1.heap.size := lt_of_cell c0
  have l1 : P < w1.heap.size + 1 := Nat.lt_succ_of_lt l0
  go_wp2_with fail
  go_region
  go_wp2_with fail
  obtain ⟨W2, hW2⟩ : ∃ W2, ((((w1.setCell ⟨P, 0, none⟩ (.int .i64 (wi : Int))).setCell ⟨P, 1, none⟩ (.int .i64 (E1 : Int))).setCell ⟨P, 2, none⟩ (.int .i64 (EN : Int))).setCell ⟨P, 3, none⟩ (.slice vo vn vc)).setCell ⟨P, 4, none⟩ (.slice (some ⟨g, o, none⟩) 0 0) = W2 := ⟨_, rfl⟩
  obtain ⟨k0, k1, k2, k3, k4⟩ := set5 w1 P _ _ _ _ _ (fun j hj => by
    match j, hj with
    | 0, _ => rw [c0]; rfl
    | 1, _ => rw [c1]; rfl
    | 2, _ => rw [c2]; rfl
    | 3, _ => rw [c3]; rfl
    | 4, _ => rw [c4]; rfl) W2 hW2
  have hPw : w.heap.size ≤ P := Nat.le_of_eq (unhide HP)
  have hF2 : Fr (fun _ => False) w W2 := by
    rw [← hW2]
    exact (((((unhide HF).setCell (p := ⟨P, 0, none⟩) (.inr hPw) _).setCell (p := ⟨P, 1, none⟩) (.inr hPw) _).setCell (p := ⟨P, 2, none⟩) (.inr hPw) _).setCell (p := ⟨P, 3, none⟩) (.inr hPw) _).setCell (p := ⟨P, 4, none⟩) (.inr hPw) _
  rw [hW2]
  obtain ⟨W3, hW3⟩ : ∃ W3, (W2.alloc (.cells #[.int .i64 (E1 : Int), .int .i64 (EN : Int)] 69)).drew = W3 := ⟨_, rfl⟩
  have hF3 : Fr (fun _ => False) W2 W3 := by rw [← hW3]; exact ((Fr.refl _ _).alloc _).drew
  rw [hW3]
  have j0 := (hF3.cell (lt_of_cell k0) (fun h => h)).trans k0
  have j1 := (hF3.cell (lt_of_cell k1) (fun h => h)).trans k1
  have j2 := (hF3.cell (lt_of_cell k2) (fun h => h)).trans k2
  have j3 := (hF3.cell (lt_of_cell k3) (fun h => h)).trans k3
  have j4 := (hF3.cell (lt_of_cell k4) (fun h => h)).trans k4
  refine bodyPost_ret (by simp [results, Tryd.results70, go_sem, j0, j1, j2, j3, j4]; try rfl) rfl ?_
  exact ⟨rfl, hF2.trans hF3 (fun _ _ h => h)⟩
end Go.Proofs.YtocdnomfpgdglaaDoor

namespace Go.Proofs.YtocdnomfpgdglaaDoor
open Go.RowKit

/-- A literal of one hash. -/
theorem ol_lit1 {w w1 : World} {yo : Option Addr} {yc : Nat} {l : List Nat} (hO : OB w w1 yo yc l) (hb : ∀ v ∈ l, v < 256) (n : Nat) (hn : l.length = n) (W : World) (hW : w1.alloc (.cells #[.slice yo n yc] 26) = W) : OL w W (some ⟨w1.heap.size, 0, none⟩) 1 [.slice yo n yc] [l] := by
  subst hn
  have hF : Fr (fun _ => False) w1 W := by rw [← hW]; exact (Fr.refl _ _).alloc _
  refine ⟨⟨?_, hO.fr.trans hF (fun _ _ h => h)⟩, rfl, fun j v p hv hp => ?_, fun j j' v v' g g' hj hv hv' => ?_, fun p hp => ?_⟩
  · have := World.ownsRow_lit (e := 26) (size := 1) w1 #[.slice yo l.length yc] 1 (Nat.le_refl _) (by simp only [maxLen]; omega) rfl
    rw [hW] at this
    refine ⟨this.1, ?_⟩
    rcases this.2 with h0 | ⟨g, cap, cur, e1, e2, e3⟩
    · exact .inl h0
    · exact .inr ⟨g, cap, cur, e1, Nat.le_trans hO.fr.size e2, e3⟩
  · match j with
    | 0 =>
      simp at hv hp
      subst hv hp
      exact ⟨yo, yc, rfl, hO.ow.fr0 hF⟩
    | j + 1 => simp at hv
  · match j, j' with
    | 0, 0 => exact absurd rfl hj
    | j + 1, _ => simp at hv
    | 0, j' + 1 => simp at hv'
  · simp at hp; subst hp; exact hb
/-- One hash ahead of hashes that were there before it. -/
theorem OL.ahead {w wB wC W : World} {ao yo : Option Addr} {cp yc wi : Nat} {vs : List Value} {ps : List (List Nat)} {l : List Nat} (h : OL w wB ao cp vs ps) (hO : OB wB wC yo yc l) (hb : ∀ v ∈ l, v < 256) (hl : l.length = wi) (hW : wC.alloc (.cells #[.slice yo wi yc] 26) = W) (hn : vs.length < 16000000) :
    ∃ ao' cp' w2, (Builtin.append_ #[22, 22] 22 #[.slice (some ⟨wC.heap.size, 0, none⟩) 1 1, .slice ao vs.length cp]).run Tryd.prog W = .ok (.slice ao' (1 + vs.length) cp') w2 ∧ OL w w2 ao' cp' ([.slice yo wi yc] ++ vs) ([l] ++ ps) := by
  have hF : Fr (fun _ => False) wB W := by rw [← hW]; exact hO.fr.alloc _
  have hA := (ol_lit1 hO hb wi hl W hW).base h.own.fr
  have hB := h.fr0 hF
  refine hA.add _ vs ps hB.ss hB.len hB.row hB.apart (fun v hv u hu g hg hg' => ?_) hB.byt (by simp; omega)
  simp at hv
  subst hv
  have h2 := (h.inner_lt u hu g hg').2
  have h3 := (World.ownsRow.lt hO.own g (by rw [hl]; exact hg)).1
  omega
/-- The proof from the first m. -/
def prf (wi : Nat) (L : List (List Nat)) (n m : Nat) : List (List Nat) :=
  if m = 0 then [] else if (endF 0 n m).1 = 0 then bes wi L 0 n (endF 0 n m).1 (endF 0 n m).2
  else mth wi (blk L (endF 0 n m).1 (endF 0 n m).2) :: bes wi L 0 n (endF 0 n m).1 (endF 0 n m).2
theorem box3p (w : World) (a b c : Value) (ty : Nat) (W : World) (hW : w.alloc (.cells #[a, b, c] ty) = W) : W.cell? ⟨w.heap.size, 0, none⟩ = some a ∧ W.cell? ⟨w.heap.size, 1, none⟩ = some b ∧ W.cell? ⟨w.heap.size, 2, none⟩ = some c ∧ Fr (fun _ => False) w W := by
  subst hW
  exact box3 (Fr.refl _ _)
theorem box2p (w : World) (a b : Value) (ty : Nat) (W : World) (hW : w.alloc (.cells #[a, b] ty) = W) : W.cell? ⟨w.heap.size, 0, none⟩ = some a ∧ W.cell? ⟨w.heap.size, 1, none⟩ = some b ∧ Fr (fun _ => False) w W := by
  subst hW
  have hc : ∀ j, (w.alloc (.cells #[a, b] ty)).cell? ⟨w.heap.size, j, none⟩ = (#[a, b] : Array Value)[j]? := fun j => World.cell?_alloc_at _ _ _ _ rfl
  exact ⟨hc 0, hc 1, (Fr.refl _ _).alloc _⟩
set_option maxRecDepth 100000 in
set_option maxHeartbeats 1000000 in
theorem proof_any (tb wi : Nat) (hw1 : 1 ≤ wi) (hw32 : wi ≤ 32) (L : List (List Nat)) (n m : Nat) (w : World) (hT : Tk w tb wi L) (hn : n ≤ L.length) (h0 : 0 < m) (hm : m ≤ n) :
    Calls Tryd.prog 78 #[pv (.pointer (some ⟨tb, 0, none⟩)) 0 n, .int .i64 m] w fun e w' => ∃ ao cp vs, e = .returned (.slice ao vs.length cp) ∧ OL w w' ao cp vs (prf wi L n m) := by
  have hle := hT.len
  obtain ⟨i1, i2, i3, i4, i5⟩ := endF_ok n 0 n m (Nat.le_refl _) h0 (by omega)
  have hend := fun w' => end_any n 0 n m w' (Nat.le_refl _) (by omega) h0 (by omega)
  have hbes := fun w' (hf : Fr (fun _ => False) w w') => beside_any tb wi hw1 hw32 L n 0 n (endF 0 n m).1 (endF 0 n m).2 w' (Nat.le_refl _) (hT.fr0 hf) (al_zero n) (by omega) i4
  have hroot := fun w' (hf : Fr (fun _ => False) w w') => root_any tb wi hw1 hw32 L _ (endF 0 n m).1 (endF 0 n m).2 w' (Nat.le_refl _) (hT.fr0 hf) (i5 (al_zero n)) (by omega)
  have hMw := hT.mw hw1 hw32 (endF 0 n m).1 (endF 0 n m).2
  have hMb := hT.mb (endF 0 n m).1 (endF 0 n m).2
  have hbl : (bes wi L 0 n (endF 0 n m).1 (endF 0 n m).2).length < 16000000 := by
    rw [bes_len wi L n 0 n _ _ (Nat.le_refl _)]
    have := dep_le n 0 n (endF 0 n m).1 (endF 0 n m).2 (Nat.le_refl _)
    omega
  have hpr : prf wi L n m = if (endF 0 n m).1 = 0 then bes wi L 0 n (endF 0 n m).1 (endF 0 n m).2 else mth wi (blk L (endF 0 n m).1 (endF 0 n m).2) :: bes wi L 0 n (endF 0 n m).1 (endF 0 n m).2 := by
    rw [prf, if_neg (by omega)]
  rw [hpr]
  unfold EndSays BesSays RootSays at *
  clear hpr i1 i2 i3 i4 i5 hle h0 hm hn
  generalize bes wi L 0 n (endF 0 n m).1 (endF 0 n m).2 = BS at *
  generalize mth wi (blk L (endF 0 n m).1 (endF 0 n m).2) = M at *
  generalize (endF 0 n m).1 = E1 at *
  generalize (endF 0 n m).2 = E2 at *
  have HC := hide (And.intro hend (And.intro hbes (And.intro hroot (And.intro hMw (And.intro hMb hbl)))))
  clear hend hbes hroot hMw hMb hbl hT
  unfold sv pv at *
  have e0 : ((0 : Nat) : Int) = 0 := rfl
  simp only [e0] at HC ⊢
  clear e0
  by_cases hE : E1 = 0
  · rw [if_pos hE]
    subst hE
    have e0 : ((0 : Nat) : Int) = 0 := rfl
    simp only [e0] at HC
    clear e0
    go_enter Tryd.func78, Tryd.ntmps78
    go_wp2_with fail
    obtain ⟨W0, hW0⟩ : ∃ W0, w.alloc (.cells #[.pointer (some ⟨tb, 0, none⟩), .int .i64 0, .int .i64 n] 79) = W0 := ⟨_, rfl⟩
    rw [hW0]
    obtain ⟨a0, a1, a2, hF0⟩ := box3p w _ _ _ _ W0 hW0
    refine ((unhide HC).1 _).mono ?_
    rintro e wA ⟨rfl, hFA⟩
    have b0 := (hFA.cell (lt_of_cell a0) (fun h => h)).trans a0
    have b1 := (hFA.cell (lt_of_cell a1) (fun h => h)).trans a1
    have b2 := (hFA.cell (lt_of_cell a2) (fun h => h)).trans a2
    have HF := hide (hF0.trans hFA (fun _ _ h => h))
    clear hF0 hFA hW0 a0 a1 a2
    generalize w.heap.size = P at *
    have l0 : P < wA.heap.size := lt_of_cell b0
    go_wp2_with fail
    obtain ⟨W1, hW1⟩ : ∃ W1, wA.alloc (.cells #[.int .i64 0, .int .i64 E2] 69) = W1 := ⟨_, rfl⟩
    rw [hW1]
    obtain ⟨x0, x1, hF1⟩ := box2p wA _ _ _ W1 hW1
    refine ((unhide HC).2.1 _ ((unhide HF).trans hF1 (fun _ _ h => h))).mono ?_
    rintro e wB ⟨ao, cp, vs, rfl, hO⟩
    have y0 := (hO.own.fr.cell (lt_of_cell x0) (fun h => h)).trans x0
    have HB := hide (hO.base ((unhide HF).trans hF1 (fun _ _ h => h)))
    clear hO hF1 hW1 x0 x1
    go_wp2_with fail
    go_ret
    exact ⟨ao, cp, vs, rfl, unhide HB⟩
  · rw [if_neg hE]
    have hE' : ((E1 : Int) == 0) = false := beq_false_of_ne (by omega)
    go_enter Tryd.func78, Tryd.ntmps78
    go_wp2_with fail
    obtain ⟨W0, hW0⟩ : ∃ W0, w.alloc (.cells #[.pointer (some ⟨tb, 0, none⟩), .int .i64 0, .int .i64 n] 79) = W0 := ⟨_, rfl⟩
    rw [hW0]
    obtain ⟨a0, a1, a2, hF0⟩ := box3p w _ _ _ _ W0 hW0
    refine ((unhide HC).1 _).mono ?_
    rintro e wA ⟨rfl, hFA⟩
    have b0 := (hFA.cell (lt_of_cell a0) (fun h => h)).trans a0
    have b1 := (hFA.cell (lt_of_cell a1) (fun h => h)).trans a1
    have b2 := (hFA.cell (lt_of_cell a2) (fun h => h)).trans a2
    have HF := hide (hF0.trans hFA (fun _ _ h => h))
    clear hF0 hFA hW0 a0 a1 a2
    generalize w.heap.size = P at *
    have l0 : P < wA.heap.size := lt_of_cell b0
    go_wp2_with fail
    obtain ⟨W1, hW1⟩ : ∃ W1, wA.alloc (.cells #[.int .i64 E1, .int .i64 E2] 69) = W1 := ⟨_, rfl⟩
    rw [hW1]
    obtain ⟨x0, x1, hF1⟩ := box2p wA _ _ _ W1 hW1
    refine ((unhide HC).2.1 _ ((unhide HF).trans hF1 (fun _ _ h => h))).mono ?_
    rintro e wB ⟨ao, cp, vs, rfl, hO⟩
    have hF1B := hF1.trans hO.own.fr (fun _ _ h => h)
    have y0 := (hO.own.fr.cell (lt_of_cell x0) (fun h => h)).trans x0
    have y1 := (hO.own.fr.cell (lt_of_cell x1) (fun h => h)).trans x1
    have d0 := (hF1B.cell (lt_of_cell b0) (fun h => h)).trans b0
    have HB := hide (And.intro (hO.base ((unhide HF).trans hF1 (fun _ _ h => h))) ((unhide HF).trans hF1B (fun _ _ h => h)))
    clear hO hF1 hF1B hW1 x0 x1 b0 b1 b2 l0
    generalize wA.heap.size = Z at *
    go_wp2_with fail
    refine ((unhide HC).2.2.1 _ (unhide HB).2).mono ?_
    rintro e wC ⟨yo, yc, rfl, hO⟩
    obtain ⟨W2, hW2⟩ : ∃ W2, wC.alloc (.cells #[.slice yo wi yc] 26) = W2 := ⟨_, rfl⟩
    obtain ⟨ao2, cp2, w3, hr, hO3⟩ := (unhide HB).1.ahead hO (unhide HC).2.2.2.2.1 (unhide HC).2.2.2.1 hW2 (by rw [(unhide HB).1.len]; exact (unhide HC).2.2.2.2.2)
    have HR := hide hr
    have HO := hide hO3
    clear hO hr hO3
    go_wp2_with (at_builtin; refine wpList_app rfl (.tmp 23) (.tmp 24) 22 22 rfl _ _ _ rfl rfl (unhide HR) ?_)
    go_ret
    exact ⟨ao2, cp2, _, by rw [List.length_append]; rfl, unhide HO⟩
set_option maxRecDepth 100000 in
set_option maxHeartbeats 1000000 in
theorem tproof_in (tb wi : Nat) (hw1 : 1 ≤ wi) (hw32 : wi ≤ 32) (L : List (List Nat)) (m n : Nat) (w : World) (hT : Tk w tb wi L) (hn : n ≤ L.length) (hm : m ≤ n) :
    Calls Tryd.prog 44 #[.pointer (some ⟨tb, 0, none⟩), .int .i64 m, .int .i64 n] w fun e w' => ∃ ao cp vs, e = .returned (.tuple #[.slice ao vs.length cp, .int .i64 0]) ∧ OL w w' ao cp vs (prf wi L n m) := by
  obtain ⟨c0, c1, htb⟩ := hT.c0
  have hhas : Calls Tryd.prog 55 #[.pointer (some ⟨tb, 0, none⟩), .int .i64 n] w fun e w' => e = .returned (.bool true) ∧ w' = w := by
    have := has_any tb L.length wi n w c0 c1
    rw [decide_eq_true (by omega)] at this
    exact this
  have q1 : ¬ (m : Int) < 0 := by omega
  have q2 : ¬ (n : Int) < (m : Int) := by omega
  have q3 : ¬ n < m := by omega
  by_cases h0 : m = 0
  · subst h0
    rw [prf, if_pos rfl]
    have HG := hide hhas
    clear hhas hT c0 c1 htb hn hm
    have e0 : ((0 : Nat) : Int) = 0 := rfl
    simp only [e0] at q1 q2 ⊢
    go_enter Tryd.func44, Tryd.ntmps44
    go_wp2_with fail
    refine (unhide HG).mono ?_
    rintro e w0 ⟨rfl, rfl⟩
    go_wp2_with fail
    go_returns
    exact ⟨none, 0, [], rfl, OL.nil _⟩
  · have hpr := fun w' (hf : Fr (fun _ => False) w w') => proof_any tb wi hw1 hw32 L n m w' (hT.fr0 hf) hn (by omega) hm
    have hm0 : ((m : Int) == 0) = false := beq_false_of_ne (by omega)
    have HG := hide (And.intro hhas hpr)
    clear hhas hpr hT c0 c1 htb hn hm
    go_enter Tryd.func44, Tryd.ntmps44
    go_wp2_with fail
    refine (unhide HG).1.mono ?_
    rintro e w0 ⟨rfl, rfl⟩
    go_wp2_with fail
    refine (first_any _ _ _).mono ?_
    rintro e w1 ⟨rfl, hF1⟩
    have H1 := hide hF1
    clear hF1
    go_wp2_with fail
    refine ((unhide HG).2 w1 (unhide H1)).mono ?_
    rintro e w2 ⟨ao, cp, vs, rfl, hO⟩
    have H2 := hide (hO.base (unhide H1))
    clear hO
    go_wp2_with fail
    go_returns
    exact ⟨ao, cp, vs, rfl, unhide H2⟩
set_option maxRecDepth 100000 in
theorem tproof_no (tb n : Nat) (wi i k : Int) (w : World) (c0 : w.cell? ⟨tb, 0, none⟩ = some (.int .i64 wi)) (c1 : w.cell? ⟨tb, 1, none⟩ = some (.int .i64 n)) (h : ¬ (1 ≤ wi ∧ wi ≤ 32 ∧ 0 ≤ k ∧ k ≤ n) ∨ i < 0 ∨ k < i) :
    Calls Tryd.prog 44 #[.pointer (some ⟨tb, 0, none⟩), .int .i64 i, .int .i64 k] w fun e w' => e = .returned (.tuple #[.slice none 0 0, .int .i64 1]) ∧ w' = w := by
  have hhas := has_any tb n wi k w c0 c1
  by_cases hh : 1 ≤ wi ∧ wi ≤ 32 ∧ 0 ≤ k ∧ k ≤ n
  · rw [decide_eq_true hh] at hhas
    have HG := hide hhas
    have h' : i < 0 ∨ k < i := by omega
    clear hhas h c0 c1
    by_cases hi : i < 0
    · clear h' hh
      go_enter Tryd.func44, Tryd.ntmps44
      go_wp2_with fail
      refine (unhide HG).mono ?_
      rintro e w0 ⟨rfl, rfl⟩
      go_wp2_with fail
      go_returns
      exact ⟨rfl, rfl⟩
    · have hk : k < i := by omega
      clear h' hh
      go_enter Tryd.func44, Tryd.ntmps44
      go_wp2_with fail
      refine (unhide HG).mono ?_
      rintro e w0 ⟨rfl, rfl⟩
      go_wp2_with fail
      go_returns
      exact ⟨rfl, rfl⟩
  · rw [decide_eq_false hh] at hhas
    have HG := hide hhas
    clear hhas h hh c0 c1
    go_enter Tryd.func44, Tryd.ntmps44
    go_wp2_with fail
    refine (unhide HG).mono ?_
    rintro e w0 ⟨rfl, rfl⟩
    go_wp2_with fail
    go_returns
    exact ⟨rfl, rfl⟩
set_option maxRecDepth 100000 in
set_option maxHeartbeats 1000000 in
/-- merkle.Proof. -/
theorem mproof_in (wi : Nat) (hw1 : 1 ≤ wi) (hw32 : wi ≤ 32) (x : Value) (us : List Value) (es : List (List Nat)) (i : Nat) (w : World) (hg : GS w) (ht : GT w) (hp : Pcs w x us es) (hB : ∀ e ∈ es, e.length ≤ 16000000) (hn : es.length ≤ 8000000) (hi : i ≤ es.length) :
    Calls Tryd.prog 16 #[.int .i64 wi, x, .int .i64 i] w fun e w' => ∃ ao cp vs, e = .returned (.tuple #[.slice ao vs.length cp, .int .i64 0]) ∧ OL w w' ao cp vs (prf wi (es.map (lf wi)) es.length i) := by
  have hgr := grown_in wi hw1 hw32 x us es w hg hp hB hn
  have htr : ∀ w' tb, Tk w' tb wi (es.map (lf wi)) → _ := fun w' tb hT => tproof_in tb wi hw1 hw32 (es.map (lf wi)) i es.length w' hT (by rw [List.length_map]; exact Nat.le_refl _) hi
  obtain ⟨xo, xc, rfl⟩ := hp.form
  have HT := hide (fun (w' : World) (tb base : Nat) (xo : Option Addr) (cp : Nat) (vs : List Value) (rs : List (List Nat)) (hT : TrAt w' base tb wi es.length xo cp vs rs) hR hf => tk_of hw1 hw32 hT hR hg ht hf hn)
  have HG := hide (And.intro hgr htr)
  clear hgr htr hg ht hp hB hi hn
  generalize prf wi (es.map (lf wi)) es.length i = M at *
  generalize es.length = N at *
  go_enter Tryd.func16, Tryd.ntmps16
  go_wp2_with fail
  refine (unhide HG).1.mono ?_
  rintro e w1 ⟨rfl, yo, cp, vs, rs, hT, hR, hF⟩
  have hk := (unhide HT) _ _ _ _ _ _ _ hT hR hF
  have H1 := hide (And.intro hk hF)
  clear hk hF hT hR
  generalize w.heap.size = TB at *
  go_wp2_with fail
  refine ((unhide HG).2 w1 TB (unhide H1).1).mono ?_
  rintro e w2 ⟨ao, cp, vs, rfl, hO⟩
  have H2 := hide (hO.base (unhide H1).2)
  clear hO
  go_wp2_with fail
  go_returns
  exact ⟨ao, cp, vs, rfl, unhide H2⟩
set_option maxRecDepth 100000 in
set_option maxHeartbeats 1000000 in
theorem mproof_no (j : Int) (i : Int) (x : Value) (us : List Value) (es : List (List Nat)) (w : World) (hg : GS w) (hp : Pcs w x us es) (hB : ∀ e ∈ es, e.length ≤ 16000000) (hn : es.length ≤ 8000000) (hi : (j < 1 ∨ 32 < j) ∨ i < 0 ∨ (es.length : Int) < i) :
    Calls Tryd.prog 16 #[.int .i64 j, x, .int .i64 i] w fun e w' => e = .returned (.tuple #[.slice none 0 0, .int .i64 1]) ∧ Fr (fun _ => False) w w' := by
  have hgr : Calls Tryd.prog 42 #[.int .i64 j, x] w fun e w' => e = .returned (.pointer (some ⟨w.heap.size, 0, none⟩)) ∧ w'.cell? ⟨w.heap.size, 0, none⟩ = some (.int .i64 j) ∧ w'.cell? ⟨w.heap.size, 1, none⟩ = some (.int .i64 es.length) ∧ Fr (fun _ => False) w w' := by
    by_cases hj : 1 ≤ j ∧ j ≤ 32
    · obtain ⟨wi, rfl⟩ : ∃ n : Nat, j = (n : Int) := ⟨j.toNat, by omega⟩
      refine (grown_in wi (by omega) (by omega) x us es w hg hp hB hn).mono ?_
      rintro e w' ⟨rfl, xo, cp, vs, rs, hT, _, hF⟩
      exact ⟨rfl, hT.cells.1, hT.cells.2.1, hF⟩
    · refine (grown_out j (by omega) x us es w hp hn).mono ?_
      rintro e w' ⟨rfl, hT, hF⟩
      exact ⟨rfl, hT.cells.1, hT.cells.2.1, hF⟩
  have htr : ∀ (w' : World) (tb : Nat), w'.cell? ⟨tb, 0, none⟩ = some (.int .i64 j) → w'.cell? ⟨tb, 1, none⟩ = some (.int .i64 es.length) → _ := fun w' tb h0 h1 => tproof_no tb es.length j i es.length w' h0 h1 (by omega)
  obtain ⟨xo, xc, rfl⟩ := hp.form
  have HG := hide (And.intro hgr htr)
  clear hgr htr hp hg hB hn hi
  generalize es.length = N at *
  go_enter Tryd.func16, Tryd.ntmps16
  go_wp2_with fail
  refine (unhide HG).1.mono ?_
  rintro e w1 ⟨rfl, h0, h1, hF⟩
  have H1 := hide (And.intro h0 (And.intro h1 hF))
  clear hF h0 h1
  generalize w.heap.size = TB at *
  go_wp2_with fail
  refine ((unhide HG).2 w1 TB (unhide H1).1 (unhide H1).2.1).mono ?_
  rintro e w2 ⟨rfl, rfl⟩
  go_wp2_with fail
  go_returns
  exact ⟨rfl, (unhide H1).2.2⟩
end Go.Proofs.YtocdnomfpgdglaaDoor

namespace Go.Proofs.YtocdnomfpgdglaaDoor
open Go.RowKit

theorem own_pre {w : World} {base e g N n cap : Nat} {ys : List Value} (h : w.ownsRow base e 1 (.slice (some ⟨g, 0, none⟩) N cap) N ys) (hn : n ≤ N) : w.ownsRow base e 1 (.slice (some ⟨g, 0, none⟩) n cap) n (ys.take n) := by
  rcases h.2 with ⟨e1, _⟩ | ⟨g', cap', cur, e1, h1, h2, h3, h4, h5, h6⟩
  · simp at e1
  · simp only [Value.slice.injEq, Option.some.injEq, Addr.mk.injEq, and_true, true_and] at e1
    obtain ⟨rfl, rfl⟩ := e1
    have hl : ys.length = N := by simpa using h.1
    refine ⟨by rw [List.length_take, hl]; omega, .inr ⟨g, cap, cur, rfl, h1, h2, by omega, h4, h5, ?_⟩⟩
    rw [← h6, List.take_take]
    congr 1
    omega
/-- What is appended to a row of one's own leaves the row. -/
theorem app_past (w : World) (base t e n cap m : Nat) (i : TypeInfo) (z : Value) (bytes : Nat) (ht : Tryd.prog.underlying t = some (.slice e)) (hi : Tryd.prog.info? e = some i) (hz : i.zero = some z) (hsz : i.size = 1) (hby : i.bytes = bytes) (hzs : z.cells.size = 1) (ao : Option Addr) (xs : List Value)
    (hown : w.ownsRow base e 1 (.slice ao n cap) n xs) (g0 c0 : Nat) (news : List Value) (hl : news.length = m) (hnews : ∀ (j : Nat) u, news[j]? = some u → w.cell? ⟨g0, j, none⟩ = some u) (h1 : ∀ u ∈ news, u.oneCell' = true) (hm : 0 < m) (hb : (n + m) * bytes ≤ 140737488355328) (hb2 : n + m ≤ 1000000000) (hbase : base ≤ w.heap.size) :
    ∃ g cap' w', (Builtin.append_ #[t, t] t #[.slice ao n cap, .slice (some ⟨g0, 0, none⟩) m c0]).run Tryd.prog w = .ok (.slice (some ⟨g, 0, none⟩) (n + m) cap') w' ∧ w'.ownsRow base e 1 (.slice (some ⟨g, 0, none⟩) (n + m) cap') (n + m) (xs ++ news) ∧ w.grownBy w' (Value.slice ao n cap).ownBlock ∧
      ((ao = some ⟨g, 0, none⟩ ∧ cap' = cap) ∨ (g = w.heap.size ∧ ∀ k, k < w.heap.size → w'.heap[k]? = w.heap[k]?)) := by
  have hn' : ∀ (j : Nat) u, news[j]? = some u → w.cell? ((⟨g0, 0, none⟩ : Addr).add j) = some u := fun j u hu => by rw [add_at]; exact hnews j u hu
  obtain ⟨v', w', hr, h2, h3, _, h5⟩ := run_append_own_at (P := Tryd.prog) w base t t e i z 1 bytes ht hi hz hsz hby hzs (by decide) (.slice ao n cap) n xs hown ⟨g0, 0, none⟩ m c0 news (by rw [hl, Nat.mul_one]) hn' h1 (by simp only [maxLen]; omega) hb hbase
  obtain ⟨g, cap', rfl, _, hlt⟩ := h2.form (by omega)
  refine ⟨g, cap', w', hr, h2, h3, ?_⟩
  have hxl : xs.length = n := by simpa using hown.1
  rcases hown.2 with ⟨e1, e2⟩ | ⟨q, cap2, cur, e1, k1, k2, k3, k4, k5, k6⟩
  · simp only [Value.slice.injEq] at e1
    obtain ⟨rfl, rfl, rfl⟩ := e1
    right
    have hr2 := run_append_nil (P := Tryd.prog) w t t e i z ht hi hz ⟨g0, 0, none⟩ m c0 news (by rw [hl, hsz, Nat.mul_one]) hn' hm (by omega) (by rw [hby]; rw [Nat.zero_add] at hb; omega)
    rw [hr] at hr2
    injection hr2 with f1 f2
    injection f1 with f1 _ _
    injection f1 with f1
    injection f1 with f1 _ _
    refine ⟨f1, fun k hk => ?_⟩
    rw [f2]
    exact Below.heap_alloc _ _ _ hk
  · simp only [Value.slice.injEq, true_and] at e1
    obtain ⟨rfl, rfl⟩ := e1
    by_cases hroom : n + m ≤ cap
    · left
      have hr2 := run_append_room (P := Tryd.prog) w t t e i ht hi q n cap cur k2 ⟨g0, 0, none⟩ m c0 news (by rw [hl, hsz, Nat.mul_one]) hn' h1 hroom (by rw [hsz, hl, Nat.mul_one]; omega)
      rw [hr] at hr2
      injection hr2 with f1 f2
      injection f1 with f1 _ f3
      injection f1 with f1
      injection f1 with f1 _ _
      subst f1 f3
      exact ⟨rfl, rfl⟩
    · right
      have hr2 := run_append_grow (P := Tryd.prog) w t t e i z ht hi hz ⟨q, 0, none⟩ n cap xs (by rw [hxl, hsz, Nat.mul_one]) (hown.cells (g := q) rfl) ⟨g0, 0, none⟩ m c0 news (by rw [hl, hsz, Nat.mul_one]) hn' (by omega) (by omega) (by rw [hby]; exact growslice_fits (by omega) hb)
      rw [hr] at hr2
      injection hr2 with f1 f2
      injection f1 with f1 _ _
      injection f1 with f1
      injection f1 with f1 _ _
      refine ⟨f1, fun k hk => ?_⟩
      rw [f2]
      exact Below.heap_alloc _ _ _ hk
/-- A byte of one hash written. -/
theorem OL.setB {w wr : World} {ao : Option Addr} {cp : Nat} {vs : List Value} {ps : List (List Nat)} (h : OL w wr ao cp vs ps) (i j g c u : Nat) (p : List Nat) (hv : vs[i]? = some (.slice (some ⟨g, 0, none⟩) p.length c)) (hp : ps[i]? = some p) (hu : u < 256) :
    OL w (wr.setCell ⟨g, j, none⟩ (.int .u8 (u : Int))) ao cp vs (ps.set i (p.set j u)) := by
  have hil : i < ps.length := (List.getElem?_eq_some_iff.1 hp).1
  obtain ⟨bo, c', e, hO⟩ := h.row i _ p hv hp
  simp only [Value.slice.injEq, true_and] at e
  obtain ⟨rfl, rfl⟩ := e
  have hg := hO.lt
  refine ⟨⟨ownsRow_of_block h.own.own (fun q hq => heap_setCell_other _ _ _ _ (fun e => ?_)), h.own.fr.setCell (.inr hg.1) _⟩, by rw [List.length_set]; exact h.len, fun j' v p' hv' hp' => ?_, h.apart, fun p' hp' => ?_⟩
  · subst e; exact own_ne h.own.own hO _ hq rfl
  · by_cases hji : j' = i
    · subst hji
      rw [List.getElem?_set_self hil] at hp'
      cases hp'
      rw [hv] at hv'
      cases hv'
      exact ⟨_, c, by rw [List.length_set], hO.set j u hu⟩
    · rw [List.getElem?_set_ne (fun e => hji e.symm)] at hp'
      obtain ⟨bo, c2, e, hO2⟩ := h.row j' v p' hv' hp'
      refine ⟨bo, c2, e, ownsRow_of_block hO2 (fun q hq => heap_setCell_other _ _ _ _ (fun e2 => ?_))⟩
      exact h.apart j' i v _ q g hji hv' hv (by rw [e]; exact hq) rfl e2
  · rcases List.mem_or_eq_of_mem_set hp' with h1 | h1
    · exact h.byt p' h1
    · subst h1; exact set_lt p j u hu (h.byt p (List.mem_of_getElem? hp))
end Go.Proofs.YtocdnomfpgdglaaDoor

namespace Go.Proofs.YtocdnomfpgdglaaDoor
open Go.RowKit

def lit9 : Array Value := #[.int .u8 98, .int .u8 98, .int .u8 98, .int .u8 98, .int .u8 98, .int .u8 98, .int .u8 98, .int .u8 98, .int .u8 98]
def lit5 : Array Value := #[.slice none 0 0, .slice none 0 0, .slice none 0 0, .slice none 0 0, .slice none 0 0]
theorem OL.blocks {w wr wq : World} {ao : Option Addr} {cp : Nat} {vs : List Value} {ps : List (List Nat)} (h : OL w wr ao cp vs ps) (hf : Fr (fun _ => False) w wq) (hb : ∀ k, k < wr.heap.size → wq.heap[k]? = wr.heap[k]?) : OL w wq ao cp vs ps :=
  ⟨⟨ownsRow_of_block h.own.own (fun g hg => hb g (h.own.own.lt g hg).2), hf⟩, h.len, fun j v p hv hp => by
    obtain ⟨bo, c, e, hO⟩ := h.row j v p hv hp
    exact ⟨bo, c, e, ownsRow_of_block hO (fun g hg => hb g (World.ownsRow.lt hO g hg).2)⟩, h.apart, h.byt⟩
/-- A hash grown by nine, and the last of them written. -/
theorem OL.past {w wr : World} {ao : Option Addr} {cp : Nat} {vs : List Value} {ps : List (List Nat)} (h : OL w wr ao cp vs ps) (i n c H : Nat) (bo : Option Addr) (p : List Nat) (hv : vs[i]? = some (.slice bo n c)) (hp : ps[i]? = some p) (hn : p.length = n) (hnb : n ≤ 1000000) (hH : ∀ v ∈ vs, ∀ g, v.ownBlock = some g → g < H) :
    ∃ g cap' w2, (Builtin.append_ #[26, 26] 26 #[.slice bo n c, .slice (some ⟨wr.heap.size, 0, none⟩) 9 9]).run Tryd.prog (wr.alloc (.cells lit9 5)) = .ok (.slice (some ⟨g, 0, none⟩) (n + 9) cap') w2 ∧ (∃ u, w2.cell? ⟨g, n + 8, none⟩ = some u) ∧ w2.frozen? ⟨g, n + 8, none⟩ = false ∧
      OL w (w2.setCell ⟨g, n + 8, none⟩ (.int .u8 97)) ao cp vs ps ∧ Fr (fun k => k < H) wr (w2.setCell ⟨g, n + 8, none⟩ (.int .u8 97)) := by
  subst hn
  obtain ⟨bo', c', e, hO⟩ := h.row i _ p hv hp
  simp only [Value.slice.injEq, true_and] at e
  obtain ⟨rfl, rfl⟩ := e
  obtain ⟨i0, hi, hz0, hz1, hz2⟩ := info_parts Tryd.infoU8
  have hFa : Fr (fun _ => False) wr (wr.alloc (.cells lit9 5)) := (Fr.refl _ _).alloc _
  have hOa : (wr.alloc (.cells lit9 5)).ownsRow w.heap.size 5 1 (.slice bo p.length c) p.length (cellsOf p) := hO.fr0 hFa
  have hbo : ∀ q, (Value.slice bo p.length c).ownBlock = some q → q < H ∧ w.heap.size ≤ q ∧ q < wr.heap.size := fun q hq => ⟨hH _ (List.mem_of_getElem? hv) q hq, (World.ownsRow.lt hO q hq).1, (World.ownsRow.lt hO q hq).2⟩
  obtain ⟨g, cap', w2, hr, hown, hg, hat⟩ := app_past (wr.alloc (.cells lit9 5)) w.heap.size 26 5 p.length c 9 i0 (.int .u8 0) 1 Tryd.underlying26 hi hz0 hz1 hz2 rfl bo (cellsOf p) hOa wr.heap.size 9 lit9.toList rfl (fun j u hu => by
    rw [World.cell?_alloc_at _ _ _ _ rfl]; simpa using hu) (fun u hu => by simp [lit9] at hu; subst hu; rfl) (by decide) (by omega) (by omega) (by have := h.own.fr.size; simp; omega)
  have hsz : w.heap.size ≤ wr.heap.size := h.own.fr.size
  have hcell : w2.cell? ⟨g, p.length + 8, none⟩ = _ := hown.cellAt (p.length + 8) (by omega)
  obtain ⟨u, hu⟩ : ∃ u, (cellsOf p ++ lit9.toList)[p.length + 8]? = some u := ⟨_, List.getElem?_eq_getElem (by rw [List.length_append, cellsOf_length]; simp [lit9])⟩
  have hst := (World.ownsRow.stored hown (p.length + 8) (.int .u8 97)).1
  have hgl : g < w2.heap.size := (hown.lt g rfl).2
  have hgb : w.heap.size ≤ g := (hown.lt g rfl).1
  have hF2 : Fr (fun k => (Value.slice bo p.length c).ownBlock = some k) wr w2 := ((Fr.refl _ _).alloc _).grown hg (fun q hq => .inl hq)
  refine ⟨g, cap', w2, hr, ⟨u, hcell.trans hu⟩, hown.frozenAt _, ?_, ?_⟩
  · rcases hat with ⟨rfl, rfl⟩ | ⟨hgn, hbl⟩
    · have hne : ∀ q, (Value.slice ao vs.length cp).ownBlock = some q → q ≠ g := fun q hq e => own_ne h.own.own hO q hq (by rw [e]; rfl)
      have hkeep : ∀ q, q < wr.heap.size → q ≠ g → (w2.setCell ⟨g, p.length + 8, none⟩ (.int .u8 97)).heap[q]? = wr.heap[q]? := fun q hq hqg => by
        rw [heap_setCell_other _ _ _ _ hqg]
        exact hF2.block q hq (fun e => hqg (by simp only [Value.ownBlock, Option.some.injEq] at e; exact e.symm))
      refine ⟨⟨ownsRow_of_block h.own.own (fun q hq => hkeep q (h.own.own.lt q hq).2 (hne q hq)), ?_⟩, h.len, fun j v p' hv' hp' => ?_, h.apart, h.byt⟩
      · exact (h.own.fr.trans hF2 (fun k hk e => by have := (hbo k e).2.1; omega)).setCell (.inr hgb) _
      · by_cases hji : j = i
        · subst hji
          rw [hv] at hv'
          rw [hp] at hp'
          cases hv'
          cases hp'
          refine ⟨_, _, rfl, ?_⟩
          have := own_pre hst (n := p.length) (by omega)
          have e2 : ((cellsOf p ++ lit9.toList).set (p.length + 8) (.int .u8 97)).take p.length = cellsOf p := by
            rw [List.set_append_right _ _ (by rw [cellsOf_length]; omega), List.take_left' (cellsOf_length p)]
          rw [e2] at this
          exact this
        · obtain ⟨bo2, c2, e, hO2⟩ := h.row j v p' hv' hp'
          exact ⟨bo2, c2, e, ownsRow_of_block hO2 (fun q hq => hkeep q (World.ownsRow.lt hO2 q hq).2 (h.apart j i v _ q g hji hv' hv (by rw [e]; exact hq) rfl))⟩
    · have hge : wr.heap.size ≤ g := by rw [hgn]; simp
      refine h.blocks ((h.own.fr.trans hF2 (fun k hk e => by have := (hbo k e).2.1; omega)).setCell (.inr hgb) _) (fun q hq => ?_)
      rw [heap_setCell_other _ _ _ _ (by simp only; omega), hbl q (by simp; omega)]
      exact Below.heap_alloc _ _ _ hq
  · have hF3 : Fr (fun k => k < H) wr w2 := hF2.mono (fun q _ e => (hbo q e).1)
    refine hF3.setCell ?_ _
    rcases hat with ⟨rfl, rfl⟩ | ⟨hgn, hbl⟩
    · exact .inl (hbo g rfl).1
    · right
      show wr.heap.size ≤ g
      rw [hgn]; simp
/-- The list grown by five, and the last of them written. -/
theorem OL.past2 {w wr : World} {ao : Option Addr} {cp : Nat} {vs : List Value} {ps : List (List Nat)} (h : OL w wr ao cp vs ps) (H N : Nat) (hN : vs.length = N) (hnb : N ≤ 16000000) (hH : ∀ g, (Value.slice ao vs.length cp).ownBlock = some g → g < H) :
    ∃ g cap' w2, (Builtin.append_ #[22, 22] 22 #[.slice ao N cp, .slice (some ⟨wr.heap.size, 0, none⟩) 5 5]).run Tryd.prog (wr.alloc (.cells lit5 26)) = .ok (.slice (some ⟨g, 0, none⟩) (N + 5) cap') w2 ∧ (∃ u, w2.cell? ⟨g, N + 4, none⟩ = some u) ∧ w2.frozen? ⟨g, N + 4, none⟩ = false ∧ g < w2.heap.size ∧
      ∀ o za zn zc, OL w ((w2.alloc o).setCell ⟨g, N + 4, none⟩ (.slice za zn zc)) ao cp vs ps ∧ Fr (fun k => k < H) wr ((w2.alloc o).setCell ⟨g, N + 4, none⟩ (.slice za zn zc)) := by
  subst hN
  obtain ⟨i0, hi, hz0, hz1, hz2⟩ := info_parts Tryd.infoSl
  have hFa : Fr (fun _ => False) wr (wr.alloc (.cells lit5 26)) := (Fr.refl _ _).alloc _
  have hOa := (h.fr0 hFa).own.own
  have hbo : ∀ q, (Value.slice ao vs.length cp).ownBlock = some q → q < H ∧ w.heap.size ≤ q ∧ q < wr.heap.size := fun q hq => ⟨hH q hq, (h.own.own.lt q hq).1, (h.own.own.lt q hq).2⟩
  obtain ⟨g, cap', w2, hr, hown, hg, hat⟩ := app_past (wr.alloc (.cells lit5 26)) w.heap.size 22 26 vs.length cp 5 i0 (.slice none 0 0) 24 Tryd.underlying22 hi hz0 hz1 hz2 rfl ao vs hOa wr.heap.size 5 lit5.toList rfl (fun j u hu => by
    rw [World.cell?_alloc_at _ _ _ _ rfl]; simpa using hu) (fun u hu => by simp [lit5] at hu; subst hu; rfl) (by decide) (by omega) (by omega) (by have := h.own.fr.size; simp; omega)
  have hsz : w.heap.size ≤ wr.heap.size := h.own.fr.size
  have hcell : w2.cell? ⟨g, vs.length + 4, none⟩ = _ := hown.cellAt (vs.length + 4) (by omega)
  obtain ⟨u, hu⟩ : ∃ u, (vs ++ lit5.toList)[vs.length + 4]? = some u := ⟨_, List.getElem?_eq_getElem (by rw [List.length_append]; simp [lit5])⟩
  have hgl : g < w2.heap.size := (hown.lt g rfl).2
  have hgb : w.heap.size ≤ g := (hown.lt g rfl).1
  have hF2 : Fr (fun k => (Value.slice ao vs.length cp).ownBlock = some k) wr w2 := ((Fr.refl _ _).alloc _).grown hg (fun q hq => .inl hq)
  refine ⟨g, cap', w2, hr, ⟨u, hcell.trans hu⟩, hown.frozenAt _, hgl, fun o za zn zc => ⟨?_, ?_⟩⟩
  · have hst := (World.ownsRow.stored (hown.alloc o) (vs.length + 4) (.slice za zn zc)).1
    have hF2o := hF2.alloc o
    rcases hat with ⟨rfl, rfl⟩ | ⟨hgn, hbl⟩
    · have hkeep : ∀ q, q < wr.heap.size → q ≠ g → ((w2.alloc o).setCell ⟨g, vs.length + 4, none⟩ (.slice za zn zc)).heap[q]? = wr.heap[q]? := fun q hq hqg => by
        rw [heap_setCell_other _ _ _ _ hqg]
        exact hF2o.block q hq (fun e => hqg (by simp only [Value.ownBlock, Option.some.injEq] at e; exact e.symm))
      refine ⟨⟨?_, (h.own.fr.trans hF2o (fun k hk e => by have := (hbo k e).2.1; omega)).setCell (.inr hgb) _⟩, h.len, fun j v p' hv' hp' => ?_, h.apart, h.byt⟩
      · have := own_pre hst (n := vs.length) (by omega)
        have e2 : ((vs ++ lit5.toList).set (vs.length + 4) (.slice za zn zc)).take vs.length = vs := by
          rw [List.set_append_right _ _ (by omega), List.take_left' rfl]
        rw [e2] at this
        exact this
      · obtain ⟨bo2, c2, e, hO2⟩ := h.row j v p' hv' hp'
        exact ⟨bo2, c2, e, ownsRow_of_block hO2 (fun q hq => hkeep q (World.ownsRow.lt hO2 q hq).2 (fun e2 => own_ne h.own.own hO2 g rfl (by rw [← e2]; exact hq)))⟩
    · have hge : wr.heap.size ≤ g := by rw [hgn]; simp
      refine h.blocks ((h.own.fr.trans hF2o (fun k hk e => by have := (hbo k e).2.1; omega)).setCell (.inr hgb) _) (fun q hq => ?_)
      have hw2 := hg.size
      rw [heap_setCell_other _ _ _ _ (by simp only; omega), Below.heap_alloc _ _ _ (by simp at hw2; omega), hbl q (by simp; omega)]
      exact Below.heap_alloc _ _ _ hq
  · have hF3 : Fr (fun k => k < H) wr (w2.alloc o) := (hF2.mono (fun q _ e => (hbo q e).1)).alloc o
    refine hF3.setCell ?_ _
    rcases hat with ⟨rfl, rfl⟩ | ⟨hgn, hbl⟩
    · exact .inl (hbo g rfl).1
    · right
      show wr.heap.size ≤ g
      rw [hgn]; simp
end Go.Proofs.YtocdnomfpgdglaaDoor

namespace Go.Proofs.YtocdnomfpgdglaaDoor
open Go.RowKit

/-- Each hash that was written over bears its mark. -/
def Mkd (qs : List (List Nat)) (k : Nat) : Prop := ∀ i q, i < k → qs[i]? = some q → ∀ u ∈ q, u = (99 + i) % 256
theorem OL.at_ {w wr : World} {ao : Option Addr} {cp : Nat} {vs : List Value} {ps : List (List Nat)} (h : OL w wr ao cp vs ps) (i : Nat) (hi : i < ps.length) : ∃ g o bo c, ao = some ⟨g, 0, none⟩ ∧ o = 0 + i ∧ vs[i]? = some (.slice bo ps[i].length c) ∧ wr.cell? ⟨g, i, none⟩ = some (.slice bo ps[i].length c) ∧ Ow wr w.heap.size bo c ps[i] := by
  have hvl : i < vs.length := by rw [h.len]; exact hi
  obtain ⟨bo, c, e, hO⟩ := h.row i vs[i] ps[i] (List.getElem?_eq_getElem hvl) (List.getElem?_eq_getElem hi)
  obtain ⟨g, rfl⟩ : ∃ g, ao = some ⟨g, 0, none⟩ := by
    rcases h.own.own.2 with ⟨_, e⟩ | ⟨g, cap, cur, e, _⟩
    · omega
    · simp only [Value.slice.injEq] at e
      exact ⟨g, e.1⟩
  have hv : vs[i]? = some (.slice bo ps[i].length c) := by rw [List.getElem?_eq_getElem hvl, e]
  exact ⟨g, _, bo, c, rfl, rfl, hv, (h.own.own.cellAt i (by omega)).trans hv, hO⟩
set_option maxRecDepth 100000 in
set_option maxHeartbeats 1000000 in
theorem spoil_any {w wr : World} {ao : Option Addr} {cp : Nat} {vs : List Value} {ps : List (List Nat)} (h : OL w wr ao cp vs ps) (H : Nat) (hB : ∀ p ∈ ps, p.length ≤ 1000) (hn : vs.length ≤ 8000000) (hH : ∀ v ∈ vs, ∀ g, v.ownBlock = some g → g < H) (hH2 : ∀ g, (Value.slice ao vs.length cp).ownBlock = some g → g < H) :
    Calls Tryd.prog 63 #[.slice ao vs.length cp] wr fun e w' => e = .returned (.tuple #[]) ∧ ∃ qs, OL w w' ao cp vs qs ∧ Mkd qs vs.length ∧ Fr (fun k => k < H) wr w' := by
  have HG := hide (And.intro h (And.intro hB (And.intro hn (And.intro hH hH2))))
  clear h hB hn hH hH2
  generalize hN : vs.length = N at *
  go_enter Tryd.func63, Tryd.ntmps63
  go_wp2_with fail
  go_loopw [2] (fun iv wq => ∃ (k : Nat) (qs : List (List Nat)), k ≤ N ∧ iv = .int .i64 (k : Nat) ∧ OL w wq ao cp vs qs ∧ (∀ p ∈ qs, p.length ≤ 1000) ∧ Mkd qs k ∧ Fr (fun k => k < H) wr wq) (fun iv _ => N - (intOf iv).toNat)
  case atStart => exact ⟨0, ps, Nat.zero_le _, rfl, (unhide HG).1, (unhide HG).2.1, fun i q hi => by omega, Fr.refl _ _⟩
  case round =>
    obtain ⟨k, qs, hk, rfl, hO, hB, hM, hF⟩ := hrel
    rename World => wq
    have hN8 := (unhide HG).2.2.1
    have hql : qs.length = N := by rw [← hO.len, hN]
    by_cases hlt : k < N
    · have hlt' : (k : Int) < (N : Int) := by omega
      have hkq : k < qs.length := by omega
      obtain ⟨V, hV⟩ : ∃ V, (99 + k) % 256 = V := ⟨_, rfl⟩
      have hV256 : V < 256 := by omega
      have r1 : IntKind.i64.wrap (99 + (k : Int)) = 99 + (k : Int) := by rw [IntKind.wrap_i64]; omega
      have r2 : IntKind.u8.wrap (99 + (k : Int)) = (V : Int) := by rw [IntKind.wrap_u8]; omega
      have hqb := hB qs[k] (List.getElem_mem hkq)
      obtain ⟨L, hL⟩ : ∃ L, qs[k].length = L := ⟨_, rfl⟩
      have HI := hide (And.intro hO (And.intro hB (And.intro hM (And.intro hF (And.intro hL hV)))))
      clear hO hB hM hF hV
      go_wp2_with fail
      go_loopw [3] (fun jv wz => ∃ (j : Nat) (r : List Nat), j ≤ L ∧ jv = .int .i64 (j : Nat) ∧ r.length = L ∧ (∀ t u, t < j → r[t]? = some u → u = V) ∧ OL w wz ao cp vs (qs.set k r) ∧ Fr (fun k => k < H) wr wz) (fun jv _ => L - (intOf jv).toNat)
      case atStart => exact ⟨0, qs[k], Nat.zero_le _, rfl, hL, fun t u ht => by omega, by rw [List.set_getElem_self]; exact (unhide HI).1, (unhide HI).2.2.2.1⟩
      case round =>
        obtain ⟨j, r, hj, rfl, hrl, hrm, hO, hF⟩ := hrel
        rename World => wz
        obtain ⟨g, o, bo, c, rfl, -, hv, hcell, hOw⟩ := hO.at_ k (by rw [List.length_set]; exact hkq)
        simp only [List.getElem_set_self] at hv hcell hOw
        rw [hrl] at hv hcell
        by_cases hjl : j < L
        · have hjl' : (j : Int) < (L : Int) := by omega
          obtain ⟨gb, rfl⟩ : ∃ gb, bo = some ⟨gb, 0, none⟩ := by
            rcases hOw.2 with ⟨_, e⟩ | ⟨g', cap, cur, e, _⟩
            · omega
            · simp only [Value.slice.injEq] at e
              exact ⟨g', e.1⟩
          have hrb : ∀ v ∈ r, v < 256 := hO.byt r (List.mem_of_getElem? (List.getElem?_set_self hkq))
          have hcb := hOw.cell j (by omega) hrb
          have hfz := hOw.fz j
          have hO2 := hO.setB k j gb c V r (by rw [hrl]; exact hv) (List.getElem?_set_self hkq) hV256
          rw [List.set_set] at hO2
          have hgH : gb < H := (unhide HG).2.2.2.1 _ (List.mem_of_getElem? hv) gb rfl
          have hF2 := hF.setCell (p := ⟨gb, j, none⟩) (.inl hgH) (.int .u8 (V : Int))
          have hr2 : (r.set j V).length = L := by rw [List.length_set]; exact hrl
          have hrm2 : ∀ t u, t < j + 1 → (r.set j V)[t]? = some u → u = V := fun t u ht hu => by
            by_cases e : j = t
            · subst e
              rw [List.getElem?_set_self (by omega)] at hu
              exact (Option.some.inj hu).symm
            · rw [List.getElem?_set_ne e] at hu
              exact hrm t u (by omega) hu
          have HN := hide (And.intro hO2 (And.intro hF2 (And.intro hr2 hrm2)))
          clear hO2 hF2 hr2 hrm2 hO hF hOw hrm hrb hgH
          have w3 : IntKind.i64.wrap ((j : Int) + 1) = (j : Int) + 1 := by rw [IntKind.wrap_i64]; omega
          go_wp2_with fail
          exact ⟨⟨j + 1, r.set j V, by omega, by go_num, (unhide HN).2.2.1, (unhide HN).2.2.2, (unhide HN).1, (unhide HN).2.1⟩, by simp [intOf]; omega⟩
        · have hjL : j = L := by omega
          have hjl' : ¬ (j : Int) < (L : Int) := by omega
          obtain ⟨g9, cap9, w9, hr9, ⟨u9, hu9⟩, hz9, hO9, hF9⟩ := hO.past k L c H bo r hv (List.getElem?_set_self hkq) hrl (by omega) (unhide HG).2.2.2.1
          have hF9' := hF.trans hF9 (fun _ _ h => h)
          have hB9 : ∀ p ∈ qs.set k r, p.length ≤ 1000 := fun p hp => by
            rcases List.mem_or_eq_of_mem_set hp with h1 | h1
            · exact (unhide HI).2.1 p h1
            · subst h1; omega
          have hM9 : Mkd (qs.set k r) (k + 1) := fun i q hi hq u hu => by
            by_cases e : k = i
            · subst e
              rw [List.getElem?_set_self hkq] at hq
              cases hq
              obtain ⟨t, ht, rfl⟩ := List.getElem_of_mem hu
              rw [(unhide HI).2.2.2.2.2]
              exact hrm t _ (by omega) (List.getElem?_eq_getElem ht)
            · rw [List.getElem?_set_ne e] at hq
              exact (unhide HI).2.2.1 i q (by omega) hq u hu
          have HN := hide (And.intro hO9 (And.intro hF9' (And.intro hB9 hM9)))
          have HR9 := hide hr9
          clear hO9 hF9 hF9' hB9 hM9 hO hF hOw hrm hr9 hjL
          have w3 : IntKind.i64.wrap ((k : Int) + 1) = (k : Int) + 1 := by rw [IntKind.wrap_i64]; omega
          have w4 : IntKind.i64.wrap ((L : Int) + 9 - 1) = (L : Int) + 8 := by rw [IntKind.wrap_i64]; omega
          go_wp2_with (at_builtin; refine wpList_app rfl (.tmp 33) (.tmp 34) 26 26 rfl _ _ _ rfl rfl (unhide HR9) ?_)
          exact ⟨⟨k + 1, qs.set k r, by omega, by go_num, (unhide HN).1, (unhide HN).2.2.1, (unhide HN).2.2.2, (unhide HN).2.1⟩, by simp [intOf]; omega⟩
    · have hkN : k = N := by omega
      have hlt' : ¬ (k : Int) < (N : Int) := by omega
      obtain ⟨g9, cap9, w9, hr9, ⟨u9, hu9⟩, hz9, hg9, hO9⟩ := hO.past2 H N hN (by omega) (by rw [hN]; exact (unhide HG).2.2.2.2)
      have h10 := hO9 (.cells #[.int .u8 1] 5) (some ⟨w9.heap.size, 0, none⟩) 1 1
      have e10 : (w9.alloc (.cells #[.int .u8 1] 5)).setCell ⟨g9, N + 4, none⟩ (.slice (some ⟨w9.heap.size, 0, none⟩) 1 1) = (w9.setCell ⟨g9, N + 4, none⟩ (.slice (some ⟨w9.heap.size, 0, none⟩) 1 1)).alloc (.cells #[.int .u8 1] 5) := by simp [hg9, go_sem]
      rw [e10] at h10
      clear e10
      have hF10 := hF.trans h10.2 (fun _ _ h => h)
      have HN := hide (And.intro h10.1 (And.intro hF10 (And.intro hM hkN)))
      have HR9 := hide hr9
      clear hO9 h10 hF10 hO hF hM hr9 hkN
      have w4 : IntKind.i64.wrap ((N : Int) + 5 - 1) = (N : Int) + 4 := by rw [IntKind.wrap_i64]; omega
      go_wp2_with (at_builtin; refine wpList_app rfl (.tmp 41) (.tmp 42) 22 22 rfl _ _ _ rfl rfl (unhide HR9) ?_)
      go_end0
      exact ⟨rfl, qs, (unhide HN).1, by rw [← (unhide HN).2.2.2]; exact (unhide HN).2.2.1, (unhide HN).2.1⟩
end Go.Proofs.YtocdnomfpgdglaaDoor

namespace Go.Proofs.YtocdnomfpgdglaaDoor
open Go.RowKit

set_option maxRecDepth 100000 in
set_option maxHeartbeats 1000000 in
/-- same, of lists that are the same. -/
theorem msame_T (x y : Value) (vs us : List Value) (ps : List (List Nat)) (w : World) (hx : Pcs w x vs ps) (hy : Pcs w y us ps) (hB : ∀ p ∈ ps, p.length ≤ 1000000) (hn : ps.length ≤ 16000000) :
    Calls Tryd.prog 15 #[x, y] w fun e w' => e = .returned (.bool true) ∧ Fr (fun _ => False) w w' := by
  obtain ⟨xo, xc, rfl⟩ := hx.form
  obtain ⟨yo, yc, rfl⟩ := hy.form
  have HG := hide (And.intro hx (And.intro hy (And.intro hB hn)))
  clear hx hy hB hn
  generalize hN : ps.length = N at *
  go_enter Tryd.func15, Tryd.ntmps15
  go_wp2_with fail
  go_loopw [5] (fun iv wr => ∃ (k : Nat), k ≤ N ∧ iv = .int .i64 (k : Nat) ∧ Fr (fun _ => False) w wr) (fun iv _ => N - (intOf iv).toNat)
  case atStart => exact ⟨0, Nat.zero_le _, rfl, Fr.refl _ _⟩
  case round =>
    obtain ⟨k, hk, rfl, hF⟩ := hrel
    have hN8 := (unhide HG).2.2.2
    by_cases hlt : k < N
    · have hlt' : (k : Int) < (N : Int) := by omega
      have hke : k < ps.length := by omega
      obtain ⟨g, o, vo, vc, rfl, c1, s1⟩ := (unhide HG).1.nth hF k hke
      obtain ⟨g2, o2, uo, uc, rfl, c2, s2⟩ := (unhide HG).2.1.nth hF k hke
      have hpb := (unhide HG).2.2.1 ps[k] (List.getElem_mem hke)
      have hsm : sameB ps[k] ps[k] = true := sameB_refl _
      have hsame := fun (w' : World) (hf : Fr (fun _ => False) wr w') => same_T (s1.s.fr0 hf) (s2.s.fr0 hf) (by omega) hsm
      generalize ps[k].length = PL at *
      have HS := hide (And.intro hsame hF)
      clear hsame hF s1 s2 hsm
      have w5 : IntKind.i64.wrap ((k : Int) + 1) = (k : Int) + 1 := by rw [IntKind.wrap_i64]; omega
      have hS : ∀ w', Fr (fun _ => False) wr w' → w'.cell? ⟨g, o + k, none⟩ = some (.slice vo PL vc) ∧ w'.cell? ⟨g2, o2 + k, none⟩ = some (.slice uo PL uc) := fun w' hf => ⟨(hf.cell (lt_of_cell c1) (fun h => h)).trans c1, (hf.cell (lt_of_cell c2) (fun h => h)).trans c2⟩
      have HSS := hide hS
      clear hS
      go_wp2_with fail
      go_region_held3 (fun w' => w'.cell? ⟨g, o + k, none⟩ = some (.slice vo PL vc) ∧ w'.cell? ⟨g2, o2 + k, none⟩ = some (.slice uo PL uc))
        (first | assumption | exact (unhide HSS) _ (Fr.refl _ _).drew | exact (unhide HSS) _ fC)
        (first | (go_at_call 11; refine ((unhide HS).1 _ (by exact (Fr.refl _ _).drew)).mono ?_; rintro e wC ⟨rfl, hC⟩; have fC : Fr (fun _ => False) wr wC := (Fr.refl _ _).drew.trans hC (fun _ _ h => h)))
      have HE := hide ((unhide HS).2.trans fC (fun _ _ h => h))
      clear fC hC
      go_wp2_with fail
      exact ⟨⟨k + 1, by omega, by go_num, unhide HE⟩, by simp [intOf]; omega⟩
    · have hlt' : ¬ (k : Int) < (N : Int) := by omega
      have HE := hide hF
      clear hF
      go_wp2_with fail
      go_ret
      exact ⟨rfl, unhide HE⟩
set_option maxRecDepth 100000 in
set_option maxHeartbeats 1000000 in
/-- apart, of hashes that bear their marks. -/
theorem apart_T (x : Value) (vs : List Value) (qs : List (List Nat)) (w : World) (hx : Pcs w x vs qs) (hm : Mkd qs qs.length) (hB : ∀ p ∈ qs, p.length ≤ 1000000) (hn : qs.length ≤ 16000000) :
    Calls Tryd.prog 64 #[x] w fun e w' => e = .returned (.bool true) ∧ w' = w := by
  obtain ⟨xo, xc, rfl⟩ := hx.form
  have HG := hide (And.intro hx (And.intro hm (And.intro hB hn)))
  clear hx hm hB hn
  generalize hN : qs.length = N at *
  go_enter Tryd.func64, Tryd.ntmps64
  go_wp2_with fail
  go_loopw [3] (fun iv wr => ∃ (k : Nat), k ≤ N ∧ iv = .int .i64 (k : Nat) ∧ wr = w) (fun iv _ => N - (intOf iv).toNat)
  case atStart => exact ⟨0, Nat.zero_le _, rfl, rfl⟩
  case round =>
    obtain ⟨k, hk, rfl, rfl⟩ := hrel
    have hN8 := (unhide HG).2.2.2
    by_cases hlt : k < N
    · have hlt' : (k : Int) < (N : Int) := by omega
      have hke : k < qs.length := by omega
      obtain ⟨g, o, vo, vc, rfl, c1, s1⟩ := (unhide HG).1.nth (Fr.refl _ _) k hke
      have hpb := (unhide HG).2.2.1 qs[k] (List.getElem_mem hke)
      have hmk := (unhide HG).2.1 k qs[k] hlt (List.getElem?_eq_getElem hke)
      generalize qs[k] = q at *
      have HS := hide (And.intro s1 hmk)
      clear s1 hmk
      generalize hL : q.length = L at *
      obtain ⟨V, hV⟩ : ∃ V, (99 + k) % 256 = V := ⟨_, rfl⟩
      have r1 : IntKind.i64.wrap (99 + (k : Int)) = 99 + (k : Int) := by rw [IntKind.wrap_i64]; omega
      have r2 : IntKind.u8.wrap (99 + (k : Int)) = (V : Int) := by rw [IntKind.wrap_u8]; omega
      have w3 : IntKind.i64.wrap ((k : Int) + 1) = (k : Int) + 1 := by rw [IntKind.wrap_i64]; omega
      have HV := hide hV
      clear hV
      go_wp2_with fail
      go_loopw [4] (fun jv wz => ∃ (j : Nat), j ≤ L ∧ jv = .int .i64 (j : Nat) ∧ wz = wr) (fun jv _ => L - (intOf jv).toNat)
      case atStart => exact ⟨0, Nat.zero_le _, rfl, rfl⟩
      case round =>
        obtain ⟨j, hj, rfl, rfl⟩ := hrel
        by_cases hjl : j < L
        · have hjl' : (j : Int) < (L : Int) := by omega
          obtain ⟨g1, o1, rfl, b1⟩ := src_cell (unhide HS).1.s j (by omega) (unhide HS).1.b
          have hu : q.getD j 0 = V := by
            rw [List.getD, List.getElem?_eq_getElem (by omega), Option.getD_some, ← unhide HV]
            exact (unhide HS).2 _ (List.getElem_mem _)
          rw [hu] at b1
          have w4 : IntKind.i64.wrap ((j : Int) + 1) = (j : Int) + 1 := by rw [IntKind.wrap_i64]; omega
          clear hu
          go_wp2_with fail
          exact ⟨⟨j + 1, by omega, by go_num, by first | rfl | trivial⟩, by simp [intOf]; omega⟩
        · have hjl' : ¬ (j : Int) < (L : Int) := by omega
          go_wp2_with fail
          exact ⟨⟨k + 1, by omega, by go_num, by first | rfl | trivial⟩, by simp [intOf]; omega⟩
    · have hlt' : ¬ (k : Int) < (N : Int) := by omega
      go_wp2_with fail
      go_ret
      exact ⟨rfl, by first | rfl | trivial⟩
/-- Hashes made later stay where what was made before them is written. -/
theorem OL.pcs_ge {w wr wq : World} {ao : Option Addr} {cp : Nat} {vs : List Value} {ps : List (List Nat)} (h : OL w wr ao cp vs ps) (hf : Fr (fun k => k < w.heap.size) wr wq) : Pcs wq (.slice ao vs.length cp) vs ps := by
  have hp := h.pcs
  refine ⟨hp.len, ?_, fun j v p hv hpp => ?_, hp.byt⟩
  · rcases h.own.own.2 with ⟨e, e0⟩ | ⟨g, cap, cur, e, h1, _⟩
    · simp only [Value.slice.injEq] at e
      obtain ⟨rfl, _, rfl⟩ := e
      exact .inl ⟨by rw [e0], List.length_eq_zero_iff.1 e0⟩
    · simp only [Value.slice.injEq, true_and] at e
      obtain ⟨rfl, rfl⟩ := e
      have hg := h.own.own.lt g rfl
      refine .inr (.inr ⟨g, 0, cp, rfl, Nat.lt_of_lt_of_le hg.2 hf.size, fun j v hv => ?_⟩)
      have hj : j < vs.length := (List.getElem?_eq_some_iff.1 hv).1
      rw [Nat.zero_add, hf.cell (p := ⟨g, j, none⟩) hg.2 (by simp only; omega), h.own.own.cellAt j (by omega), hv]
  · obtain ⟨bo, c, rfl, hO⟩ := h.row j v p hv hpp
    have hO2 : Ow wq w.heap.size bo c p := hO.fr hf (fun k hk h => by omega)
    have := hO2.sl (h.byt p (List.mem_of_getElem? hpp))
    exact ⟨this.s, this.cap, this.lt⟩
theorem OL.inner_lt' {w wr : World} {ao : Option Addr} {cp : Nat} {vs : List Value} {ps : List (List Nat)} (h : OL w wr ao cp vs ps) : (∀ v ∈ vs, ∀ g, v.ownBlock = some g → g < wr.heap.size) ∧ ∀ g, (Value.slice ao vs.length cp).ownBlock = some g → g < wr.heap.size :=
  ⟨fun v hv g hg => (h.inner_lt v hv g hg).2, fun g hg => (h.own.own.lt g hg).2⟩
set_option maxRecDepth 100000 in
set_option maxHeartbeats 1000000 in
theorem held_T {w2 w3 w4 : World} {ao bo : Option Addr} {cp bc : Nat} {vs us ts : List Value} {ps : List (List Nat)} {z : Value} (ha : OL w2 w3 ao cp vs ps) (hb : OL w3 w4 bo bc us ps) (hz : Pcs w2 z ts ps) (c : Int) (hB : ∀ p ∈ ps, p.length ≤ 1000) (hn : ps.length ≤ 8000000) :
    Calls Tryd.prog 32 #[.slice ao vs.length cp, .int .i64 c, .slice bo us.length bc, .int .i64 c, z, .int .i64 c] w4 fun e w' => e = .returned (.bool true) ∧ Fr (fun _ => False) w2 w' := by
  have hB2 : ∀ p ∈ ps, p.length ≤ 1000000 := fun p hp => by have := hB p hp; omega
  have ha4 := ha.fr0 hb.own.fr
  have h1 := fun w' (hf : Fr (fun _ => False) w4 w') => msame_T _ _ vs ts ps w' (ha4.fr0 hf).pcs (((hz.fr0 ha.own.fr).fr0 hb.own.fr).fr0 hf) hB2 (by omega)
  have h2 := fun w' (hf : Fr (fun _ => False) w4 w') => msame_T _ _ us ts ps w' (hb.fr0 hf).pcs (((hz.fr0 ha.own.fr).fr0 hb.own.fr).fr0 hf) hB2 (by omega)
  have hl := ha.inner_lt'
  have hsp := fun w' (hf : Fr (fun _ => False) w4 w') => spoil_any (ha4.fr0 hf) w3.heap.size hB (by rw [ha.len]; exact hn) hl.1 hl.2
  have hap : ∀ w' qs, OL w2 w' ao cp vs qs → Mkd qs vs.length → Calls Tryd.prog 64 #[.slice ao vs.length cp] w' fun e w'' => e = .returned (.bool true) ∧ w'' = w' := fun w' qs hq hm => by
    refine apart_T _ vs qs w' hq.pcs (by rw [← hq.len]; exact hm) (fun q hqm => ?_) (by rw [← hq.len, ha.len]; omega)
    obtain ⟨j, hj, rfl⟩ := List.getElem_of_mem hqm
    have hjv : j < vs.length := by rw [hq.len]; exact hj
    have hjp : j < ps.length := by rw [← ha.len]; exact hjv
    obtain ⟨b1, c1, e1, _⟩ := hq.row j vs[j] qs[j] (List.getElem?_eq_getElem hjv) (List.getElem?_eq_getElem hj)
    obtain ⟨b2, c2, e2, _⟩ := ha.row j vs[j] ps[j] (List.getElem?_eq_getElem hjv) (List.getElem?_eq_getElem hjp)
    rw [e1] at e2
    simp only [Value.slice.injEq] at e2
    rw [e2.2.1]
    exact hB2 _ (List.getElem_mem _)
  have h3 := fun w' w'' (hf : Fr (fun _ => False) w4 w') (hf2 : Fr (fun k => k < w3.heap.size) w' w'') (hf3 : Fr (fun _ => False) w2 w'') => msame_T _ _ us ts ps w'' ((hb.fr0 hf).pcs_ge hf2) (hz.fr0 hf3) hB2 (by omega)
  have HC := hide (And.intro h1 (And.intro h2 (And.intro hsp (And.intro hap h3))))
  obtain ⟨zo, zc, rfl⟩ := hz.form
  clear h1 h2 hsp hap h3 hl ha4 hB2 hB hn ha hb hz
  generalize vs.length = VL at *
  generalize us.length = UL at *
  generalize ps.length = PL at *
  go_enter Tryd.func32, Tryd.ntmps32
  go_wp2_with fail
  refine ((unhide HC).1 w4 (Fr.refl _ _)).mono ?_
  rintro e w5 ⟨rfl, hF⟩
  have H5 := hide hF
  clear hF
  go_wp2_with fail
  refine ((unhide HC).2.1 w5 (unhide H5)).mono ?_
  rintro e w6 ⟨rfl, hF⟩
  have H6 := hide ((unhide H5).trans hF (fun _ _ h => h))
  clear hF
  go_wp2_with fail
  refine ((unhide HC).2.2.1 w6 (unhide H6)).mono ?_
  rintro e w7 ⟨rfl, qs, hq, hm, hF⟩
  have H7 := hide (And.intro hq (And.intro hm hF))
  clear hq hm hF
  go_wp2_with fail
  refine ((unhide HC).2.2.2.1 w7 qs (unhide H7).1 (unhide H7).2.1).mono ?_
  rintro e w8 ⟨rfl, rfl⟩
  go_wp2_with fail
  refine ((unhide HC).2.2.2.2 w6 w8 (unhide H6) (unhide H7).2.2 (unhide H7).1.own.fr).mono ?_
  rintro e w9 ⟨rfl, hF⟩
  have H9 := hide ((unhide H7).1.own.fr.trans hF (fun _ _ h => h))
  clear hF
  go_wp2_with fail
  go_ret
  exact ⟨rfl, unhide H9⟩
end Go.Proofs.YtocdnomfpgdglaaDoor

namespace Go.Proofs.YtocdnomfpgdglaaDoor
open Go.RowKit

set_option maxRecDepth 100000 in
set_option maxHeartbeats 1000000 in
/-- The ref's with. -/
theorem with_any (x y : Value) (vs : List Value) (ps : List (List Nat)) (h : List Nat) (w : World) (hx : Pcs w x vs ps) (hy : Sl w y h) (hn : ps.length ≤ 8000000) :
    Calls Tryd.prog 91 #[x, y] w fun e w' => ∃ ao cp, e = .returned (.slice ao (ps.length + 1) cp) ∧ Pcs w' (.slice ao (ps.length + 1) cp) (vs ++ [y]) (ps ++ [h]) ∧ Fr (fun _ => False) w w' := by
  obtain ⟨xo, xc, rfl⟩ := hx.form
  obtain ⟨yo, yc, rfl⟩ := hy.form
  have hvl : vs.length = ps.length := hx.len
  have HG := hide (And.intro hx (And.intro hy (And.intro hn hvl)))
  clear hx hy hn hvl
  generalize hN : ps.length = N at *
  generalize hH : h.length = HL at *
  go_enter Tryd.func91, Tryd.ntmps91
  go_wp2_with fail
  go_loopw [5, 6] (fun ov iv wr => ∃ (k : Nat) (ao : Option Addr) (cp : Nat), k ≤ N ∧ iv = .int .i64 (k : Nat) ∧ ov = .slice ao k cp ∧ OS w wr ao cp (vs.take k)) (fun _ iv _ => N - (intOf iv).toNat)
  case atStart => exact ⟨0, none, 0, Nat.zero_le _, rfl, rfl, OS.nil w⟩
  case round =>
    obtain ⟨k, ao, cp, hk, rfl, rfl, hO⟩ := hrel
    have hN8 := (unhide HG).2.2.1
    have hvl := (unhide HG).2.2.2
    have htl : (vs.take k).length = k := by rw [List.length_take]; omega
    by_cases hlt : k < N
    · have hlt' : (k : Int) < (N : Int) := by omega
      have hke : k < ps.length := by omega
      obtain ⟨g, o, v, rfl, hcell, hsrc, -⟩ := (unhide HG).1.cell hO.fr k hke
      have hvk : vs[k]? = some v := by
        have hkv : k < vs.length := by omega
        rcases (unhide HG).1.at_ with ⟨e', _⟩ | ⟨_, _, e', _⟩ | ⟨g', o', c', e', hg', hc'⟩
        · simp at e'
        · simp only [Value.slice.injEq] at e'; omega
        · simp only [Value.slice.injEq, Option.some.injEq, Addr.mk.injEq, and_true] at e'
          obtain ⟨⟨rfl, rfl⟩, _⟩ := e'
          have h1 := (hO.fr.cell (p := ⟨g, o + k, none⟩) hg' (fun h => h)).trans (hc' k _ (List.getElem?_eq_getElem hkv))
          rw [h1] at hcell
          rw [List.getElem?_eq_getElem hkv, Option.some.inj hcell]
      obtain ⟨vo, vc, rfl⟩ := hsrc.form
      obtain ⟨a2, c2, w2, hr2, hO2, -, -⟩ := hO.app1 vo ps[k].length vc (by omega)
      have htk : vs.take k ++ [.slice vo ps[k].length vc] = vs.take (k + 1) := by
        rw [List.take_add_one, hvk]; rfl
      rw [htk] at hO2
      rw [htl] at hr2
      have HR2 := hide hr2
      have HO2 := hide hO2
      clear hr2 hO2 hO hsrc htk hvk htl
      generalize ps[k].length = PL at *
      go_wp2_with (at_builtin; refine wpList_app rfl (.tmp 13) (.tmp 18) 22 22 rfl _ _ _ rfl rfl (unhide HR2) ?_)
      exact ⟨⟨k + 1, a2, c2, by omega, by go_num, rfl, unhide HO2⟩, by simp [intOf]; omega⟩
    · have hkN : k = N := by omega
      have hlt' : ¬ (k : Int) < (N : Int) := by omega
      have htk : vs.take k = vs := List.take_of_length_le (by omega)
      rw [htk] at hO htl
      obtain ⟨a2, c2, w2, hr2, hO2, -, -⟩ := hO.app1 yo HL yc (by omega)
      rw [htl] at hr2
      have hpc : Pcs w2 (.slice a2 (vs ++ [Value.slice yo HL yc]).length c2) (vs ++ [.slice yo HL yc]) (ps ++ [h]) := hO2.pcs (by rw [List.length_append, List.length_append, hvl, hN]; rfl) (fun j v p hv hp => by
        by_cases hj : j < vs.length
        · rw [List.getElem?_append_left hj] at hv
          rw [List.getElem?_append_left (by omega)] at hp
          exact ((unhide HG).1.sl j v p hv hp).fr0 hO2.fr
        · have hje : j = vs.length := by
            have := (List.getElem?_eq_some_iff.1 hv).1
            rw [List.length_append, List.length_singleton] at this
            omega
          subst hje
          rw [List.getElem?_append_right (Nat.le_refl _), Nat.sub_self] at hv
          rw [List.getElem?_append_right (by omega), show vs.length - ps.length = 0 by omega] at hp
          simp only [List.getElem?_cons_zero, Option.some.injEq] at hv hp
          subst hv hp
          exact (unhide HG).2.1.fr0 hO2.fr)
      rw [List.length_append, htl] at hpc
      have HR2 := hide hr2
      have HO2 := hide (And.intro hpc (And.intro hO2.fr hkN))
      clear hr2 hO2 hO hpc htk htl hkN
      go_wp2_with (at_builtin; refine wpList_app rfl (.tmp 20) (.tmp 22) 22 22 rfl _ _ _ rfl rfl (unhide HR2) ?_)
      go_ret
      obtain ⟨h1, h2, h3⟩ := unhide HO2
      subst h3
      exact ⟨a2, c2, rfl, h1, h2⟩
theorem pth_le (wi : Nat) (m : Nat) : ∀ (ls : List (List Nat)) (i : Nat), ls.length ≤ m → (pth wi ls i).length ≤ ls.length := by
  induction m with
  | zero => intro ls i h; rw [pth_short _ _ _ (by omega)]; exact Nat.zero_le _
  | succ m ih =>
    intro ls i h
    by_cases h2 : ls.length < 2
    · rw [pth_short _ _ _ h2]; exact Nat.zero_le _
    · have h3 := hf_lt ls.length (by omega)
      have h4 := hf_pos ls.length
      by_cases hi : i < hf ls.length
      · rw [pth_l (by omega) hi, List.length_append]
        have := ih (ls.take (hf ls.length)) i (by rw [List.length_take]; omega)
        rw [List.length_take] at this
        simp; omega
      · rw [pth_r (by omega) hi, List.length_append]
        have := ih (ls.drop (hf ls.length)) (i - hf ls.length) (by rw [List.length_drop]; omega)
        rw [List.length_drop] at this
        simp; omega
def PathSays (wi : Nat) (ls : List (List Nat)) (I : Nat) (x : Value) (w : World) : Prop :=
  Calls Tryd.prog 62 #[.int .i64 wi, x, .int .i64 I] w fun e w' => ∃ yo yc us, e = .returned (.slice yo (pth wi ls I).length yc) ∧ Pcs w' (.slice yo (pth wi ls I).length yc) us (pth wi ls I) ∧ Fr (fun _ => False) w w'
set_option maxRecDepth 100000 in
theorem gpath_short (wi : Nat) (ps : List (List Nat)) (I : Nat) (x : Value) (vs : List Value) (w : World) (hp : Pcs w x vs ps) (h : ps.length < 2) : PathSays wi ps I x w := by
  unfold PathSays
  rw [pth_short _ _ _ h]
  obtain ⟨xo, xc, rfl⟩ := hp.form
  have q1 : (ps.length : Int) < 2 := by omega
  clear hp
  generalize ps.length = N at *
  go_enter Tryd.func62, Tryd.ntmps62
  go_wp2_with fail
  go_ret
  exact ⟨none, 0, [], rfl, ⟨rfl, .inl ⟨rfl, rfl⟩, (fun j v p h => by simp at h), (fun p h => by cases h)⟩, Fr.refl _ _⟩
set_option maxRecDepth 100000 in
set_option maxHeartbeats 1000000 in
/-- The ref's PathOf. -/
theorem gpath_any (wi : Nat) (n : Nat) : ∀ (ps : List (List Nat)) (I : Nat) (x : Value) (vs : List Value) (w : World), ps.length ≤ n → ps.length ≤ 8000000 → I < ps.length → GR w → Pcs w x vs ps → Cp x → (∀ p ∈ ps, p.length ≤ 4000000) → PathSays wi ps I x w := by
  induction n with
  | zero => intro ps I x vs w hl _ hI; omega
  | succ n ih =>
    intro ps I x vs w hl hl8 hIl hr hp hcx hB
    by_cases h2 : ps.length < 2
    · exact gpath_short wi ps I x vs w hp h2
    · obtain ⟨xo, xc, rfl⟩ := hp.form
      obtain ⟨g, o, v, rfl, -⟩ := hp.cell (Fr.refl _ _) 0 (by omega)
      have hk1 := hf_lt ps.length (by omega)
      have hk2 := hf_pos ps.length
      have hle : vs.length = ps.length := hp.len
      have hcapx : ps.length ≤ xc := hcx _ _ _ rfl
      have cp1 : Cp (.slice (some ⟨g, o, none⟩) (hf ps.length) xc) := fun _ _ _ e => by cases e; omega
      have cp2 : Cp (.slice (some ⟨g, o + hf ps.length, none⟩) (ps.length - hf ps.length) (xc - hf ps.length)) := fun _ _ _ e => by cases e; omega
      have hP1 := hp.take (hf ps.length) (by omega)
      have hP2 := hp.drop (hf ps.length) hk1
      have hB1 : ∀ p ∈ ps.take (hf ps.length), p.length ≤ 4000000 := fun p h => hB p (List.mem_of_mem_take h)
      have hB2 : ∀ p ∈ ps.drop (hf ps.length), p.length ≤ 4000000 := fun p h => hB p (List.mem_of_mem_drop h)
      have hl1 : (ps.take (hf ps.length)).length = hf ps.length := by rw [List.length_take]; omega
      have hl2 : (ps.drop (hf ps.length)).length = ps.length - hf ps.length := by rw [List.length_drop]
      have hha := half_any ps.length w (by omega) (by omega)
      by_cases hI : I < hf ps.length
      · have hmt := pth_l (wi := wi) (ls := ps) (i := I) (by omega) hI
        have c1 : ∀ w', Fr (fun _ => False) w w' → PathSays wi (ps.take (hf ps.length)) I (.slice (some ⟨g, o, none⟩) (hf ps.length) xc) w' := fun w' hfr => ih _ _ _ _ w' (by omega) (by omega) (by omega) (hr.fr0 hfr) (hP1.fr0 hfr) cp1 hB1
        have c2 : ∀ w', Fr (fun _ => False) w w' → OfSays wi (ps.drop (hf ps.length)) (.slice (some ⟨g, o + hf ps.length, none⟩) (ps.length - hf ps.length) (xc - hf ps.length)) w' := fun w' hfr => of_any wi _ _ _ _ w' (Nat.le_refl _) (by omega) (hr.fr0 hfr) (hP2.fr0 hfr) cp2 hB2
        have hplen : (pth wi (ps.take (hf ps.length)) I).length ≤ 8000000 := Nat.le_trans (pth_le wi _ _ _ (Nat.le_refl _)) (by omega)
        unfold PathSays at c1 ⊢
        unfold OfSays at c2
        rw [hmt]
        generalize pth wi (ps.take (hf ps.length)) I = P1 at *
        generalize mth wi (ps.drop (hf ps.length)) = M2 at *
        have hwith : ∀ (x y : Value) us w', Pcs w' x us P1 → Sl w' y M2 → _ := fun x y us w' h1 h2 => with_any x y us P1 M2 w' h1 h2 hplen
        have HG := hide (And.intro c1 (And.intro c2 (And.intro hwith hha)))
        clear hr hP1 hP2 c1 c2 hha hmt hB hB1 hB2 hp hl1 hl2 ih cp1 cp2 hcx hwith hplen
        generalize hK : hf ps.length = K at *
        have q1 : (K : Int) ≤ (ps.length : Int) := by omega
        have q2 : (K : Int) ≤ (xc : Int) := by omega
        have q3 : ¬ (ps.length : Int) < 2 := by omega
        have q4 : ¬ ps.length < 2 := by omega
        have q7 : (I : Int) < (K : Int) := by omega
        have q8 : IntKind.i64.wrap ((I : Int) - (K : Int)) = ((I - K : Nat) : Int) ∨ True := .inr trivial
        clear q8 hK
        generalize ps.length = N at *
        go_enter Tryd.func62, Tryd.ntmps62
        go_wp2_with fail
        refine (unhide HG).2.2.2.mono ?_
        rintro e w0 ⟨rfl, rfl⟩
        go_wp2_with fail
        have q5 : ¬ xc = K := by omega
        have q6 : ¬ K = xc := by omega
        go_region_held3 (fun _ => True) (trivial) (first
          | (go_at_call 62; refine ((unhide HG).1 _ ((Fr.refl _ _).drew)).mono ?_; rintro e wA ⟨yA, cA, uA, rfl, sA, fA⟩)
          | (go_at_call 58; refine ((unhide HG).2.1 _ (((Fr.refl _ _).drew).trans fA (fun _ _ h => h))).mono ?_; rintro e wB ⟨yB, cB, rfl, sB, fB⟩)
          | (go_at_call 91; refine ((unhide HG).2.2.1 _ _ _ wB (sA.fr0 fB) sB).mono ?_; rintro e wC ⟨zo, zc, rfl, oC, fC⟩))
        have hFC : Fr (fun _ => False) w0 wC := ((((Fr.refl (fun _ => False) w0).drew).trans fA (fun _ _ h => h)).trans fB (fun _ _ h => h)).trans fC (fun _ _ h => h)
        have HE := hide (And.intro oC hFC)
        clear hFC oC
        go_wp2_with fail
        go_ret
        exact ⟨zo, zc, _, by rw [List.length_append]; rfl, by rw [List.length_append]; exact (unhide HE).1, (unhide HE).2⟩
      · have hmt := pth_r (wi := wi) (ls := ps) (i := I) (by omega) hI
        have c1 : ∀ w', Fr (fun _ => False) w w' → PathSays wi (ps.drop (hf ps.length)) (I - hf ps.length) (.slice (some ⟨g, o + hf ps.length, none⟩) (ps.length - hf ps.length) (xc - hf ps.length)) w' := fun w' hfr => ih _ _ _ _ w' (by omega) (by omega) (by omega) (hr.fr0 hfr) (hP2.fr0 hfr) cp2 hB2
        have c2 : ∀ w', Fr (fun _ => False) w w' → OfSays wi (ps.take (hf ps.length)) (.slice (some ⟨g, o, none⟩) (hf ps.length) xc) w' := fun w' hfr => of_any wi _ _ _ _ w' (Nat.le_refl _) (by omega) (hr.fr0 hfr) (hP1.fr0 hfr) cp1 hB1
        have hplen : (pth wi (ps.drop (hf ps.length)) (I - hf ps.length)).length ≤ 8000000 := Nat.le_trans (pth_le wi _ _ _ (Nat.le_refl _)) (by omega)
        unfold PathSays at c1 ⊢
        unfold OfSays at c2
        rw [hmt]
        generalize pth wi (ps.drop (hf ps.length)) (I - hf ps.length) = P1 at *
        generalize mth wi (ps.take (hf ps.length)) = M2 at *
        have hwith : ∀ (x y : Value) us w', Pcs w' x us P1 → Sl w' y M2 → _ := fun x y us w' h1 h2 => with_any x y us P1 M2 w' h1 h2 hplen
        have HG := hide (And.intro c1 (And.intro c2 (And.intro hwith hha)))
        clear hr hP1 hP2 c1 c2 hha hmt hB hB1 hB2 hp hl1 hl2 ih cp1 cp2 hcx hwith hplen
        generalize hK : hf ps.length = K at *
        have q1 : (K : Int) ≤ (ps.length : Int) := by omega
        have q2 : (K : Int) ≤ (xc : Int) := by omega
        have q3 : ¬ (ps.length : Int) < 2 := by omega
        have q4 : ¬ ps.length < 2 := by omega
        have q7 : ¬ (I : Int) < (K : Int) := by omega
        have q8 : IntKind.i64.wrap ((I : Int) - (K : Int)) = ((I - K : Nat) : Int) ∨ True := .inr trivial
        have q9 : IntKind.i64.wrap ((I : Int) - (K : Int)) = (I : Int) - (K : Int) := by rw [IntKind.wrap_i64]; omega
        have q10 : ((I - K : Nat) : Int) = (I : Int) - (K : Int) := by omega
        rw [q10] at HG
        clear q8 hK q10
        generalize ps.length = N at *
        go_enter Tryd.func62, Tryd.ntmps62
        go_wp2_with fail
        refine (unhide HG).2.2.2.mono ?_
        rintro e w0 ⟨rfl, rfl⟩
        go_wp2_with fail
        have q5 : ¬ xc = K := by omega
        have q6 : ¬ K = xc := by omega
        go_region_held3 (fun _ => True) (trivial) (first
          | (go_at_call 62; refine ((unhide HG).1 _ ((Fr.refl _ _).drew)).mono ?_; rintro e wA ⟨yA, cA, uA, rfl, sA, fA⟩)
          | (go_at_call 58; refine ((unhide HG).2.1 _ (((Fr.refl _ _).drew).trans fA (fun _ _ h => h))).mono ?_; rintro e wB ⟨yB, cB, rfl, sB, fB⟩)
          | (go_at_call 91; refine ((unhide HG).2.2.1 _ _ _ wB (sA.fr0 fB) sB).mono ?_; rintro e wC ⟨zo, zc, rfl, oC, fC⟩))
        have hFC : Fr (fun _ => False) w0 wC := ((((Fr.refl (fun _ => False) w0).drew).trans fA (fun _ _ h => h)).trans fB (fun _ _ h => h)).trans fC (fun _ _ h => h)
        have HE := hide (And.intro oC hFC)
        clear hFC oC
        go_wp2_with fail
        go_ret
        exact ⟨zo, zc, _, by rw [List.length_append]; rfl, by rw [List.length_append]; exact (unhide HE).1, (unhide HE).2⟩
end Go.Proofs.YtocdnomfpgdglaaDoor

namespace Go.Proofs.YtocdnomfpgdglaaDoor
open Go.RowKit

set_option maxRecDepth 100000 in
set_option maxHeartbeats 1000000 in
theorem hex_O (s : ByteArray) (w : World) (hs : s.size < 1048576) : Calls Tryd.prog 13 #[.string s] w fun e w' => ∃ yo yc, e = .returned (.slice yo (hxl (bytesOf s)).length yc) ∧ OB w w' yo yc (hxl (bytesOf s)) := by
  go_enter Tryd.func13, Tryd.ntmps13
  go_wp2_with fail
  go_loopw [3, 4] (fun x i wr => ∃ k j : Nat, j = 2 * k ∧ j ≤ s.size ∧ i = .int .i64 j ∧ wr.ownsRow w.heap.size 5 1 x k (cellsOf (hxk (bytesOf s) k)) ∧ Fr (fun _ => False) w wr) (fun _ i _ => s.size - (intOf i).toNat)
  case atStart => exact ⟨0, 0, rfl, Nat.zero_le _, rfl, own_nil w _, Fr.refl _ _⟩
  case round =>
    obtain ⟨k, j, hj, hjs, rfl, ho, hF⟩ := hrel
    rename World => wr
    rename_i x'
    by_cases hlt : j + 1 < s.size
    · have hlt1 : j < s.size := by omega
      have hlt2 : j < s.data.size := hlt1
      have hlt3 : j + 1 < s.data.size := hlt
      have a0 : s[j].toNat < 256 := s[j].toNat_lt
      have a1 : s[j + 1].toNat < 256 := s[j + 1].toNat_lt
      have e0 : (bytesOf s).getD (2 * k) 0 = s[j].toNat := by
        rw [← hj, List.getD, List.getElem?_eq_getElem (by rw [bytesOf_length]; exact hlt1)]; simp [bytesOf]; rfl
      have e1 : (bytesOf s).getD (2 * k + 1) 0 = s[j + 1].toNat := by
        rw [← hj, List.getD, List.getElem?_eq_getElem (by rw [bytesOf_length]; exact hlt)]; simp [bytesOf]; rfl
      have hv : hbl (bytesOf s) k = (dg s[j].toNat * 16 % 256) ||| dg s[j + 1].toNat := by rw [hbl, e0, e1]
      have hj2 : j + 2 ≤ s.size := by omega
      obtain ⟨xo, xcap, rfl⟩ := own_form ho
      have x0 : ∀ w0 : World, (Instr.index 9 (.string s) (.int .i64 (j : Int))).run Tryd.prog w0 = .ok (.int .u8 (s[j].toNat : Int)) w0 := fun w0 => by
        rw [run_index_string _ _ _ _ _ Tryd.underlying9, dif_pos ⟨by omega, by omega⟩]
        simp only [Int.toNat_natCast]
      have x1 : ∀ w0 : World, (Instr.index 9 (.string s) (.int .i64 ((j : Int) + 1))).run Tryd.prog w0 = .ok (.int .u8 (s[j + 1].toNat : Int)) w0 := fun w0 => by
        have e : (j : Int) + 1 = ((j + 1 : Nat) : Int) := by omega
        rw [e, run_index_string _ _ _ _ _ Tryd.underlying9, dif_pos ⟨by omega, by omega⟩]
        simp only [Int.toNat_natCast]
      generalize s[j].toNat = A at *
      generalize s[j + 1].toNat = B1 at *
      have i1 : (j : Int) + 1 < (s.size : Int) := by omega
      have r0 : IntKind.i64.wrap ((j : Int) + 1) = (j : Int) + 1 := by rw [IntKind.wrap_i64]; omega
      have j0 : (0 : Int) ≤ (j : Int) + 1 := by omega
      have d0 := dg_lt A a0
      have d1 := dg_lt B1 a1
      have hd0 := fun w0 => digit_any A w0 a0
      have hd1 := fun w0 => digit_any B1 w0 a1
      generalize dg A = DA at *
      generalize dg B1 = DB at *
      have p1 : IntKind.u8.wrap ((DA : Int) * 16) = ((DA * 16 % 256 : Nat) : Int) := by rw [IntKind.wrap_u8]; omega
      have p1' : (DA : Int) * 16 % 256 = ((DA * 16 % 256 : Nat) : Int) := by omega
      have p2 := u8_or_nat (DA * 16 % 256) DB (Nat.mod_lt _ (by decide)) d1
      have vlt : (DA * 16 % 256) ||| DB < 256 := Nat.or_lt_two_pow (n := 8) (Nat.mod_lt _ (by decide)) d1
      generalize DA * 16 % 256 = P at *
      generalize P ||| DB = V at *
      have ho2 : (wr.alloc (.cells #[.int .u8 (V : Int)] 5)).drew.ownsRow w.heap.size 5 1 (.slice xo k xcap) k (cellsOf (hxk (bytesOf s) k)) := ownsRow_of_block (w' := (wr.alloc (.cells #[.int .u8 (V : Int)] 5)).drew) ho (fun g hg => Below.heap_alloc _ _ _ (ho.lt g hg).2)
      have hsr : Src (wr.alloc (.cells #[.int .u8 (V : Int)] 5)).drew (.slice (some ⟨wr.heap.size, 0, none⟩) 1 1) [V] := (lit_src wr [V] #[.int .u8 (V : Int)] 1 1 rfl (by simp [cellsOf, B, Nat.mod_eq_of_lt vlt])).fr0 (Fr.refl _ _).drew
      obtain ⟨ao, c', w2, hr, hown, hgrow, hat⟩ := run_app_sl _ 26 w.heap.size k _ _ _ [V] ho2 hsr (by simp; omega) (by have := hF.size; simp; omega)
      have hF2 : Fr (fun _ => False) w w2 := ((hF.alloc _).drew).grown hgrow (fun g hg => .inr (ho.lt g hg).1)
      have hnew : w2.ownsRow w.heap.size 5 1 (.slice ao (k + 1) c') (k + 1) (cellsOf (hxk (bytesOf s) (k + 1))) := by
        rw [hxk_succ, hv, cellsOf_append]; exact hown
      have hj' : j + 2 = 2 * (k + 1) := by omega
      have HR := hide hr
      have HV := hide (And.intro hnew (And.intro hF2 hj'))
      clear hv hj ho hF e0 e1 hlt1 hlt2 hlt3 ho2 hsr hr hown hgrow hat hF2 hnew hj'
      go_wp2_with fail
      go_region_held3 (fun _ => True) (trivial) (first
        | (go_at_call 41; refine (hd0 _).mono ?_; rintro e w' ⟨rfl, rfl⟩; clear hd0)
        | (go_at_call 41; refine (hd1 _).mono ?_; rintro e w' ⟨rfl, rfl⟩)
        | (refine step_app rfl (.tmp 12) (.tmp 24) 26 26 rfl (.slice xo k xcap) (.slice (some ⟨wr.heap.size, 0, none⟩) 1 1) _ (by simp [Act.eval]) (by simp [Act.eval]) (unhide HR) ?_))
      all_goals
        go_wp2_with fail
        exact ⟨⟨k + 1, j + 2, (unhide HV).2.2, hj2, by go_num, (unhide HV).1, (unhide HV).2.1⟩, by simp [intOf]; omega⟩
    · have hlt' : ¬ (j : Int) + 1 < (s.size : Int) := by omega
      have e : hxl (bytesOf s) = hxk (bytesOf s) k := by rw [hxl, bytesOf_length]; congr 1; omega
      obtain ⟨xo, xcap, rfl⟩ := own_form ho
      have hO : OB w wr xo xcap (hxk (bytesOf s) k) := ⟨by rw [hxk_len]; exact ho, hF⟩
      have hl := hxk_len (bytesOf s) k
      rw [← e] at hO hl
      have HV := hide (And.intro hO hl)
      clear hO hF ho e hj hl
      go_wp2_with fail
      go_ret
      exact ⟨xo, xcap, by rw [(unhide HV).2]; rfl, (unhide HV).1⟩
/-- A literal of slices of bytes. -/
theorem pcs_lit {w : World} {vs : List Value} {ps : List (List Nat)} (hl : vs.length = ps.length) (hs : ∀ (j : Nat) v p, vs[j]? = some v → ps[j]? = some p → Sl w v p) (W : World) (hW : w.alloc (.cells vs.toArray 26) = W) (n : Nat) (hn : vs.length = n) : Pcs W (.slice (some ⟨w.heap.size, 0, none⟩) n n) vs ps ∧ Fr (fun _ => False) w W := by
  have hF1 : Fr (fun _ => False) w W := by rw [← hW]; exact (Fr.refl _ _).alloc _
  have hc : ∀ j, W.cell? ⟨w.heap.size, 0 + j, none⟩ = vs.toArray[j]? := fun j => by rw [Nat.zero_add, ← hW, World.cell?_alloc_at _ _ _ _ rfl]
  have hlt : w.heap.size < W.heap.size := by rw [← hW]; simp
  refine ⟨⟨hl, .inr (.inr ⟨w.heap.size, 0, n, by rw [hn], hlt, fun j v hv => ?_⟩), fun j v p hv hp => ?_, fun p hp => ?_⟩, hF1⟩
  · rw [hc j]; simpa using hv
  · have := (hs j v p hv hp).fr0 hF1
    exact ⟨this.s, this.cap, this.lt⟩
  · obtain ⟨j, hj, rfl⟩ := List.getElem_of_mem hp
    exact (hs j (vs[j]'(by omega)) ps[j] (List.getElem?_eq_getElem _) (List.getElem?_eq_getElem hj)).b
/-- The entries of the document's examples. -/
def tes : List (List Nat) := [[], [0], [16], [32, 33], [48, 49], [64, 65, 66, 67], [80, 81, 82, 83, 84, 85, 86, 87], [96, 97, 98, 99, 100, 101, 102, 103, 104, 105, 106, 107, 108, 109, 110, 111]]
theorem hex_lit (s : ByteArray) (l : List Nat) (w : World) (hs : s.size < 1048576) (hl : hxl (bytesOf s) = l) (n : Nat) (hn : l.length = n) (hb : ∀ v ∈ l, v < 256) : Calls Tryd.prog 13 #[.string s] w fun e w' => ∃ yo yc, e = .returned (.slice yo n yc) ∧ Sl w' (.slice yo n yc) l ∧ Fr (fun _ => False) w w' := by
  refine (hex_O s w hs).mono ?_
  rintro e w' ⟨yo, yc, rfl, hO⟩
  rw [hl] at hO ⊢
  have := hO.sl hb
  rw [hn] at this ⊢
  exact ⟨yo, yc, rfl, this, hO.fr⟩
theorem sl_nil (w : World) : Sl w (.slice none 0 0) [] := ⟨.inl ⟨rfl, rfl⟩, fun _ _ _ e => by cases e; exact Nat.le_refl _, .inl rfl, fun _ h => by cases h⟩
set_option maxRecDepth 100000 in
set_option maxHeartbeats 4000000 in
theorem tests_any (w : World) : Calls Tryd.prog 9 #[] w fun e w' => ∃ g vs, e = .returned (.slice (some ⟨g, 0, none⟩) 8 8) ∧ Pcs w' (.slice (some ⟨g, 0, none⟩) 8 8) vs tes ∧ Fr (fun _ => False) w w' := by
  go_enter Tryd.func9, Tryd.ntmps9
  go_wp2_with fail
  refine (hex_lit ⟨#[48, 48]⟩ [0] _ (by decide) (by decide) 1 rfl (by decide)).mono ?_
  rintro e w1 ⟨a1, c1, rfl, hS, hF⟩
  have S1 := hide hS
  have F1 := hide hF
  clear hS hF
  go_wp2_with fail
  refine (hex_lit ⟨#[49, 48]⟩ [16] _ (by decide) (by decide) 1 rfl (by decide)).mono ?_
  rintro e w2 ⟨a2, c2, rfl, hS, hF⟩
  have S1 := hide ((unhide S1).fr0 hF)
  have S2 := hide hS
  have F2 := hide ((unhide F1).trans hF (fun _ _ h => h))
  clear hS hF
  go_wp2_with fail
  refine (hex_lit ⟨#[50, 48, 50, 49]⟩ [32, 33] _ (by decide) (by decide) 2 rfl (by decide)).mono ?_
  rintro e w3 ⟨a3, c3, rfl, hS, hF⟩
  have S1 := hide ((unhide S1).fr0 hF)
  have S2 := hide ((unhide S2).fr0 hF)
  have S3 := hide hS
  have F3 := hide ((unhide F2).trans hF (fun _ _ h => h))
  clear hS hF
  go_wp2_with fail
  refine (hex_lit ⟨#[51, 48, 51, 49]⟩ [48, 49] _ (by decide) (by decide) 2 rfl (by decide)).mono ?_
  rintro e w4 ⟨a4, c4, rfl, hS, hF⟩
  have S1 := hide ((unhide S1).fr0 hF)
  have S2 := hide ((unhide S2).fr0 hF)
  have S3 := hide ((unhide S3).fr0 hF)
  have S4 := hide hS
  have F4 := hide ((unhide F3).trans hF (fun _ _ h => h))
  clear hS hF
  go_wp2_with fail
  refine (hex_lit ⟨#[52, 48, 52, 49, 52, 50, 52, 51]⟩ [64, 65, 66, 67] _ (by decide) (by decide) 4 rfl (by decide)).mono ?_
  rintro e w5 ⟨a5, c5, rfl, hS, hF⟩
  have S1 := hide ((unhide S1).fr0 hF)
  have S2 := hide ((unhide S2).fr0 hF)
  have S3 := hide ((unhide S3).fr0 hF)
  have S4 := hide ((unhide S4).fr0 hF)
  have S5 := hide hS
  have F5 := hide ((unhide F4).trans hF (fun _ _ h => h))
  clear hS hF
  go_wp2_with fail
  refine (hex_lit ⟨#[53, 48, 53, 49, 53, 50, 53, 51, 53, 52, 53, 53, 53, 54, 53, 55]⟩ [80, 81, 82, 83, 84, 85, 86, 87] _ (by decide) (by decide) 8 rfl (by decide)).mono ?_
  rintro e w6 ⟨a6, c6, rfl, hS, hF⟩
  have S1 := hide ((unhide S1).fr0 hF)
  have S2 := hide ((unhide S2).fr0 hF)
  have S3 := hide ((unhide S3).fr0 hF)
  have S4 := hide ((unhide S4).fr0 hF)
  have S5 := hide ((unhide S5).fr0 hF)
  have S6 := hide hS
  have F6 := hide ((unhide F5).trans hF (fun _ _ h => h))
  clear hS hF
  go_wp2_with fail
  refine (hex_lit ⟨#[54, 48, 54, 49, 54, 50, 54, 51, 54, 52, 54, 53, 54, 54, 54, 55, 54, 56, 54, 57, 54, 97, 54, 98, 54, 99, 54, 100, 54, 101, 54, 102]⟩ [96, 97, 98, 99, 100, 101, 102, 103, 104, 105, 106, 107, 108, 109, 110, 111] _ (by decide) (by decide) 16 rfl (by decide)).mono ?_
  rintro e w7 ⟨a7, c7, rfl, hS, hF⟩
  have S1 := hide ((unhide S1).fr0 hF)
  have S2 := hide ((unhide S2).fr0 hF)
  have S3 := hide ((unhide S3).fr0 hF)
  have S4 := hide ((unhide S4).fr0 hF)
  have S5 := hide ((unhide S5).fr0 hF)
  have S6 := hide ((unhide S6).fr0 hF)
  have S7 := hide hS
  have F7 := hide ((unhide F6).trans hF (fun _ _ h => h))
  clear hS hF
  go_wp2_with fail
  go_ret
  obtain ⟨hP, hF⟩ := pcs_lit (w := w7) (vs := [.slice none 0 0, .slice a1 1 c1, .slice a2 1 c2, .slice a3 2 c3, .slice a4 2 c4, .slice a5 4 c5, .slice a6 8 c6, .slice a7 16 c7]) (ps := tes) rfl (fun j v p hv hp => by
    match j with
    | 0 => simp [tes] at hv hp; subst hv hp; exact sl_nil _
    | 1 => simp [tes] at hv hp; subst hv hp; exact unhide S1
    | 2 => simp [tes] at hv hp; subst hv hp; exact unhide S2
    | 3 => simp [tes] at hv hp; subst hv hp; exact unhide S3
    | 4 => simp [tes] at hv hp; subst hv hp; exact unhide S4
    | 5 => simp [tes] at hv hp; subst hv hp; exact unhide S5
    | 6 => simp [tes] at hv hp; subst hv hp; exact unhide S6
    | 7 => simp [tes] at hv hp; subst hv hp; exact unhide S7
    | j + 8 => simp at hv) _ rfl 8 rfl
  exact ⟨_, _, rfl, hP, (unhide F7).trans hF (fun _ _ h => h)⟩
end Go.Proofs.YtocdnomfpgdglaaDoor

namespace Go.Proofs.YtocdnomfpgdglaaDoor
open Go.RowKit

/-- SUB. -/
def subF (wi : Nat) (ls : List (List Nat)) (m : Nat) (b : Bool) : List (List Nat) :=
  if _h : m = ls.length ∨ ls.length < 2 then (if b then [] else [mth wi ls])
  else if m ≤ hf ls.length then subF wi (ls.take (hf ls.length)) m b ++ [mth wi (ls.drop (hf ls.length))]
  else subF wi (ls.drop (hf ls.length)) (m - hf ls.length) false ++ [mth wi (ls.take (hf ls.length))]
termination_by ls.length
decreasing_by
  · rw [List.length_take]; have := hf_lt ls.length (by omega); omega
  · rw [List.length_drop]; have := hf_pos ls.length; omega
theorem subF_eq {wi : Nat} {ls : List (List Nat)} {m : Nat} {b : Bool} (h : m = ls.length) : subF wi ls m b = if b then [] else [mth wi ls] := by rw [subF, dif_pos (.inl h)]
theorem subF_l {wi : Nat} {ls : List (List Nat)} {m : Nat} {b : Bool} (h : 2 ≤ ls.length) (hne : ¬ m = ls.length) (hi : m ≤ hf ls.length) : subF wi ls m b = subF wi (ls.take (hf ls.length)) m b ++ [mth wi (ls.drop (hf ls.length))] := by
  conv => lhs; rw [subF, dif_neg (by omega), if_pos hi]
theorem subF_r {wi : Nat} {ls : List (List Nat)} {m : Nat} {b : Bool} (h : 2 ≤ ls.length) (hne : ¬ m = ls.length) (hi : ¬ m ≤ hf ls.length) : subF wi ls m b = subF wi (ls.drop (hf ls.length)) (m - hf ls.length) false ++ [mth wi (ls.take (hf ls.length))] := by
  conv => lhs; rw [subF, dif_neg (by omega), if_neg hi]
theorem subF_le (wi : Nat) (k : Nat) : ∀ (ls : List (List Nat)) (m : Nat) (b : Bool), ls.length ≤ k → (subF wi ls m b).length ≤ ls.length + 1 := by
  induction k with
  | zero => intro ls m b h; rw [subF, dif_pos (by omega)]; split <;> simp
  | succ k ih =>
    intro ls m b h
    by_cases h2 : m = ls.length ∨ ls.length < 2
    · rw [subF, dif_pos h2]; split <;> simp
    · have h3 := hf_lt ls.length (by omega)
      have h4 := hf_pos ls.length
      by_cases hi : m ≤ hf ls.length
      · rw [subF_l (by omega) (by omega) hi, List.length_append]
        have := ih (ls.take (hf ls.length)) m b (by rw [List.length_take]; omega)
        rw [List.length_take] at this
        simp; omega
      · rw [subF_r (by omega) (by omega) hi, List.length_append]
        have := ih (ls.drop (hf ls.length)) (m - hf ls.length) false (by rw [List.length_drop]; omega)
        rw [List.length_drop] at this
        simp; omega
/-- SUB by the part where it ends. -/
theorem sub_bes (wi : Nat) (L : List (List Nat)) (k : Nat) : ∀ f n m, n ≤ k → f + n ≤ L.length → 0 < m → m ≤ n →
    subF wi (blk L f n) m true = (if (endF f n (f + m)).1 = f then bes wi L f n (endF f n (f + m)).1 (endF f n (f + m)).2 else mth wi (blk L (endF f n (f + m)).1 (endF f n (f + m)).2) :: bes wi L f n (endF f n (f + m)).1 (endF f n (f + m)).2) ∧
    subF wi (blk L f n) m false = mth wi (blk L (endF f n (f + m)).1 (endF f n (f + m)).2) :: bes wi L f n (endF f n (f + m)).1 (endF f n (f + m)).2 := by
  induction k with
  | zero => intro f n m h1 _ h2 h3; omega
  | succ k ih =>
    intro f n m h1 hL h2 h3
    have hlen := blk_len L f n hL
    by_cases e : m = n
    · subst e
      rw [endF_eq rfl, subF_eq hlen.symm, subF_eq hlen.symm, if_pos rfl, bes_eq]
      exact ⟨by rw [if_pos rfl], by simp⟩
    · have hlt := hf_lt n (by omega)
      have hp := hf_pos n
      by_cases hl : m ≤ hf n
      · obtain ⟨i1, i2⟩ := ih f (hf n) m (by omega) (by omega) h2 hl
        obtain ⟨o1, o2, o3, o4, o5⟩ := endF_ok (hf n) f (hf n) (f + m) (Nat.le_refl _) (by omega) (by omega)
        have e1 : ∀ b, subF wi (blk L f n) m b = subF wi (blk L f (hf n)) m b ++ [mth wi (blk L (f + hf n) (n - hf n))] := fun b => by
          rw [subF_l (by omega) (by omega) (by rw [hlen]; exact hl), hlen, blk_take _ _ _ _ (by omega), blk_drop]
        have e2 : endF f n (f + m) = endF f (hf n) (f + m) := endF_l (by omega) (by omega) (by omega)
        rw [e1 true, e1 false, i1, i2, e2]
        generalize endF f (hf n) (f + m) = E at *
        have e3 : bes wi L f n E.1 E.2 = bes wi L f (hf n) E.1 E.2 ++ [mth wi (blk L (f + hf n) (n - hf n))] := bes_l (by omega) (by omega) (by omega)
        rw [e3]
        refine ⟨?_, by simp⟩
        split
        · rfl
        · simp
      · obtain ⟨i1, i2⟩ := ih (f + hf n) (n - hf n) (m - hf n) (by omega) (by omega) (by omega) (by omega)
        have ee : f + hf n + (m - hf n) = f + m := by omega
        rw [ee] at i1 i2
        obtain ⟨o1, o2, o3, o4, o5⟩ := endF_ok (n - hf n) (f + hf n) (n - hf n) (f + m) (Nat.le_refl _) (by omega) (by omega)
        have e1 : ∀ b, subF wi (blk L f n) m b = subF wi (blk L (f + hf n) (n - hf n)) (m - hf n) false ++ [mth wi (blk L f (hf n))] := fun b => by
          rw [subF_r (by omega) (by omega) (by rw [hlen]; exact hl), hlen, blk_take _ _ _ _ (by omega), blk_drop]
        have e2 : endF f n (f + m) = endF (f + hf n) (n - hf n) (f + m) := endF_r (by omega) (by omega) (by omega)
        rw [e1 true, e1 false, i2, e2]
        generalize endF (f + hf n) (n - hf n) (f + m) = E at *
        have e3 : bes wi L f n E.1 E.2 = bes wi L (f + hf n) (n - hf n) E.1 E.2 ++ [mth wi (blk L f (hf n))] := bes_r (by omega) (by omega) (by omega)
        rw [e3, if_neg (by omega)]
        exact ⟨by simp, by simp⟩
theorem prf_sub (wi : Nat) (L : List (List Nat)) (m : Nat) (hm : m ≤ L.length) : prf wi L L.length m = if m = 0 ∨ m = L.length then [] else subF wi L m true := by
  rw [prf]
  by_cases h0 : m = 0
  · rw [if_pos h0, if_pos (.inl h0)]
  · rw [if_neg h0]
    by_cases h1 : m = L.length
    · have e1 : (if m = 0 ∨ m = L.length then ([] : List (List Nat)) else subF wi L m true) = [] := if_pos (.inr h1)
      rw [e1, endF_eq (by omega), if_pos rfl, bes_eq]
    · have e1 : (if m = 0 ∨ m = L.length then ([] : List (List Nat)) else subF wi L m true) = subF wi L m true := if_neg (by omega)
      have := (sub_bes wi L L.length 0 L.length m (Nat.le_refl _) (by omega) (by omega) hm).1
      rw [blk_all, Nat.zero_add] at this
      rw [e1]
      exact this.symm
def SubSays (wi : Nat) (ls : List (List Nat)) (I : Nat) (b : Bool) (x : Value) (w : World) : Prop :=
  Calls Tryd.prog 92 #[.int .i64 wi, .int .i64 I, x, .bool b] w fun e w' => ∃ yo yc us, e = .returned (.slice yo (subF wi ls I b).length yc) ∧ Pcs w' (.slice yo (subF wi ls I b).length yc) us (subF wi ls I b) ∧ Fr (fun _ => False) w w'
theorem pcs_nil (w : World) : Pcs w (.slice none 0 0) [] [] := ⟨rfl, .inl ⟨rfl, rfl⟩, (fun j v p h => by simp at h), (fun p h => by cases h)⟩
set_option maxRecDepth 100000 in
set_option maxHeartbeats 1000000 in
theorem gsub_end (wi : Nat) (ps : List (List Nat)) (b : Bool) (x : Value) (vs : List Value) (w : World) (hr : GR w) (hp : Pcs w x vs ps) (hcx : Cp x) (hn : ps.length ≤ 8000000) (hB : ∀ p ∈ ps, p.length ≤ 4000000) : SubSays wi ps ps.length b x w := by
  have hof := of_any wi _ ps x vs w (Nat.le_refl _) hn hr hp hcx hB
  unfold SubSays
  unfold OfSays at hof
  rw [subF_eq rfl]
  obtain ⟨xo, xc, rfl⟩ := hp.form
  generalize mth wi ps = M at *
  have HC := hide hof
  clear hof hp hcx hn hB hr
  generalize ps.length = N at *
  have q1 : ((N : Int) == (N : Int)) = true := by simp
  cases b
  · go_enter Tryd.func92, Tryd.ntmps92
    go_wp2_with fail
    refine (unhide HC).mono ?_
    rintro e w1 ⟨yo, yc, rfl, hS, hF⟩
    obtain ⟨W, hW⟩ : ∃ W, w1.alloc (.cells #[.slice yo M.length yc] 26) = W := ⟨_, rfl⟩
    obtain ⟨hP, hF2⟩ := pcs_lit (w := w1) (vs := [.slice yo M.length yc]) (ps := [M]) rfl (fun j v p hv hp => by
      match j with
      | 0 => simp at hv hp; subst hv hp; exact hS
      | j + 1 => simp at hv) W hW 1 rfl
    have H1 := hide (And.intro hP (hF.trans hF2 (fun _ _ h => h)))
    clear hP hF hF2 hS
    generalize M.length = ML at *
    go_wp2_with fail
    go_ret
    first | exact ⟨_, 1, _, rfl, (unhide H1).1, (unhide H1).2⟩ | exact ⟨_, 1, rfl, ⟨_, (unhide H1).1⟩, (unhide H1).2⟩
  · go_enter Tryd.func92, Tryd.ntmps92
    go_wp2_with fail
    go_ret
    first | exact ⟨none, 0, [], rfl, pcs_nil _, Fr.refl _ _⟩ | exact ⟨none, 0, rfl, ⟨[], pcs_nil _⟩, Fr.refl _ _⟩ | exact ⟨none, 0, rfl, [], pcs_nil _, Fr.refl _ _⟩
set_option maxRecDepth 100000 in
set_option maxHeartbeats 1000000 in
/-- The ref's sub. -/
theorem gsub_any (wi : Nat) (n : Nat) : ∀ (ps : List (List Nat)) (I : Nat) (b : Bool) (x : Value) (vs : List Value) (w : World), ps.length ≤ n → ps.length ≤ 8000000 - 1 → 0 < I → I ≤ ps.length → GR w → Pcs w x vs ps → Cp x → (∀ p ∈ ps, p.length ≤ 4000000) → SubSays wi ps I b x w := by
  induction n with
  | zero => intro ps I b x vs w hl _ h0 hI; omega
  | succ n ih =>
    intro ps I b x vs w hl hl8 h0 hIl hr hp hcx hB
    by_cases hne : I = ps.length
    · subst hne
      exact gsub_end wi ps b x vs w hr hp hcx (by omega) hB
    · obtain ⟨xo, xc, rfl⟩ := hp.form
      obtain ⟨g, o, v, rfl, -⟩ := hp.cell (Fr.refl _ _) 0 (by omega)
      have hk1 := hf_lt ps.length (by omega)
      have hk2 := hf_pos ps.length
      have hle : vs.length = ps.length := hp.len
      have hcapx : ps.length ≤ xc := hcx _ _ _ rfl
      have cp1 : Cp (.slice (some ⟨g, o, none⟩) (hf ps.length) xc) := fun _ _ _ e => by cases e; omega
      have cp2 : Cp (.slice (some ⟨g, o + hf ps.length, none⟩) (ps.length - hf ps.length) (xc - hf ps.length)) := fun _ _ _ e => by cases e; omega
      have hP1 := hp.take (hf ps.length) (by omega)
      have hP2 := hp.drop (hf ps.length) hk1
      have hB1 : ∀ p ∈ ps.take (hf ps.length), p.length ≤ 4000000 := fun p h => hB p (List.mem_of_mem_take h)
      have hB2 : ∀ p ∈ ps.drop (hf ps.length), p.length ≤ 4000000 := fun p h => hB p (List.mem_of_mem_drop h)
      have hl1 : (ps.take (hf ps.length)).length = hf ps.length := by rw [List.length_take]; omega
      have hl2 : (ps.drop (hf ps.length)).length = ps.length - hf ps.length := by rw [List.length_drop]
      have hha := half_any ps.length w (by omega) (by omega)
      by_cases hI : I ≤ hf ps.length
      · have hmt := subF_l (wi := wi) (ls := ps) (m := I) (b := b) (by omega) hne hI
        have c1 : ∀ w', Fr (fun _ => False) w w' → SubSays wi (ps.take (hf ps.length)) I b (.slice (some ⟨g, o, none⟩) (hf ps.length) xc) w' := fun w' hfr => ih _ _ _ _ _ w' (by omega) (by omega) (by omega) (by omega) (hr.fr0 hfr) (hP1.fr0 hfr) cp1 hB1
        have c2 : ∀ w', Fr (fun _ => False) w w' → OfSays wi (ps.drop (hf ps.length)) (.slice (some ⟨g, o + hf ps.length, none⟩) (ps.length - hf ps.length) (xc - hf ps.length)) w' := fun w' hfr => of_any wi _ _ _ _ w' (Nat.le_refl _) (by omega) (hr.fr0 hfr) (hP2.fr0 hfr) cp2 hB2
        have hplen : (subF wi (ps.take (hf ps.length)) I b).length ≤ 8000000 := Nat.le_trans (subF_le wi _ _ _ _ (Nat.le_refl _)) (by omega)
        unfold SubSays at c1 ⊢
        unfold OfSays at c2
        rw [hmt]
        generalize subF wi (ps.take (hf ps.length)) I b = P1 at *
        generalize mth wi (ps.drop (hf ps.length)) = M2 at *
        have hwith : ∀ (x y : Value) us w', Pcs w' x us P1 → Sl w' y M2 → _ := fun x y us w' h1 h2 => with_any x y us P1 M2 w' h1 h2 hplen
        have HG := hide (And.intro c1 (And.intro c2 (And.intro hwith hha)))
        clear hr hP1 hP2 c1 c2 hha hmt hB hB1 hB2 hp hl1 hl2 ih cp1 cp2 hcx hwith hplen
        generalize hK : hf ps.length = K at *
        have q1 : (K : Int) ≤ (ps.length : Int) := by omega
        have q2 : (K : Int) ≤ (xc : Int) := by omega
        have q3 : ¬ (I : Int) = (ps.length : Int) := by omega
        have q3b : ((I : Int) == (ps.length : Int)) = false := beq_false_of_ne q3
        have q4 : ¬ ps.length < 2 := by omega
        have q7 : (I : Int) ≤ (K : Int) := by omega
        have q8 : IntKind.i64.wrap ((I : Int) - (K : Int)) = ((I - K : Nat) : Int) ∨ True := .inr trivial
        clear q8 hK
        generalize ps.length = N at *
        go_enter Tryd.func92, Tryd.ntmps92
        go_wp2_with fail
        refine (unhide HG).2.2.2.mono ?_
        rintro e w0 ⟨rfl, rfl⟩
        go_wp2_with fail
        have q5 : ¬ xc = K := by omega
        have q6 : ¬ K = xc := by omega
        go_region_held3 (fun _ => True) (trivial) (first
          | (go_at_call 92; refine ((unhide HG).1 _ ((Fr.refl _ _).drew)).mono ?_; rintro e wA ⟨yA, cA, uA, rfl, sA, fA⟩)
          | (go_at_call 58; refine ((unhide HG).2.1 _ (((Fr.refl _ _).drew).trans fA (fun _ _ h => h))).mono ?_; rintro e wB ⟨yB, cB, rfl, sB, fB⟩)
          | (go_at_call 91; refine ((unhide HG).2.2.1 _ _ _ wB (sA.fr0 fB) sB).mono ?_; rintro e wC ⟨zo, zc, rfl, oC, fC⟩))
        have hFC : Fr (fun _ => False) w0 wC := ((((Fr.refl (fun _ => False) w0).drew).trans fA (fun _ _ h => h)).trans fB (fun _ _ h => h)).trans fC (fun _ _ h => h)
        have HE := hide (And.intro oC hFC)
        clear hFC oC
        go_wp2_with fail
        go_ret
        exact ⟨zo, zc, _, by rw [List.length_append]; rfl, by rw [List.length_append]; exact (unhide HE).1, (unhide HE).2⟩
      · have hmt := subF_r (wi := wi) (ls := ps) (m := I) (b := b) (by omega) hne hI
        have c1 : ∀ w', Fr (fun _ => False) w w' → SubSays wi (ps.drop (hf ps.length)) (I - hf ps.length) false (.slice (some ⟨g, o + hf ps.length, none⟩) (ps.length - hf ps.length) (xc - hf ps.length)) w' := fun w' hfr => ih _ _ _ _ _ w' (by omega) (by omega) (by omega) (by omega) (hr.fr0 hfr) (hP2.fr0 hfr) cp2 hB2
        have c2 : ∀ w', Fr (fun _ => False) w w' → OfSays wi (ps.take (hf ps.length)) (.slice (some ⟨g, o, none⟩) (hf ps.length) xc) w' := fun w' hfr => of_any wi _ _ _ _ w' (Nat.le_refl _) (by omega) (hr.fr0 hfr) (hP1.fr0 hfr) cp1 hB1
        have hplen : (subF wi (ps.drop (hf ps.length)) (I - hf ps.length) false).length ≤ 8000000 := Nat.le_trans (subF_le wi _ _ _ _ (Nat.le_refl _)) (by omega)
        unfold SubSays at c1 ⊢
        unfold OfSays at c2
        rw [hmt]
        generalize subF wi (ps.drop (hf ps.length)) (I - hf ps.length) false = P1 at *
        generalize mth wi (ps.take (hf ps.length)) = M2 at *
        have hwith : ∀ (x y : Value) us w', Pcs w' x us P1 → Sl w' y M2 → _ := fun x y us w' h1 h2 => with_any x y us P1 M2 w' h1 h2 hplen
        have HG := hide (And.intro c1 (And.intro c2 (And.intro hwith hha)))
        clear hr hP1 hP2 c1 c2 hha hmt hB hB1 hB2 hp hl1 hl2 ih cp1 cp2 hcx hwith hplen
        generalize hK : hf ps.length = K at *
        have q1 : (K : Int) ≤ (ps.length : Int) := by omega
        have q2 : (K : Int) ≤ (xc : Int) := by omega
        have q3 : ¬ (I : Int) = (ps.length : Int) := by omega
        have q3b : ((I : Int) == (ps.length : Int)) = false := beq_false_of_ne q3
        have q4 : ¬ ps.length < 2 := by omega
        have q7 : ¬ (I : Int) ≤ (K : Int) := by omega
        have q8 : IntKind.i64.wrap ((I : Int) - (K : Int)) = ((I - K : Nat) : Int) ∨ True := .inr trivial
        have q9 : IntKind.i64.wrap ((I : Int) - (K : Int)) = (I : Int) - (K : Int) := by rw [IntKind.wrap_i64]; omega
        have q10 : ((I - K : Nat) : Int) = (I : Int) - (K : Int) := by omega
        rw [q10] at HG
        clear q8 hK q10
        generalize ps.length = N at *
        go_enter Tryd.func92, Tryd.ntmps92
        go_wp2_with fail
        refine (unhide HG).2.2.2.mono ?_
        rintro e w0 ⟨rfl, rfl⟩
        go_wp2_with fail
        have q5 : ¬ xc = K := by omega
        have q6 : ¬ K = xc := by omega
        go_region_held3 (fun _ => True) (trivial) (first
          | (go_at_call 92; refine ((unhide HG).1 _ ((Fr.refl _ _).drew)).mono ?_; rintro e wA ⟨yA, cA, uA, rfl, sA, fA⟩)
          | (go_at_call 58; refine ((unhide HG).2.1 _ (((Fr.refl _ _).drew).trans fA (fun _ _ h => h))).mono ?_; rintro e wB ⟨yB, cB, rfl, sB, fB⟩)
          | (go_at_call 91; refine ((unhide HG).2.2.1 _ _ _ wB (sA.fr0 fB) sB).mono ?_; rintro e wC ⟨zo, zc, rfl, oC, fC⟩))
        have hFC : Fr (fun _ => False) w0 wC := ((((Fr.refl (fun _ => False) w0).drew).trans fA (fun _ _ h => h)).trans fB (fun _ _ h => h)).trans fC (fun _ _ h => h)
        have HE := hide (And.intro oC hFC)
        clear hFC oC
        go_wp2_with fail
        go_ret
        exact ⟨zo, zc, _, by rw [List.length_append]; rfl, by rw [List.length_append]; exact (unhide HE).1, (unhide HE).2⟩
end Go.Proofs.YtocdnomfpgdglaaDoor

namespace Go.Proofs.YtocdnomfpgdglaaDoor
open Go.RowKit

/-- Whether hashes say of a part that the older root and the root come out of them. -/
def bodyQ (wi n ef en : Nat) (r : List Nat) (qs : List (List Nat)) (old root : List Nat) : Bool :=
  decide (qs.length = dep 0 n ef en) && (decide (olderv wi r 0 n ef en qs = old) && decide (topv wi r 0 n ef en qs = root))
def prfQ (wi n m : Nat) (old root : List Nat) (ps : List (List Nat)) : Bool :=
  if (endF 0 n m).1 = 0 then bodyQ wi n (endF 0 n m).1 (endF 0 n m).2 old ps old root
  else match ps with
    | [] => false
    | p :: q => bodyQ wi n (endF 0 n m).1 (endF 0 n m).2 p q old root
/-- Whether CheckProof takes a proof. -/
def chkQ (j m n : Int) (old root : List Nat) (ps : List (List Nat)) : Bool :=
  decide (1 ≤ j ∧ j ≤ 32) && (decide (0 ≤ m) && (decide (m ≤ n) && (wdq j [old, root] && (wdq j ps &&
    (if m = 0 then decide (ps = []) && (decide (old = sm j []) && (decide (0 < n) || decide (root = sm j []))) else prfQ j.toNat n.toNat m.toNat old root ps)))))
/-- The claim that a proof makes. -/
theorem ofProof_any (wi m n : Nat) (h0 : 0 < m) (hm : m ≤ n) (hn : n < 9223372036854775808) (ov x : Value) (old root : List Nat) (vs : List Value) (ps : List (List Nat)) (w : World) (ho : Sl w ov old) (hp : Pcs w x vs ps) (hcx : Cp x) (how : old.length = wi) (hpw : ∀ p ∈ ps, p.length = wi) (h : (endF 0 n m).1 = 0 ∨ ps ≠ []) :
    ∃ (ro : Option Addr) (rn rc : Nat) (yo : Option Addr) (yc : Nat) (r : List Nat) (us : List Value) (qs : List (List Nat)), Sl w (.slice ro rn rc) r ∧ r.length = wi ∧ Pcs w (.slice yo qs.length yc) us qs ∧ Cp (.slice yo qs.length yc) ∧ (∀ p ∈ qs, p.length = wi) ∧ prfQ wi n m old root ps = bodyQ wi n (endF 0 n m).1 (endF 0 n m).2 r qs old root ∧
      ∀ w', Fr (fun _ => False) w w' → Calls Tryd.prog 70 #[.int .i64 wi, .int .i64 m, .int .i64 n, ov, x] w' fun e w'' => e = .returned (.tuple #[cv wi (endF 0 n m).1 (endF 0 n m).2 (.slice ro rn rc) (.slice yo qs.length yc), .bool true]) ∧ Fr (fun _ => False) w' w'' := by
  obtain ⟨oo, oc, rfl⟩ := ho.form
  obtain ⟨xo, xc, rfl⟩ := hp.form
  by_cases he : (endF 0 n m).1 = 0
  · exact ⟨oo, old.length, oc, xo, xc, old, vs, ps, ho, how, hp, hcx, hpw, by unfold prfQ; rw [if_pos he], fun w' _ => ofProof_l wi m n h0 hm hn he oo _ oc xo _ xc w'⟩
  · have hne := h.resolve_left he
    match ps, hne with
    | p :: q, _ =>
      obtain ⟨g, o, vo, vc, rfl, hc, hs⟩ := hp.nth (Fr.refl _ _) 0 (by simp)
      have hcap : q.length + 1 ≤ xc := hcx _ _ _ rfl
      simp only [List.getElem_cons_zero, Nat.add_zero] at hc hs
      have e : prfQ wi n m old root (p :: q) = bodyQ wi n (endF 0 n m).1 (endF 0 n m).2 p q old root := by unfold prfQ; rw [if_neg he]
      by_cases h1 : xc = 1
      · have hq : q = [] := List.length_eq_zero_iff.1 (by omega)
        subst h1 hq
        refine ⟨vo, p.length, vc, some ⟨g, o, none⟩, 0, p, [], [], hs, hpw p (by simp), ⟨rfl, .inr (.inl ⟨_, _, rfl, rfl⟩), (fun j v p h => by simp at h), (fun p h => by cases h)⟩, (fun _ _ _ e => by cases e; exact Nat.le_refl _), (fun p h => by cases h), e, fun w' hf => ?_⟩
        exact ofProof_r1 wi m n h0 hm hn he oo _ oc g o vo _ vc w' ((hf.cell (lt_of_cell hc) (fun h => h)).trans hc)
      · have hP : Pcs w (.slice (some ⟨g, o + 1, none⟩) q.length (xc - 1)) (vs.drop 1) q := by
          by_cases hq : q.length = 0
          · have hq0 : q = [] := List.length_eq_zero_iff.1 hq
            subst hq0
            have hv : vs.drop 1 = [] := List.length_eq_zero_iff.1 (by rw [List.length_drop, hp.len]; rfl)
            rw [hv]
            exact ⟨rfl, .inr (.inl ⟨_, _, rfl, rfl⟩), (fun j v p h => by simp at h), (fun p h => by cases h)⟩
          · exact hp.drop 1 (by simp; omega)
        refine ⟨vo, p.length, vc, some ⟨g, o + 1, none⟩, xc - 1, p, vs.drop 1, q, hs, hpw p (by simp), hP, fun _ _ _ e => by cases e; omega, fun p' h => hpw p' (by simp [h]), e, fun w' hf => ?_⟩
        exact ofProof_r wi m n h0 hm hn he oo _ oc g o q.length xc vo _ vc w' ((hf.cell (lt_of_cell hc) (fun h => h)).trans hc) hcap h1
end Go.Proofs.YtocdnomfpgdglaaDoor

namespace Go.Proofs.YtocdnomfpgdglaaDoor
open Go.RowKit

set_option maxRecDepth 100000 in
set_option maxHeartbeats 2000000 in
/-- CheckProof, from nothing on. -/
theorem cpr_zero (wi : Nat) (hw1 : 1 ≤ wi) (hw32 : wi ≤ 32) (N : Nat) (oo : Option Addr) (oc : Nat) (rr : Option Addr) (rc : Nat) (xo : Option Addr) (xc : Nat) (old root : List Nat) (ps : List (List Nat)) (w : World) (hg : GS w) (ho : Sl w (.slice oo old.length oc) old) (hr : Sl w (.slice rr root.length rc) root)
    (W1 : World) (hW1 : w.alloc (.cells #[.slice oo old.length oc, .slice rr root.length rc] 26) = W1) (hF1 : Fr (fun _ => False) w W1)
    (hwd1 : Calls Tryd.prog 49 #[.int .i64 wi, .slice (some ⟨w.heap.size, 0, none⟩) 2 2] W1 fun e w' => e = .returned (.bool true) ∧ w' = W1)
    (hwd2 : Calls Tryd.prog 49 #[.int .i64 wi, .slice xo ps.length xc] W1 fun e w' => e = .returned (.bool true) ∧ w' = W1) :
    Calls Tryd.prog 36 #[.int .i64 wi, .int .i64 0, .int .i64 N, .slice oo old.length oc, .slice rr root.length rc, .slice xo ps.length xc] w fun e w' => e = .returned (.bool (decide (ps = []) && (decide (old = sm wi []) && (decide (0 < (N : Int)) || decide (root = sm wi []))))) ∧ Fr (fun _ => False) w w' := by
  have hsum : ∀ w', GS w' → Calls Tryd.prog 46 #[.int .i64 wi, .slice none 0 0] w' fun e w'' => ∃ yo, e = .returned (.slice yo wi wi) ∧ Sl w'' (.slice yo wi wi) (sm wi []) ∧ Fr (fun _ => False) w' w'' := fun w' hg => by
    have := sum_O (wi : Int) [] (.slice none 0 0) w' hg (.inl ⟨rfl, rfl⟩) (fun _ h => by cases h) (by simp) (fun _ _ _ e => by cases e; exact Nat.le_refl _) (fun _ _ _ _ e => by cases e)
    have hl := sm_wid wi hw1 hw32 []
    refine this.mono ?_
    rintro e w'' ⟨yo, rfl, hO⟩
    have hs := hO.sl (sm_lt _ _)
    rw [hl] at hs ⊢
    exact ⟨yo, rfl, hs, hO.fr⟩
  have HM := hide (show 1 ≤ (wi : Int) ∧ (wi : Int) ≤ 32 by omega)
  have HC := hide (And.intro hwd1 (And.intro hwd2 (And.intro hF1 (And.intro (hg.fr0 hF1) (And.intro (ho.fr0 hF1) (And.intro (hr.fr0 hF1) hsum))))))
  have q0 : ¬ (N : Int) < 0 := by omega
  clear hwd1 hwd2 hF1 hg ho hr hsum hw1 hw32
  generalize sm (wi : Int) [] = SM at *
  by_cases hps : ps = []
  · subst hps
    simp only [List.length_nil, decide_true, Bool.true_and] at HC ⊢
    obtain ⟨B1, hB1⟩ : ∃ B1, decide (old = SM) = B1 := ⟨_, rfl⟩
    obtain ⟨B2, hB2⟩ : ∃ B2, decide (root = SM) = B2 := ⟨_, rfl⟩
    rw [hB1, hB2]
    have HB := hide (And.intro hB1 hB2)
    clear hB1 hB2
    generalize old.length = OL at *
    generalize root.length = RL at *
    cases B1 with
    | false =>
      rw [Bool.false_and]
      go_enter Tryd.func36, Tryd.ntmps36
      go_wp2_with (go_at_call 48; refine (maybe_any wi _).mono ?_; rintro e' w' ⟨rfl, hw'⟩; rw [hw', decide_eq_true (unhide HM)])
      refine (unhide HC).1.mono ?_
      rintro e' w2 ⟨rfl, rfl⟩
      go_wp2_with fail
      refine (unhide HC).2.1.mono ?_
      rintro e' w3 ⟨rfl, rfl⟩
      go_wp2_with fail
      refine ((unhide HC).2.2.2.2.2.2 _ (unhide HC).2.2.2.1).mono ?_
      rintro e' w4 ⟨zo, rfl, hS, hF⟩
      have HS := hide (And.intro hS (And.intro ((unhide HC).2.2.1.trans hF (fun _ _ h => h)) (And.intro ((unhide HC).2.2.2.2.1.fr0 hF) ((unhide HC).2.2.2.2.2.1.fr0 hF))))
      clear hS hF
      go_wp2_with fail
      refine (beq_sl _ _ _ _ _ (unhide HS).2.2.1 (unhide HS).1).mono ?_
      rintro e' w5 ⟨rfl, rfl⟩
      rw [(unhide HB).1]
      go_wp2_with fail
      go_ret
      exact ⟨rfl, (unhide HS).2.1⟩
    | true =>
      rw [Bool.true_and]
      by_cases hN : 0 < N
      · have q1 : (0 : Int) < (N : Int) := by omega
        rw [decide_eq_true q1, Bool.true_or]
        go_enter Tryd.func36, Tryd.ntmps36
        go_wp2_with (go_at_call 48; refine (maybe_any wi _).mono ?_; rintro e' w' ⟨rfl, hw'⟩; rw [hw', decide_eq_true (unhide HM)])
        refine (unhide HC).1.mono ?_
        rintro e' w2 ⟨rfl, rfl⟩
        go_wp2_with fail
        refine (unhide HC).2.1.mono ?_
        rintro e' w3 ⟨rfl, rfl⟩
        go_wp2_with fail
        refine ((unhide HC).2.2.2.2.2.2 _ (unhide HC).2.2.2.1).mono ?_
        rintro e' w4 ⟨zo, rfl, hS, hF⟩
        have HS := hide (And.intro hS (And.intro ((unhide HC).2.2.1.trans hF (fun _ _ h => h)) (And.intro ((unhide HC).2.2.2.2.1.fr0 hF) ((unhide HC).2.2.2.2.2.1.fr0 hF))))
        clear hS hF
        go_wp2_with fail
        refine (beq_sl _ _ _ _ _ (unhide HS).2.2.1 (unhide HS).1).mono ?_
        rintro e' w5 ⟨rfl, rfl⟩
        rw [(unhide HB).1]
        go_wp2_with fail
        go_ret
        exact ⟨rfl, (unhide HS).2.1⟩
      · have hN0 : N = 0 := by omega
        subst hN0
        have e0 : decide (0 < ((0 : Nat) : Int)) = false := rfl
        rw [e0, Bool.false_or]
        clear e0 q0 hN
        go_enter Tryd.func36, Tryd.ntmps36
        go_wp2_with (go_at_call 48; refine (maybe_any wi _).mono ?_; rintro e' w' ⟨rfl, hw'⟩; rw [hw', decide_eq_true (unhide HM)])
        refine (unhide HC).1.mono ?_
        rintro e' w2 ⟨rfl, rfl⟩
        go_wp2_with fail
        refine (unhide HC).2.1.mono ?_
        rintro e' w3 ⟨rfl, rfl⟩
        go_wp2_with fail
        refine ((unhide HC).2.2.2.2.2.2 _ (unhide HC).2.2.2.1).mono ?_
        rintro e' w4 ⟨zo, rfl, hS, hF⟩
        have HS := hide (And.intro hS (And.intro ((unhide HC).2.2.1.trans hF (fun _ _ h => h)) (And.intro ((unhide HC).2.2.2.2.1.fr0 hF) ((unhide HC).2.2.2.2.2.1.fr0 hF))))
        clear hS hF
        go_wp2_with fail
        refine (beq_sl _ _ _ _ _ (unhide HS).2.2.1 (unhide HS).1).mono ?_
        rintro e' w5 ⟨rfl, rfl⟩
        rw [(unhide HB).1]
        go_wp2_with fail
        refine (beq_sl _ _ _ _ _ (unhide HS).2.2.2 (unhide HS).1).mono ?_
        rintro e' w6 ⟨rfl, rfl⟩
        rw [(unhide HB).2]
        go_wp2_with fail
        go_ret
        exact ⟨rfl, (unhide HS).2.1⟩
  · rw [decide_eq_false hps, Bool.false_and]
    have hl : ¬ ps.length = 0 := fun h => hps (List.length_eq_zero_iff.1 h)
    have q1 : ((ps.length : Int) == 0) = false := beq_false_of_ne (by omega)
    generalize ps.length = PL at *
    generalize old.length = OL at *
    generalize root.length = RL at *
    go_enter Tryd.func36, Tryd.ntmps36
    go_wp2_with (go_at_call 48; refine (maybe_any wi _).mono ?_; rintro e' w' ⟨rfl, hw'⟩; rw [hw', decide_eq_true (unhide HM)])
    refine (unhide HC).1.mono ?_
    rintro e' w2 ⟨rfl, rfl⟩
    go_wp2_with fail
    refine (unhide HC).2.1.mono ?_
    rintro e' w3 ⟨rfl, rfl⟩
    go_wp2_with fail
    refine ((unhide HC).2.2.2.2.2.2 _ (unhide HC).2.2.2.1).mono ?_
    rintro e' w4 ⟨zo, rfl, hS, hF⟩
    have HS := hide ((unhide HC).2.2.1.trans hF (fun _ _ h => h))
    clear hS hF
    go_wp2_with fail
    go_ret
    exact ⟨rfl, unhide HS⟩
end Go.Proofs.YtocdnomfpgdglaaDoor

namespace Go.Proofs.YtocdnomfpgdglaaDoor
open Go.RowKit

set_option maxRecDepth 100000 in
set_option maxHeartbeats 4000000 in
/-- CheckProof, of a claim. -/
theorem cpr_yes (wi m N tf tn : Nat) (hw : 1 ≤ wi ∧ wi ≤ 32) (hm0 : 0 < m) (hmN : m ≤ N) (oo : Option Addr) (on oc : Nat) (rr : Option Addr) (rl rrc : Nat) (xo : Option Addr) (xn xc : Nat) (ro : Option Addr) (rn rc : Nat) (yo : Option Addr) (yn yc D : Nat) (old root OV TV : List Nat) (w W1 : World) (hW1 : w.alloc (.cells #[.slice oo on oc, .slice rr rl rrc] 26) = W1) (hF1 : Fr (fun _ => False) w W1)
    (ho : Sl w (.slice oo on oc) old) (hr : Sl w (.slice rr rl rrc) root)
    (hwd1 : Calls Tryd.prog 49 #[.int .i64 wi, .slice (some ⟨w.heap.size, 0, none⟩) 2 2] W1 fun e w' => e = .returned (.bool true) ∧ w' = W1)
    (hwd2 : Calls Tryd.prog 49 #[.int .i64 wi, .slice xo xn xc] W1 fun e w' => e = .returned (.bool true) ∧ w' = W1)
    (hop : Calls Tryd.prog 70 #[.int .i64 wi, .int .i64 m, .int .i64 N, .slice oo on oc, .slice xo xn xc] W1 fun e w'' => e = .returned (.tuple #[cv wi tf tn (.slice ro rn rc) (.slice yo yn yc), .bool true]) ∧ Fr (fun _ => False) W1 w'')
    (hft : ∀ w', Calls Tryd.prog 51 #[cv wi tf tn (.slice ro rn rc) (.slice yo yn yc), sv 0 N] w' fun e w'' => e = .returned (.bool (decide (yn = D))) ∧ Fr (fun _ => False) w' w'')
    (hod : yn = D → ∀ w', Fr (fun _ => False) w w' → Calls Tryd.prog 71 #[cv wi tf tn (.slice ro rn rc) (.slice yo yn yc), sv 0 N] w' fun e w'' => ∃ uo un uc, e = .returned (.slice uo un uc) ∧ Sl w'' (.slice uo un uc) OV ∧ Fr (fun _ => False) w' w'')
    (htp : yn = D → ∀ w', Fr (fun _ => False) w w' → Calls Tryd.prog 53 #[cv wi tf tn (.slice ro rn rc) (.slice yo yn yc), sv 0 N] w' fun e w'' => ∃ uo un uc, e = .returned (.slice uo un uc) ∧ Sl w'' (.slice uo un uc) TV ∧ Fr (fun _ => False) w' w'') :
    Calls Tryd.prog 36 #[.int .i64 wi, .int .i64 m, .int .i64 N, .slice oo on oc, .slice rr rl rrc, .slice xo xn xc] w fun e w' => e = .returned (.bool (decide (yn = D) && (decide (OV = old) && decide (TV = root)))) ∧ Fr (fun _ => False) w w' := by
  have HM := hide (show 1 ≤ (wi : Int) ∧ (wi : Int) ≤ 32 by omega)
  have q1 : ¬ (m : Int) < 0 := by omega
  have q2 : ¬ (N : Int) < (m : Int) := by omega
  have q3 : ((m : Int) == 0) = false := beq_false_of_ne (by omega)
  have q4 : ¬ N < m := by omega
  have q5 : ¬ m = 0 := by omega
  clear hw hm0 hmN
  unfold cv sv at *
  have e0 : ((0 : Nat) : Int) = 0 := rfl
  simp only [e0] at hft hod htp
  clear e0
  by_cases hD : yn = D
  · rw [decide_eq_true hD] at hft ⊢
    rw [Bool.true_and]
    have ho2 := hod hD
    have ht2 := htp hD
    obtain ⟨B1, hB1⟩ : ∃ B1, decide (OV = old) = B1 := ⟨_, rfl⟩
    obtain ⟨B2, hB2⟩ : ∃ B2, decide (TV = root) = B2 := ⟨_, rfl⟩
    rw [hB1, hB2]
    have HB0 := hide (And.intro hB1 hB2)
    have HC := hide (And.intro hwd1 (And.intro hwd2 (And.intro hop (And.intro hF1 (And.intro hft (And.intro ho2 (And.intro ht2 (And.intro ho hr))))))))
    clear hwd1 hwd2 hop hft ho2 ht2 ho hr hod htp hF1 hB1 hB2 hD
    cases B1 with
    | false =>
      rw [Bool.false_and]
      go_enter Tryd.func36, Tryd.ntmps36
      go_wp2_with (go_at_call 48; refine (maybe_any wi _).mono ?_; rintro e' w' ⟨rfl, hw'⟩; rw [hw', decide_eq_true (unhide HM)])
      refine (unhide HC).1.mono ?_
      rintro e' w2 ⟨rfl, rfl⟩
      go_wp2_with fail
      refine (unhide HC).2.1.mono ?_
      rintro e' w3 ⟨rfl, rfl⟩
      go_wp2_with fail
      refine (unhide HC).2.2.1.mono ?_
      rintro e' wA ⟨rfl, hFA⟩
      have HA := hide ((unhide HC).2.2.2.1.trans hFA (fun _ _ h => h))
      clear hFA
      go_wp2_with fail
      obtain ⟨W2, hW2⟩ : ∃ W2, (wA.alloc (.cells #[.int .i64 wi, .int .i64 tf, .int .i64 tn, .slice ro rn rc, .slice yo yn yc] 71)).alloc (.cells #[.int .i64 0, .int .i64 N] 69) = W2 := ⟨_, rfl⟩
      rw [hW2]
      obtain ⟨⟨a0, a1, a2, a3, a4⟩, b0, b1, hF2⟩ := box52 wA _ _ _ _ _ _ _ _ _ W2 hW2
      refine ((unhide HC).2.2.2.2.1 _).mono ?_
      rintro e' wB ⟨rfl, hFB⟩
      have c0 := (hFB.cell (lt_of_cell a0) (fun h => h)).trans a0
      have c1 := (hFB.cell (lt_of_cell a1) (fun h => h)).trans a1
      have c2 := (hFB.cell (lt_of_cell a2) (fun h => h)).trans a2
      have c3 := (hFB.cell (lt_of_cell a3) (fun h => h)).trans a3
      have c4 := (hFB.cell (lt_of_cell a4) (fun h => h)).trans a4
      have d0 := (hFB.cell (lt_of_cell b0) (fun h => h)).trans b0
      have d1 := (hFB.cell (lt_of_cell b1) (fun h => h)).trans b1
      have HB := hide (((unhide HA).trans hF2 (fun _ _ h => h)).trans hFB (fun _ _ h => h))
      clear hF2 hFB hW2 a0 a1 a2 a3 a4 b0 b1 HA
      generalize wA.heap.size = P at *
      go_wp2_with fail
      refine ((unhide HC).2.2.2.2.2.1 _ (unhide HB)).mono ?_
      rintro e' wC ⟨uo, un, uc, rfl, hS, hFC⟩
      have HS := hide (And.intro hS ((unhide HB).trans hFC (fun _ _ h => h)))
      clear hS hFC
      go_wp2_with fail
      refine (beq_sl _ _ _ _ _ (unhide HS).1 ((unhide HC).2.2.2.2.2.2.2.1.fr0 (unhide HS).2)).mono ?_
      rintro e' wD ⟨rfl, rfl⟩
      rw [(unhide HB0).1]
      go_wp2_with fail
      go_ret
      exact ⟨rfl, (unhide HS).2⟩
    | true =>
      rw [Bool.true_and]
      go_enter Tryd.func36, Tryd.ntmps36
      go_wp2_with (go_at_call 48; refine (maybe_any wi _).mono ?_; rintro e' w' ⟨rfl, hw'⟩; rw [hw', decide_eq_true (unhide HM)])
      refine (unhide HC).1.mono ?_
      rintro e' w2 ⟨rfl, rfl⟩
      go_wp2_with fail
      refine (unhide HC).2.1.mono ?_
      rintro e' w3 ⟨rfl, rfl⟩
      go_wp2_with fail
      refine (unhide HC).2.2.1.mono ?_
      rintro e' wA ⟨rfl, hFA⟩
      have HA := hide ((unhide HC).2.2.2.1.trans hFA (fun _ _ h => h))
      clear hFA
      go_wp2_with fail
      obtain ⟨W2, hW2⟩ : ∃ W2, (wA.alloc (.cells #[.int .i64 wi, .int .i64 tf, .int .i64 tn, .slice ro rn rc, .slice yo yn yc] 71)).alloc (.cells #[.int .i64 0, .int .i64 N] 69) = W2 := ⟨_, rfl⟩
      rw [hW2]
      obtain ⟨⟨a0, a1, a2, a3, a4⟩, b0, b1, hF2⟩ := box52 wA _ _ _ _ _ _ _ _ _ W2 hW2
      refine ((unhide HC).2.2.2.2.1 _).mono ?_
      rintro e' wB ⟨rfl, hFB⟩
      have c0 := (hFB.cell (lt_of_cell a0) (fun h => h)).trans a0
      have c1 := (hFB.cell (lt_of_cell a1) (fun h => h)).trans a1
      have c2 := (hFB.cell (lt_of_cell a2) (fun h => h)).trans a2
      have c3 := (hFB.cell (lt_of_cell a3) (fun h => h)).trans a3
      have c4 := (hFB.cell (lt_of_cell a4) (fun h => h)).trans a4
      have d0 := (hFB.cell (lt_of_cell b0) (fun h => h)).trans b0
      have d1 := (hFB.cell (lt_of_cell b1) (fun h => h)).trans b1
      have HB := hide (((unhide HA).trans hF2 (fun _ _ h => h)).trans hFB (fun _ _ h => h))
      clear hF2 hFB hW2 a0 a1 a2 a3 a4 b0 b1 HA
      generalize wA.heap.size = P at *
      go_wp2_with fail
      refine ((unhide HC).2.2.2.2.2.1 _ (unhide HB)).mono ?_
      rintro e' wC ⟨uo, un, uc, rfl, hS, hFC⟩
      have f0 := (hFC.cell (lt_of_cell c0) (fun h => h)).trans c0
      have f1 := (hFC.cell (lt_of_cell c1) (fun h => h)).trans c1
      have f2 := (hFC.cell (lt_of_cell c2) (fun h => h)).trans c2
      have f3 := (hFC.cell (lt_of_cell c3) (fun h => h)).trans c3
      have f4 := (hFC.cell (lt_of_cell c4) (fun h => h)).trans c4
      have g0 := (hFC.cell (lt_of_cell d0) (fun h => h)).trans d0
      have g1 := (hFC.cell (lt_of_cell d1) (fun h => h)).trans d1
      have HS := hide (And.intro hS ((unhide HB).trans hFC (fun _ _ h => h)))
      clear hS hFC c0 c1 c2 c3 c4 d0 d1
      go_wp2_with fail
      refine (beq_sl _ _ _ _ _ (unhide HS).1 ((unhide HC).2.2.2.2.2.2.2.1.fr0 (unhide HS).2)).mono ?_
      rintro e' wD ⟨rfl, rfl⟩
      rw [(unhide HB0).1]
      go_wp2_with fail
      refine ((unhide HC).2.2.2.2.2.2.1 _ (unhide HS).2).mono ?_
      rintro e' wE ⟨to, tl, tc, rfl, hS, hFE⟩
      have HT := hide (And.intro hS ((unhide HS).2.trans hFE (fun _ _ h => h)))
      clear hS hFE
      go_wp2_with fail
      refine (beq_sl _ _ _ _ _ (unhide HT).1 ((unhide HC).2.2.2.2.2.2.2.2.fr0 (unhide HT).2)).mono ?_
      rintro e' wF ⟨rfl, rfl⟩
      rw [(unhide HB0).2]
      go_wp2_with fail
      go_ret
      exact ⟨rfl, (unhide HT).2⟩
  · rw [decide_eq_false hD] at hft ⊢
    rw [Bool.false_and]
    have HC := hide (And.intro hwd1 (And.intro hwd2 (And.intro hop (And.intro hF1 hft))))
    clear hwd1 hwd2 hop hft ho hr hod htp hF1 hD
    go_enter Tryd.func36, Tryd.ntmps36
    go_wp2_with (go_at_call 48; refine (maybe_any wi _).mono ?_; rintro e' w' ⟨rfl, hw'⟩; rw [hw', decide_eq_true (unhide HM)])
    refine (unhide HC).1.mono ?_
    rintro e' w2 ⟨rfl, rfl⟩
    go_wp2_with fail
    refine (unhide HC).2.1.mono ?_
    rintro e' w3 ⟨rfl, rfl⟩
    go_wp2_with fail
    refine (unhide HC).2.2.1.mono ?_
    rintro e' wA ⟨rfl, hFA⟩
    have HA := hide ((unhide HC).2.2.2.1.trans hFA (fun _ _ h => h))
    clear hFA
    go_wp2_with fail
    refine ((unhide HC).2.2.2.2 _).mono ?_
    rintro e' wB ⟨rfl, hFB⟩
    have HB := hide ((unhide HA).trans ((((Fr.refl _ _).alloc _).alloc _).trans hFB (fun _ _ h => h)) (fun _ _ h => h))
    clear hFB
    go_wp2_with fail
    go_ret
    exact ⟨rfl, unhide HB⟩
end Go.Proofs.YtocdnomfpgdglaaDoor

namespace Go.Proofs.YtocdnomfpgdglaaDoor
open Go.RowKit

set_option maxRecDepth 100000 in
set_option maxHeartbeats 2000000 in
/-- merkle.CheckProof. -/
theorem checkProof_any (j m n : Int) (ov rv x : Value) (old root : List Nat) (vs : List Value) (ps : List (List Nat)) (w : World) (hg : GS w) (ho : Sl w ov old) (hr : Sl w rv root) (hp : Pcs w x vs ps) (hcx : Cp x) (hn : n < 9223372036854775808) (hps : ps.length < 4611686018427387904) :
    Calls Tryd.prog 36 #[.int .i64 j, .int .i64 m, .int .i64 n, ov, rv, x] w fun e w' => e = .returned (.bool (chkQ j m n old root ps)) ∧ Fr (fun _ => False) w w' := by
  obtain ⟨oo, oc, rfl⟩ := ho.form
  obtain ⟨rr, rc, rfl⟩ := hr.form
  obtain ⟨xo, xc, rfl⟩ := hp.form
  by_cases h1o : j < 1 ∨ 32 < j
  · have h1 : ¬ (1 ≤ j ∧ j ≤ 32) := by omega
    have hB : chkQ j m n old root ps = false := by rw [chkQ, decide_eq_false h1]; rfl
    rw [hB]
    have HM := hide h1
    clear hg ho hr hp hcx hn hps hB h1 h1o
    generalize old.length = LL at *
    generalize root.length = RL at *
    generalize ps.length = PL at *
    go_enter Tryd.func36, Tryd.ntmps36
    go_wp2_with (go_at_call 48; refine (maybe_any j _).mono ?_; rintro e' w' ⟨rfl, hw'⟩; rw [hw', decide_eq_false (unhide HM)])
    go_ret
    exact ⟨rfl, Fr.refl _ _⟩
  · have h1 : 1 ≤ j ∧ j ≤ 32 := by omega
    clear h1o
    have HM := hide h1
    by_cases h2' : m < 0
    · have h2 : ¬ 0 ≤ m := by omega
      have hB : chkQ j m n old root ps = false := by rw [chkQ, decide_eq_true h1, decide_eq_false h2]; rfl
      rw [hB]
      clear hg ho hr hp hcx hn hps hB h1
      generalize old.length = LL at *
      generalize root.length = RL at *
      generalize ps.length = PL at *
      go_enter Tryd.func36, Tryd.ntmps36
      go_wp2_with (go_at_call 48; refine (maybe_any j _).mono ?_; rintro e' w' ⟨rfl, hw'⟩; rw [hw', decide_eq_true (unhide HM)])
      go_ret
      exact ⟨rfl, Fr.refl _ _⟩
    · have h2 : 0 ≤ m := by omega
      by_cases h3' : n < m
      · have h3 : ¬ m ≤ n := by omega
        have hB : chkQ j m n old root ps = false := by rw [chkQ, decide_eq_true h1, decide_eq_true h2, decide_eq_false h3]; rfl
        rw [hB]
        clear hg ho hr hp hcx hn hps hB h1
        generalize old.length = LL at *
        generalize root.length = RL at *
        generalize ps.length = PL at *
        go_enter Tryd.func36, Tryd.ntmps36
        go_wp2_with (go_at_call 48; refine (maybe_any j _).mono ?_; rintro e' w' ⟨rfl, hw'⟩; rw [hw', decide_eq_true (unhide HM)])
        go_ret
        exact ⟨rfl, Fr.refl _ _⟩
      · have h3 : m ≤ n := by omega
        clear h2' h3'
        obtain ⟨wi, rfl⟩ : ∃ k : Nat, j = (k : Int) := ⟨j.toNat, by omega⟩
        obtain ⟨I, rfl⟩ : ∃ k : Nat, m = (k : Int) := ⟨m.toNat, by omega⟩
        obtain ⟨N, rfl⟩ : ∃ k : Nat, n = (k : Int) := ⟨n.toNat, by omega⟩
        have h2' : ¬ (I : Int) < 0 := by omega
        have h3' : ¬ (N : Int) < (I : Int) := by omega
        have h4' : ¬ N < I := by omega
        obtain ⟨W1, hW1⟩ : ∃ W1, w.alloc (.cells #[.slice oo old.length oc, .slice rr root.length rc] 26) = W1 := ⟨_, rfl⟩
        have hF1 : Fr (fun _ => False) w W1 := by rw [← hW1]; exact (Fr.refl _ _).alloc _
        have hwd1 := wide_any wi _ _ [old, root] W1 (pcs2 ho hr W1 hW1) (by simp)
        have hwd2 := wide_any wi _ vs ps W1 (hp.fr0 hF1) hps
        have hce : chkQ wi I N old root ps = (wdq wi [old, root] && (wdq wi ps && (if (I : Int) = 0 then decide (ps = []) && (decide (old = sm wi []) && (decide (0 < (N : Int)) || decide (root = sm wi []))) else prfQ wi N I old root ps))) := by
          rw [chkQ, decide_eq_true h1, decide_eq_true h2, decide_eq_true h3]; rfl
        rw [hce]
        clear hce
        cases hq1 : wdq wi [old, root] with
        | false =>
          rw [hq1] at hwd1
          rw [Bool.false_and]
          have HC := hide (And.intro hwd1 hF1)
          clear hg ho hr hp hcx hn hps h1 h2 h3 hwd1 hwd2 hF1 hq1
          generalize old.length = LL at *
          generalize root.length = RL at *
          generalize ps.length = PL at *
          go_enter Tryd.func36, Tryd.ntmps36
          go_wp2_with (go_at_call 48; refine (maybe_any wi _).mono ?_; rintro e' w' ⟨rfl, hw'⟩; rw [hw', decide_eq_true (unhide HM)])
          refine (unhide HC).1.mono ?_
          rintro e' w2 ⟨rfl, rfl⟩
          go_wp2_with fail
          go_ret
          exact ⟨rfl, (unhide HC).2⟩
        | true =>
          rw [hq1] at hwd1
          rw [Bool.true_and]
          cases hq2 : wdq wi ps with
          | false =>
            rw [hq2] at hwd2
            rw [Bool.false_and]
            have HC := hide (And.intro hwd1 (And.intro hwd2 hF1))
            clear hg ho hr hp hcx hn hps h1 h2 h3 hwd1 hwd2 hF1 hq1 hq2
            generalize old.length = LL at *
            generalize root.length = RL at *
            generalize ps.length = PL at *
            go_enter Tryd.func36, Tryd.ntmps36
            go_wp2_with (go_at_call 48; refine (maybe_any wi _).mono ?_; rintro e' w' ⟨rfl, hw'⟩; rw [hw', decide_eq_true (unhide HM)])
            refine (unhide HC).1.mono ?_
            rintro e' w2 ⟨rfl, rfl⟩
            go_wp2_with fail
            refine (unhide HC).2.1.mono ?_
            rintro e' w3 ⟨rfl, rfl⟩
            go_wp2_with fail
            go_ret
            exact ⟨rfl, (unhide HC).2.2⟩
          | true =>
            rw [hq2] at hwd2
            rw [Bool.true_and]
            have how : old.length = wi := by have := wdq_true hq1 old (by simp); omega
            have hpw : ∀ p ∈ ps, p.length = wi := fun p hp => by have := wdq_true hq2 p hp; omega
            by_cases hI : I = 0
            · subst hI
              rw [if_pos (show ((0 : Nat) : Int) = 0 from rfl)]
              exact cpr_zero wi (by omega) (by omega) N oo oc rr rc xo xc old root ps w hg ho hr W1 hW1 hF1 hwd1 hwd2
            · rw [if_neg (by omega)]
              obtain ⟨i1, i2, i3, i4, i5⟩ := endF_ok N 0 N I (Nat.le_refl _) (by omega) (by omega)
              by_cases hend : (endF 0 N I).1 = 0 ∨ ps ≠ []
              · obtain ⟨ro, rn, rc', yo, yc, r, us, qs, s1, s2, s3, s4, s5, s6, s7⟩ := ofProof_any wi I N (by omega) (by omega) (by omega) _ _ old root vs ps w ho hp hcx how hpw hend
                rw [s6, bodyQ]
                exact cpr_yes wi I N _ _ (by omega) (by omega) (by omega) oo _ oc rr _ rc xo _ xc ro rn rc' yo qs.length yc _ old root _ _ w W1 hW1 hF1 ho hr hwd1 hwd2 (s7 W1 hF1) (fun w' => fits_any wi 0 N _ _ ro rn rc' yo _ yc w' (by omega) i4)
                  (fun hD w' hf => older_any wi (by omega) (by omega) N 0 N _ _ w' ro rn rc' r _ us qs (Nat.le_refl _) (by omega) i4 (hg.fr0 hf) (s1.fr0 hf) s2 (s3.fr0 hf) s4 hD s5)
                  (fun hD w' hf => top_any wi (by omega) (by omega) N 0 N _ _ w' ro rn rc' r _ us qs (Nat.le_refl _) (by omega) i4 (hg.fr0 hf) (s1.fr0 hf) s2 (s3.fr0 hf) s4 hD s5)
              · have hE : ¬ (endF 0 N I).1 = 0 := fun h => hend (.inl h)
                have hps0 : ps = [] := Classical.byContradiction fun h => hend (.inr h)
                subst hps0
                have hB : prfQ wi N I old root [] = false := by unfold prfQ; rw [if_neg hE]
                rw [hB]
                have hno := ofProof_no wi I N (by omega) (by omega) (by omega) hE oo old.length oc xo xc W1
                unfold cv at hno
                have e0 : ((0 : Nat) : Int) = 0 := rfl
                simp only [e0] at hno
                simp only [List.length_nil] at hwd2 ⊢
                have q3 : ((I : Int) == 0) = false := beq_false_of_ne (by omega)
                have HC := hide (And.intro hwd1 (And.intro hwd2 (And.intro hno hF1)))
                clear hg ho hr hp hcx hn hps h1 h2 h3 hwd1 hwd2 hF1 hq1 hq2 hno e0 hB hE hend how hpw i1 i2 i3 i4 i5
                generalize old.length = LL at *
                generalize root.length = RL at *
                go_enter Tryd.func36, Tryd.ntmps36
                go_wp2_with (go_at_call 48; refine (maybe_any wi _).mono ?_; rintro e' w' ⟨rfl, hw'⟩; rw [hw', decide_eq_true (unhide HM)])
                refine (unhide HC).1.mono ?_
                rintro e' w2 ⟨rfl, rfl⟩
                go_wp2_with fail
                refine (unhide HC).2.1.mono ?_
                rintro e' w3 ⟨rfl, rfl⟩
                go_wp2_with fail
                refine (unhide HC).2.2.1.mono ?_
                rintro e' wA ⟨rfl, hFA⟩
                have HA := hide ((unhide HC).2.2.2.trans hFA (fun _ _ h => h))
                clear hFA
                go_wp2_with fail
                go_ret
                exact ⟨rfl, ((unhide HA).alloc _).alloc _⟩
end Go.Proofs.YtocdnomfpgdglaaDoor

namespace Go.Proofs.YtocdnomfpgdglaaDoor
open Go.RowKit

/-- The cells of steps. -/
def scells (L : List (Value × Value × Bool)) : List Value := (L.map fun p => [p.1, p.2.1, .bool p.2.2]).flatten
theorem scells_len (L : List (Value × Value × Bool)) : (scells L).length = L.length * 3 := by
  induction L with
  | nil => rfl
  | cons a r ih => simp only [scells, List.map_cons, List.flatten_cons, List.length_append, List.length_cons, List.length_nil] at ih ⊢; omega
theorem scells_cons (a : Value × Value × Bool) (r : List (Value × Value × Bool)) : scells (a :: r) = [a.1, a.2.1, .bool a.2.2] ++ scells r := rfl
theorem scells_app (a b : List (Value × Value × Bool)) : scells (a ++ b) = scells a ++ scells b := by simp [scells]
theorem scells_at (L : List (Value × Value × Bool)) : ∀ (k : Nat) (hk : k < L.length), (scells L)[k * 3]? = some L[k].1 ∧ (scells L)[k * 3 + 1]? = some L[k].2.1 ∧ (scells L)[k * 3 + 2]? = some (.bool L[k].2.2) := by
  induction L with
  | nil => intro k hk; simp at hk
  | cons a r ih =>
    intro k hk
    match k, hk with
    | 0, _ => exact ⟨rfl, rfl, rfl⟩
    | k + 1, hk =>
      obtain ⟨h1, h2, h3⟩ := ih k (by simpa using hk)
      have e : ∀ j, (scells (a :: r))[(k + 1) * 3 + j]? = (scells r)[k * 3 + j]? := fun j => by
        rw [scells_cons, List.getElem?_append_right (by simp; omega)]
        congr 1
        simp
        omega
      have e0 := e 0
      simp only [Nat.add_zero] at e0
      refine ⟨e0.trans h1, (e 1).trans h2, (e 2).trans h3⟩
theorem Tryd.infoStep : (Tryd.prog.info? 131).map (fun i => (i.zero, i.size, i.bytes)) = some (some (.agg #[.slice none 0 0, .slice none 0 0, .bool false]), 3, 56) := by kernel_rfl
/-- One more step. -/
theorem app_step (w : World) (base : Nat) (v : Value) (L : List (Value × Value × Bool)) (la : Option Addr) (ln lc : Nat) (ra : Option Addr) (rn rc : Nat) (b : Bool) (hown : w.ownsRow base 131 3 v L.length (scells L)) (hb : L.length + 1 ≤ 16777216) (hbase : base ≤ w.heap.size) :
    ∃ ao cap w', (Builtin.append_ #[89, 89] 89 #[v, .slice (some ⟨w.heap.size, 0, none⟩) 1 1]).run Tryd.prog (w.alloc (.cells #[.slice la ln lc, .slice ra rn rc, .bool b] 131)) = .ok (.slice ao (L.length + 1) cap) w' ∧
      w'.ownsRow base 131 3 (.slice ao (L.length + 1) cap) (L.length + 1) (scells (L ++ [(.slice la ln lc, .slice ra rn rc, b)])) ∧ (w.alloc (.cells #[.slice la ln lc, .slice ra rn rc, .bool b] 131)).grownBy w' v.ownBlock := by
  obtain ⟨i0, hi, hz0, hz1, hz2⟩ := info_parts Tryd.infoStep
  have h1 : (w.alloc (.cells #[.slice la ln lc, .slice ra rn rc, .bool b] 131)).ownsRow base 131 3 v L.length (scells L) := ownsRow_of_block hown (fun g hg => Below.heap_alloc _ _ _ (hown.lt g hg).2)
  obtain ⟨v', w', hr, h2, h3, _, _⟩ := run_append_own_at (P := Tryd.prog) (w.alloc (.cells #[.slice la ln lc, .slice ra rn rc, .bool b] 131)) base 89 89 131 i0 (.agg #[.slice none 0 0, .slice none 0 0, .bool false]) 3 56 Tryd.underlying89 hi hz0 hz1 hz2 rfl (by decide) v L.length _ h1 ⟨w.heap.size, 0, none⟩ 1 1 [.slice la ln lc, .slice ra rn rc, .bool b] rfl (fun j u hu => by
      match j, hu with
      | 0, hu => simp at hu; subst hu; simp [Addr.add]
      | 1, hu => simp at hu; subst hu; simp [Addr.add]
      | 2, hu => simp at hu; subst hu; simp [Addr.add]) (fun u hu => by simp at hu; rcases hu with rfl | rfl | rfl <;> rfl) (by simp only [maxLen]; omega) (by omega) (by simp; omega)
  have hf : ∃ ao cap, v' = .slice ao (L.length + 1) cap := by
    rcases h2.2 with ⟨_, e⟩ | ⟨g, cap, cur, rfl, _⟩
    · omega
    · exact ⟨_, _, rfl⟩
  obtain ⟨ao, cap, rfl⟩ := hf
  refine ⟨ao, cap, w', hr, ?_, h3⟩
  rw [scells_app]
  exact h2
/-- Steps in memory of one's own. -/
structure OT (w wr : World) (v : Value) (ss : List (Value × Value × Bool)) : Prop where
  own : wr.ownsRow w.heap.size 131 3 v ss.length (scells ss)
  fr : Fr (fun _ => False) w wr
theorem OT.nil (w : World) : OT w w (.slice none 0 0) [] := ⟨⟨rfl, .inl ⟨rfl, rfl⟩⟩, Fr.refl _ _⟩
theorem OT.fr0 {w wr wq : World} {v : Value} {ss : List (Value × Value × Bool)} (h : OT w wr v ss) (hf : Fr (fun _ => False) wr wq) : OT w wq v ss :=
  ⟨ownsRow_of_block h.own (fun g hg => hf.block g (h.own.lt g hg).2 (fun h => h)), h.fr.trans hf (fun _ _ h => h)⟩
theorem OT.base {w wA wr : World} {v : Value} {ss : List (Value × Value × Bool)} (h : OT wA wr v ss) (hf : Fr (fun _ => False) w wA) : OT w wr v ss := by
  refine ⟨⟨h.own.1, ?_⟩, hf.trans h.fr (fun _ _ h => h)⟩
  rcases h.own.2 with h0 | ⟨g, cap, cur, e1, e2, e3⟩
  · exact .inl h0
  · exact .inr ⟨g, cap, cur, e1, Nat.le_trans hf.size e2, e3⟩
theorem OT.form {w wr : World} {v : Value} {ss : List (Value × Value × Bool)} (h : OT w wr v ss) : ∃ ao cap, v = .slice ao ss.length cap := by
  rcases h.own.2 with ⟨e, e0⟩ | ⟨g, cap, cur, e, _⟩
  · exact ⟨none, 0, by rw [e, e0]⟩
  · exact ⟨_, _, e⟩
/-- The cells of one step, in a later world. -/
theorem OT.cell {w wr wq : World} {so : Option Addr} {n sc : Nat} {ss : List (Value × Value × Bool)} (h : OT w wr (.slice so n sc) ss) (hf : Fr (fun _ => False) wr wq) (k : Nat) (hk : k < ss.length) : ∃ g, so = some ⟨g, 0, none⟩ ∧ wq.cell? ⟨g, k * 3, none⟩ = some ss[k].1 ∧ wq.cell? ⟨g, k * 3 + 1, none⟩ = some ss[k].2.1 ∧ wq.cell? ⟨g, k * 3 + 2, none⟩ = some (.bool ss[k].2.2) := by
  rcases h.own.2 with ⟨_, e0⟩ | ⟨g, cap, cur, e, _⟩
  · omega
  · simp only [Value.slice.injEq] at e
    obtain ⟨rfl, rfl, rfl⟩ := e
    have hl := (h.own.lt g rfl).2
    obtain ⟨s1, s2, s3⟩ := scells_at ss k hk
    exact ⟨g, rfl, (hf.cell (p := ⟨g, k * 3, none⟩) hl (fun h => h)).trans ((h.own.cellAt (k * 3) (by omega)).trans s1), (hf.cell (p := ⟨g, k * 3 + 1, none⟩) hl (fun h => h)).trans ((h.own.cellAt (k * 3 + 1) (by omega)).trans s2), (hf.cell (p := ⟨g, k * 3 + 2, none⟩) hl (fun h => h)).trans ((h.own.cellAt (k * 3 + 2) (by omega)).trans s3)⟩
theorem OT.lit {w w1 : World} (hF0 : Fr (fun _ => False) w w1) (la : Option Addr) (ln lc : Nat) (ra : Option Addr) (rn rc : Nat) (b : Bool) (W : World) (hW : w1.alloc (.cells #[.slice la ln lc, .slice ra rn rc, .bool b] 131) = W) : OT w W (.slice (some ⟨w1.heap.size, 0, none⟩) 1 1) [(.slice la ln lc, .slice ra rn rc, b)] := by
  have hF : Fr (fun _ => False) w1 W := by rw [← hW]; exact (Fr.refl _ _).alloc _
  refine ⟨?_, hF0.trans hF (fun _ _ h => h)⟩
  have := World.ownsRow_lit (e := 131) (size := 3) w1 #[.slice la ln lc, .slice ra rn rc, .bool b] 1 (Nat.le_refl _) (by simp only [maxLen]; omega) rfl
  rw [hW] at this
  refine ⟨this.1, ?_⟩
  rcases this.2 with h0 | ⟨g, cap, cur, e1, e2, e3⟩
  · exact .inl h0
  · exact .inr ⟨g, cap, cur, e1, Nat.le_trans hF0.size e2, e3⟩
end Go.Proofs.YtocdnomfpgdglaaDoor

namespace Go.Proofs.YtocdnomfpgdglaaDoor
open Go.RowKit

set_option maxRecDepth 100000 in
set_option maxHeartbeats 1000000 in
/-- The document's wide. -/
theorem gwide_any (j : Int) (x : Value) (vs : List Value) (ps : List (List Nat)) (w : World) (hp : Pcs w x vs ps) (hn : ps.length < 4611686018427387904) :
    Calls Tryd.prog 68 #[.int .i64 j, x] w fun e w' => e = .returned (.bool (wdq j ps)) ∧ w' = w := by
  obtain ⟨xo, xc, rfl⟩ := hp.form
  have HG := hide (And.intro hp hn)
  clear hp hn
  generalize hN : ps.length = N at *
  go_enter Tryd.func68, Tryd.ntmps68
  go_wp2_with fail
  go_loopw [5] (fun iv wr => ∃ (k : Nat), k ≤ N ∧ iv = .int .i64 (k : Nat) ∧ wr = w ∧ wdq j (ps.take k) = true) (fun iv _ => N - (intOf iv).toNat)
  case atStart => exact ⟨0, Nat.zero_le _, rfl, rfl, by simp [wdq]⟩
  case round =>
    obtain ⟨k, hk, rfl, rfl, hw⟩ := hrel
    have hN8 := (unhide HG).2
    by_cases hlt : k < N
    · have hlt' : (k : Int) < (N : Int) := by omega
      have hke : k < ps.length := by omega
      obtain ⟨g, o, vo, vc, rfl, hcell, -⟩ := (unhide HG).1.nth (Fr.refl _ _) k hke
      by_cases he : (ps[k].length : Int) = j
      · have hw2 : wdq j (ps.take (k + 1)) = true := by rw [wdq_take j ps k hke, hw, decide_eq_true he]; rfl
        have HW := hide hw2
        clear hw2 hw
        have w1 : IntKind.i64.wrap ((k : Int) + 1) = (k : Int) + 1 := by rw [IntKind.wrap_i64]; omega
        have hee : ((ps[k].length : Int) == j) = true := by rw [he]; simp
        subst he
        generalize ps[k].length = EL at *
        go_wp2_with fail
        exact ⟨⟨k + 1, by omega, by go_num, by first | rfl | trivial, unhide HW⟩, by simp [intOf]; omega⟩
      · have hf := wdq_false j ps k hke he
        have HW := hide hf
        clear hf hw
        have hee : ((ps[k].length : Int) == j) = false := beq_false_of_ne he
        generalize ps[k].length = EL at *
        go_wp2_with fail
        go_ret
        exact ⟨by rw [unhide HW]; rfl, rfl⟩
    · have hkN : k = N := by omega
      have hlt' : ¬ (k : Int) < (N : Int) := by omega
      have htk : ps.take k = ps := List.take_of_length_le (by omega)
      rw [htk] at hw
      have HW := hide hw
      clear hw htk hkN
      go_wp2_with fail
      go_ret
      exact ⟨by rw [unhide HW]; rfl, rfl⟩
/-- The steps from the top down to an entry. -/
def stpv (wi : Nat) (leaf : List Nat) (f n i : Nat) (ps : List (List Nat)) : List (List Nat × List Nat × Bool) :=
  if _h : n < 2 then []
  else if i < f + hf n then (topv wi leaf f (hf n) i 1 ps.dropLast, ps.getLastD [], true) :: stpv wi leaf f (hf n) i ps.dropLast
  else (ps.getLastD [], topv wi leaf (f + hf n) (n - hf n) i 1 ps.dropLast, false) :: stpv wi leaf (f + hf n) (n - hf n) i ps.dropLast
termination_by n
decreasing_by
  · exact hf_lt n (by omega)
  · have := hf_pos n; omega
def StOk (w : World) (ss : List (Value × Value × Bool)) (ts : List (List Nat × List Nat × Bool)) : Prop :=
  ss.length = ts.length ∧ ∀ (j : Nat) s t, ss[j]? = some s → ts[j]? = some t → Sl w s.1 t.1 ∧ Sl w s.2.1 t.2.1 ∧ s.2.2 = t.2.2
theorem StOk.nil (w : World) : StOk w [] [] := ⟨rfl, fun j s t h => by simp at h⟩
theorem StOk.fr0 {w w' : World} {ss : List (Value × Value × Bool)} {ts : List (List Nat × List Nat × Bool)} (h : StOk w ss ts) (hf : Fr (fun _ => False) w w') : StOk w' ss ts :=
  ⟨h.1, fun j s t hs ht => ⟨(h.2 j s t hs ht).1.fr0 hf, (h.2 j s t hs ht).2.1.fr0 hf, (h.2 j s t hs ht).2.2⟩⟩
theorem StOk.cons {w : World} {s : Value × Value × Bool} {t : List Nat × List Nat × Bool} {ss : List (Value × Value × Bool)} {ts : List (List Nat × List Nat × Bool)} (h1 : Sl w s.1 t.1) (h2 : Sl w s.2.1 t.2.1) (h3 : s.2.2 = t.2.2) (h : StOk w ss ts) : StOk w (s :: ss) (t :: ts) :=
  ⟨by simp [h.1], fun j s' t' hs ht => by
    match j with
    | 0 => simp at hs ht; subst hs ht; exact ⟨h1, h2, h3⟩
    | j + 1 => simp at hs ht; exact h.2 j s' t' hs ht⟩
theorem StOk.form {w : World} {ss : List (Value × Value × Bool)} {ts : List (List Nat × List Nat × Bool)} (h : StOk w ss ts) (k : Nat) (hk : k < ss.length) : ∃ la ln lc ra rn rc, ss[k] = (.slice la ln lc, .slice ra rn rc, ss[k].2.2) := by
  obtain ⟨h1, h2, _⟩ := h.2 k ss[k] (ts[k]'(by rw [← h.1]; exact hk)) (List.getElem?_eq_getElem hk) (List.getElem?_eq_getElem _)
  obtain ⟨a, c, e1⟩ := h1.form
  obtain ⟨b, d, e2⟩ := h2.form
  exact ⟨a, _, c, b, _, d, by rw [← e1, ← e2]⟩
def ClSays (wi : Nat) (leaf : List Nat) (lv : Value) (f n i : Nat) (ps : List (List Nat)) (x : Value) (w : World) : Prop :=
  Calls Tryd.prog 69 #[.int .i64 wi, lv, .int .i64 ((i - f : Nat) : Int), .int .i64 n, x] w fun e w' =>
    (ps.length = dep f n i 1 → ∃ ho hn hc so sc ss, e = .returned (.tuple #[.slice ho hn hc, .slice so ss.length sc, .bool true]) ∧ Sl w' (.slice ho hn hc) (topv wi leaf f n i 1 ps) ∧ OT w w' (.slice so ss.length sc) ss ∧ StOk w' ss (stpv wi leaf f n i ps)) ∧
    (¬ ps.length = dep f n i 1 → ∃ ho hn hc, e = .returned (.tuple #[.slice ho hn hc, .slice none 0 0, .bool false])) ∧ Fr (fun _ => False) w w'
set_option maxRecDepth 100000 in
set_option maxHeartbeats 1000000 in
theorem climb_one (wi : Nat) (leaf : List Nat) (lv : Value) (f i : Nat) (ps : List (List Nat)) (vs : List Value) (x : Value) (w : World) (hl : Sl w lv leaf) (hp : Pcs w x vs ps) (hi : f = i) : ClSays wi leaf lv f 1 i ps x w := by
  unfold ClSays
  subst hi
  rw [dep_eq, topv_eq]
  have hst : stpv wi leaf f 1 f ps = [] := by rw [stpv, dif_pos (by decide)]
  rw [hst, Nat.sub_self]
  obtain ⟨lo, lc, rfl⟩ := hl.form
  obtain ⟨xo, xc, rfl⟩ := hp.form
  have HL := hide hl
  clear hl hp hst
  have e0 : ((0 : Nat) : Int) = 0 := rfl
  have e1 : ((1 : Nat) : Int) = 1 := rfl
  simp only [e0, e1]
  clear e0 e1
  generalize leaf.length = LN at *
  by_cases h0 : ps.length = 0
  · rw [h0]
    go_enter Tryd.func69, Tryd.ntmps69
    go_wp2_with fail
    go_returns
    exact ⟨fun _ => ⟨lo, LN, lc, none, 0, [], rfl, unhide HL, OT.nil _, StOk.nil _⟩, fun h => by first | exact absurd rfl h | exact absurd trivial h, Fr.refl _ _⟩
  · have q1 : ((ps.length : Int) == 0) = false := beq_false_of_ne (by omega)
    generalize ps.length = PN at *
    go_enter Tryd.func69, Tryd.ntmps69
    go_wp2_with fail
    go_returns
    exact ⟨fun h => absurd h h0, fun _ => ⟨lo, LN, lc, rfl⟩, Fr.refl _ _⟩
set_option maxRecDepth 100000 in
set_option maxHeartbeats 1000000 in
theorem climb_short (wi : Nat) (leaf : List Nat) (lv : Value) (f n i : Nat) (vs : List Value) (x : Value) (w : World) (hl : Sl w lv leaf) (hp : Pcs w x vs []) (h2 : 2 ≤ n) (hd : ¬ 0 = dep f n i 1) : ClSays wi leaf lv f n i [] x w := by
  unfold ClSays
  obtain ⟨lo, lc, rfl⟩ := hl.form
  obtain ⟨xo, xc, rfl⟩ := hp.form
  clear hl hp
  simp only [List.length_nil]
  have q1 : ((n : Int) == 1) = false := beq_false_of_ne (by omega)
  have q2 : ¬ n = 1 := by omega
  generalize leaf.length = LN at *
  generalize i - f = I at *
  go_enter Tryd.func69, Tryd.ntmps69
  go_wp2_with fail
  go_returns
  exact ⟨fun h => absurd h hd, fun _ => ⟨none, 0, 0, rfl⟩, Fr.refl _ _⟩
end Go.Proofs.YtocdnomfpgdglaaDoor

