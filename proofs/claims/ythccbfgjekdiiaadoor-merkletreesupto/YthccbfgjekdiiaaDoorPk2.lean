import Derived.Test.YthccbfgjekdiiaaDoorPk1
import Derived.Deep.QuietTactic
import Derived.BigQuiet
import Derived.Test.YthccbfgjekdiiaaDoorMae
import Derived.Test.YthccbfgjekdiiaaDoorMaf
namespace Go.Proofs.YthccbfgjekdiiaaDoor
open Go.RowKit

theorem pcs2 {w : World} {x y : Value} {a b : List Nat} (hx : Sl w x a) (hy : Sl w y b) (W : World) (hW : w.alloc (.cells #[x, y] 25) = W) : Pcs W (.slice (some ⟨w.heap.size, 0, none⟩) 2 2) [x, y] [a, b] := by
  have hF1 : Fr (fun _ => False) w W := by rw [← hW]; exact (Fr.refl _ _).alloc _
  have hx1 := hx.fr0 hF1
  have hy1 := hy.fr0 hF1
  have hc : ∀ j, j < 2 → W.cell? ⟨w.heap.size, 0 + j, none⟩ = (#[x, y] : Array Value)[j]? := fun j hj => by rw [Nat.zero_add, ← hW, World.cell?_alloc_at _ _ _ _ rfl]
  have hc0 := hc 0 (by decide)
  have hl : w.heap.size < W.heap.size := lt_of_cell (v := x) hc0
  refine ⟨rfl, .inr (.inr ⟨w.heap.size, 0, 2, rfl, hl, fun j v hv => ?_⟩), fun j v p hv hp => ?_, fun p hp => ?_⟩
  · match j with
    | 0 => rw [hc 0 (by decide)]; simpa using hv
    | 1 => rw [hc 1 (by decide)]; simpa using hv
    | j + 2 => simp at hv
  · match j with
    | 0 => simp at hv hp; subst hv hp; exact ⟨hx1.s, hx1.cap, hx1.lt⟩
    | 1 => simp at hv hp; subst hv hp; exact ⟨hy1.s, hy1.cap, hy1.lt⟩
    | j + 2 => simp at hv
  · simp at hp
    rcases hp with rfl | rfl
    · exact hx1.b
    · exact hy1.b
/-- What CheckPath answers. -/
def chkP (j : Int) (leaf : List Nat) (i n : Int) (ps : List (List Nat)) (root : List Nat) : Bool :=
  decide (1 ≤ j ∧ j ≤ 32) && (decide (0 ≤ i) && (decide (i < n) && (wdq j [leaf, root] && (wdq j ps && (decide (ps.length = dep 0 n.toNat i.toNat 1) && decide (topv j.toNat leaf 0 n.toNat i.toNat 1 ps = root))))))
set_option maxRecDepth 100000 in
set_option maxHeartbeats 2000000 in
theorem checkPath_any (j i n : Int) (lv rv x : Value) (leaf root : List Nat) (vs : List Value) (ps : List (List Nat)) (w : World) (hg : GS w) (hl : Sl w lv leaf) (hr : Sl w rv root) (hp : Pcs w x vs ps) (hcx : Cp x) (hn : n < 9223372036854775808) (hps : ps.length < 4611686018427387904) :
    Calls Tryd.prog 12 #[.int .i64 j, lv, .int .i64 i, .int .i64 n, x, rv] w fun e w' => e = .returned (.bool (chkP j leaf i n ps root)) ∧ Fr (fun _ => False) w w' := by
  obtain ⟨lo, lc, rfl⟩ := hl.form
  obtain ⟨rr, rc, rfl⟩ := hr.form
  obtain ⟨xo, xc, rfl⟩ := hp.form
  by_cases h1o : j < 1 ∨ 32 < j
  · have h1 : ¬ (1 ≤ j ∧ j ≤ 32) := by omega
    have hB : chkP j leaf i n ps root = false := by rw [chkP, decide_eq_false h1]; rfl
    rw [hB]
    have HM := hide h1
    clear hg hl hr hp hcx hn hps hB h1 h1o
    generalize leaf.length = LL at *
    generalize root.length = RL at *
    generalize ps.length = PL at *
    go_enter Tryd.func12, Tryd.ntmps12
    go_wp2_with (go_at_call 26; refine (maybe_any j _).mono ?_; rintro e' w' ⟨rfl, hw'⟩; rw [hw', decide_eq_false (unhide HM)])
    go_ret
    exact ⟨rfl, Fr.refl _ _⟩
  · have h1 : 1 ≤ j ∧ j ≤ 32 := by omega
    clear h1o
    have HM := hide h1
    by_cases h2' : i < 0
    · have h2 : ¬ 0 ≤ i := by omega
      have hB : chkP j leaf i n ps root = false := by rw [chkP, decide_eq_true h1, decide_eq_false h2]; rfl
      rw [hB]
      clear hg hl hr hp hcx hn hps hB h1
      generalize leaf.length = LL at *
      generalize root.length = RL at *
      generalize ps.length = PL at *
      go_enter Tryd.func12, Tryd.ntmps12
      go_wp2_with (go_at_call 26; refine (maybe_any j _).mono ?_; rintro e' w' ⟨rfl, hw'⟩; rw [hw', decide_eq_true (unhide HM)])
      go_ret
      exact ⟨rfl, Fr.refl _ _⟩
    · have h2 : 0 ≤ i := by omega
      by_cases h3' : n ≤ i
      · have h3 : ¬ i < n := by omega
        have hB : chkP j leaf i n ps root = false := by rw [chkP, decide_eq_true h1, decide_eq_true h2, decide_eq_false h3]; rfl
        rw [hB]
        clear hg hl hr hp hcx hn hps hB h1
        generalize leaf.length = LL at *
        generalize root.length = RL at *
        generalize ps.length = PL at *
        go_enter Tryd.func12, Tryd.ntmps12
        go_wp2_with (go_at_call 26; refine (maybe_any j _).mono ?_; rintro e' w' ⟨rfl, hw'⟩; rw [hw', decide_eq_true (unhide HM)])
        go_ret
        exact ⟨rfl, Fr.refl _ _⟩
      · have h3 : i < n := by omega
        clear h2' h3'
        obtain ⟨wi, rfl⟩ : ∃ k : Nat, j = (k : Int) := ⟨j.toNat, by omega⟩
        obtain ⟨I, rfl⟩ : ∃ k : Nat, i = (k : Int) := ⟨i.toNat, by omega⟩
        obtain ⟨N, rfl⟩ : ∃ k : Nat, n = (k : Int) := ⟨n.toNat, by omega⟩
        have h2' : ¬ (I : Int) < 0 := by omega
        have h3' : ¬ (N : Int) ≤ (I : Int) := by omega
        have hIN : I < N := by omega
        have hrch := rch_one N 0 N I (Nat.le_refl _) (by omega) (by omega)
        obtain ⟨W1, hW1⟩ : ∃ W1, w.alloc (.cells #[.slice lo leaf.length lc, .slice rr root.length rc] 25) = W1 := ⟨_, rfl⟩
        have hF1 : Fr (fun _ => False) w W1 := by rw [← hW1]; exact (Fr.refl _ _).alloc _
        have hwd1 := wide_any wi _ _ [leaf, root] W1 (pcs2 hl hr W1 hW1) (by simp)
        have hwd2 := wide_any wi _ vs ps W1 (hp.fr0 hF1) hps
        have hce : chkP wi leaf I N ps root = (wdq wi [leaf, root] && (wdq wi ps && (decide (ps.length = dep 0 N I 1) && decide (topv wi leaf 0 N I 1 ps = root)))) := by
          rw [chkP, decide_eq_true h1, decide_eq_true h2, decide_eq_true h3]; rfl
        rw [hce]
        clear hce
        cases hq1 : wdq wi [leaf, root] with
        | false =>
          rw [hq1] at hwd1
          rw [Bool.false_and]
          have HC := hide (And.intro hwd1 hF1)
          clear hg hl hr hp hcx hn hps h1 h2 h3 hwd1 hwd2 hF1 hrch hIN hq1
          generalize leaf.length = LL at *
          generalize root.length = RL at *
          generalize ps.length = PL at *
          go_enter Tryd.func12, Tryd.ntmps12
          go_wp2_with (go_at_call 26; refine (maybe_any wi _).mono ?_; rintro e' w' ⟨rfl, hw'⟩; rw [hw', decide_eq_true (unhide HM)])
          refine (unhide HC).1.mono ?_
          rintro e' w2 ⟨rfl, rfl⟩
          go_wp2_with fail
          go_ret
          exact ⟨rfl, (unhide HC).2⟩
        | true =>
          rw [hq1] at hwd1
          rw [Bool.true_and]
          cases hq2 : wdq wi ps with
          | false =>
            rw [hq2] at hwd2
            rw [Bool.false_and]
            have HC := hide (And.intro hwd1 (And.intro hwd2 hF1))
            clear hg hl hr hp hcx hn hps h1 h2 h3 hwd1 hwd2 hF1 hrch hIN hq1 hq2
            generalize leaf.length = LL at *
            generalize root.length = RL at *
            generalize ps.length = PL at *
            go_enter Tryd.func12, Tryd.ntmps12
            go_wp2_with (go_at_call 26; refine (maybe_any wi _).mono ?_; rintro e' w' ⟨rfl, hw'⟩; rw [hw', decide_eq_true (unhide HM)])
            refine (unhide HC).1.mono ?_
            rintro e' w2 ⟨rfl, rfl⟩
            go_wp2_with fail
            refine (unhide HC).2.1.mono ?_
            rintro e' w3 ⟨rfl, rfl⟩
            go_wp2_with fail
            go_ret
            exact ⟨rfl, (unhide HC).2.2⟩
          | true =>
            rw [hq2] at hwd2
            rw [Bool.true_and]
            have hlw : leaf.length = wi := by have := wdq_true hq1 leaf (by simp); omega
            have hpw : ∀ p ∈ ps, p.length = wi := fun p hp => by have := wdq_true hq2 p hp; omega
            have hoe := fun w' => ofEntry_any wi I lo leaf.length lc xo ps.length xc w'
            have hft := fun w' => fits_any wi 0 N I 1 lo leaf.length lc xo ps.length xc w' (by omega) hrch
            by_cases hD : ps.length = dep 0 N I 1
            · have htop := fun w' (hf : Fr (fun _ => False) w w') => top_any wi (by omega) (by omega) N 0 N I 1 w' lo leaf.length lc leaf _ vs ps (Nat.le_refl _) (by omega) hrch (hg.fr0 hf) (hl.fr0 hf) hlw (hp.fr0 hf) hcx hD hpw
              rw [decide_eq_true hD] at hft ⊢
              rw [Bool.true_and]
              have HC := hide (And.intro hwd1 (And.intro hwd2 (And.intro hoe (And.intro hft (And.intro htop (And.intro hr hF1))))))
              clear hg hl hp hcx hn hps h1 h2 h3 hwd1 hwd2 hF1 hrch hIN hq1 hq2 hoe hft htop hD hpw hlw hr
              generalize topv wi leaf 0 N I 1 ps = TV at *
              obtain ⟨BB, hBB⟩ : ∃ BB, decide (TV = root) = BB := ⟨_, rfl⟩
              rw [hBB]
              have HBB := hide hBB
              clear hBB
              generalize leaf.length = LL at *
              generalize root.length = RL at *
              generalize ps.length = PL at *
              unfold sv cv at HC
              have e1 : ((1 : Nat) : Int) = 1 := rfl
              have e0 : ((0 : Nat) : Int) = 0 := rfl
              simp only [e1, e0] at HC
              clear e1 e0
              go_enter Tryd.func12, Tryd.ntmps12
              go_wp2_with (go_at_call 26; refine (maybe_any wi _).mono ?_; rintro e' w' ⟨rfl, hw'⟩; rw [hw', decide_eq_true (unhide HM)])
              refine (unhide HC).1.mono ?_
              rintro e' w2 ⟨rfl, rfl⟩
              go_wp2_with fail
              refine (unhide HC).2.1.mono ?_
              rintro e' w3 ⟨rfl, rfl⟩
              go_wp2_with fail
              refine ((unhide HC).2.2.1 _).mono ?_
              rintro e' wA ⟨rfl, hFA⟩
              have HA := hide ((unhide HC).2.2.2.2.2.2.trans hFA (fun _ _ h => h))
              clear hFA
              go_wp2_with fail
              obtain ⟨W2, hW2⟩ : ∃ W2, (wA.alloc (.cells #[.int .i64 wi, .int .i64 I, .int .i64 1, .slice lo LL lc, .slice xo PL xc] 59)).alloc (.cells #[.int .i64 0, .int .i64 N] 57) = W2 := ⟨_, rfl⟩
              rw [hW2]
              obtain ⟨⟨a0, a1, a2, a3, a4⟩, b0, b1, hF2⟩ := box52 wA _ _ _ _ _ _ _ _ _ W2 hW2
              refine ((unhide HC).2.2.2.1 _).mono ?_
              rintro e' wB ⟨rfl, hFB⟩
              have c0 := (hFB.cell (lt_of_cell a0) (fun h => h)).trans a0
              have c1 := (hFB.cell (lt_of_cell a1) (fun h => h)).trans a1
              have c2 := (hFB.cell (lt_of_cell a2) (fun h => h)).trans a2
              have c3 := (hFB.cell (lt_of_cell a3) (fun h => h)).trans a3
              have c4 := (hFB.cell (lt_of_cell a4) (fun h => h)).trans a4
              have d0 := (hFB.cell (lt_of_cell b0) (fun h => h)).trans b0
              have d1 := (hFB.cell (lt_of_cell b1) (fun h => h)).trans b1
              have HB := hide (((unhide HA).trans hF2 (fun _ _ h => h)).trans hFB (fun _ _ h => h))
              clear hF2 hFB hW2 a0 a1 a2 a3 a4 b0 b1 HA
              generalize wA.heap.size = P at *
              go_wp2_with fail
              refine ((unhide HC).2.2.2.2.1 _ (unhide HB)).mono ?_
              rintro e' wC ⟨uo, un, uc, rfl, hS, hFC⟩
              have HS := hide (And.intro hS ((unhide HB).trans hFC (fun _ _ h => h)))
              clear hS hFC
              go_wp2_with fail
              refine (beq_sl _ _ _ _ _ (unhide HS).1 ((unhide HC).2.2.2.2.2.1.fr0 (unhide HS).2)).mono ?_
              rintro e' wD ⟨rfl, rfl⟩
              rw [unhide HBB]
              go_wp2_with fail
              go_ret
              exact ⟨rfl, (unhide HS).2⟩
            · rw [decide_eq_false hD] at hft ⊢
              rw [Bool.false_and]
              have HC := hide (And.intro hwd1 (And.intro hwd2 (And.intro hoe (And.intro hft hF1))))
              clear hg hl hp hcx hn hps h1 h2 h3 hwd1 hwd2 hF1 hrch hIN hq1 hq2 hoe hft hD hpw hlw hr
              generalize leaf.length = LL at *
              generalize root.length = RL at *
              generalize ps.length = PL at *
              unfold sv cv at HC
              have e1 : ((1 : Nat) : Int) = 1 := rfl
              have e0 : ((0 : Nat) : Int) = 0 := rfl
              simp only [e1, e0] at HC
              clear e1 e0
              go_enter Tryd.func12, Tryd.ntmps12
              go_wp2_with (go_at_call 26; refine (maybe_any wi _).mono ?_; rintro e' w' ⟨rfl, hw'⟩; rw [hw', decide_eq_true (unhide HM)])
              refine (unhide HC).1.mono ?_
              rintro e' w2 ⟨rfl, rfl⟩
              go_wp2_with fail
              refine (unhide HC).2.1.mono ?_
              rintro e' w3 ⟨rfl, rfl⟩
              go_wp2_with fail
              refine ((unhide HC).2.2.1 _).mono ?_
              rintro e' wA ⟨rfl, hFA⟩
              have HA := hide ((unhide HC).2.2.2.2.trans hFA (fun _ _ h => h))
              clear hFA
              go_wp2_with fail
              refine ((unhide HC).2.2.2.1 _).mono ?_
              rintro e' wB ⟨rfl, hFB⟩
              have HB := hide ((unhide HA).trans ((((Fr.refl _ _).alloc _).alloc _).trans hFB (fun _ _ h => h)) (fun _ _ h => h))
              clear hFB
              go_wp2_with fail
              go_ret
              exact ⟨rfl, unhide HB⟩
end Go.Proofs.YthccbfgjekdiiaaDoor

namespace Go.Proofs.YthccbfgjekdiiaaDoor
open Go.RowKit

set_option maxRecDepth 100000 in
set_option maxHeartbeats 1000000 in
theorem hex_O (s : ByteArray) (w : World) (hs : s.size < 1048576) : Calls Tryd.prog 24 #[.string s] w fun e w' => ∃ yo yc, e = .returned (.slice yo (hxl (bytesOf s)).length yc) ∧ OB w w' yo yc (hxl (bytesOf s)) := by
  go_enter Tryd.func24, Tryd.ntmps24
  go_wp2_with fail
  go_loopw [3, 4] (fun x i wr => ∃ k j : Nat, j = 2 * k ∧ j ≤ s.size ∧ i = .int .i64 j ∧ wr.ownsRow w.heap.size 5 1 x k (cellsOf (hxk (bytesOf s) k)) ∧ Fr (fun _ => False) w wr) (fun _ i _ => s.size - (intOf i).toNat)
  case atStart => exact ⟨0, 0, rfl, Nat.zero_le _, rfl, own_nil w _, Fr.refl _ _⟩
  case round =>
    obtain ⟨k, j, hj, hjs, rfl, ho, hF⟩ := hrel
    rename World => wr
    rename_i x'
    by_cases hlt : j + 1 < s.size
    · have hlt1 : j < s.size := by omega
      have hlt2 : j < s.data.size := hlt1
      have hlt3 : j + 1 < s.data.size := hlt
      have a0 : s[j].toNat < 256 := s[j].toNat_lt
      have a1 : s[j + 1].toNat < 256 := s[j + 1].toNat_lt
      have e0 : (bytesOf s).getD (2 * k) 0 = s[j].toNat := by
        rw [← hj, List.getD, List.getElem?_eq_getElem (by rw [bytesOf_length]; exact hlt1)]; simp [bytesOf]; rfl
      have e1 : (bytesOf s).getD (2 * k + 1) 0 = s[j + 1].toNat := by
        rw [← hj, List.getD, List.getElem?_eq_getElem (by rw [bytesOf_length]; exact hlt)]; simp [bytesOf]; rfl
      have hv : hbl (bytesOf s) k = (dg s[j].toNat * 16 % 256) ||| dg s[j + 1].toNat := by rw [hbl, e0, e1]
      have hj2 : j + 2 ≤ s.size := by omega
      obtain ⟨xo, xcap, rfl⟩ := own_form ho
      have x0 : ∀ w0 : World, (Instr.index 9 (.string s) (.int .i64 (j : Int))).run Tryd.prog w0 = .ok (.int .u8 (s[j].toNat : Int)) w0 := fun w0 => by
        rw [run_index_string _ _ _ _ _ Tryd.underlying9, dif_pos ⟨by omega, by omega⟩]
        simp only [Int.toNat_natCast]
      have x1 : ∀ w0 : World, (Instr.index 9 (.string s) (.int .i64 ((j : Int) + 1))).run Tryd.prog w0 = .ok (.int .u8 (s[j + 1].toNat : Int)) w0 := fun w0 => by
        have e : (j : Int) + 1 = ((j + 1 : Nat) : Int) := by omega
        rw [e, run_index_string _ _ _ _ _ Tryd.underlying9, dif_pos ⟨by omega, by omega⟩]
        simp only [Int.toNat_natCast]
      generalize s[j].toNat = A at *
      generalize s[j + 1].toNat = B1 at *
      have i1 : (j : Int) + 1 < (s.size : Int) := by omega
      have r0 : IntKind.i64.wrap ((j : Int) + 1) = (j : Int) + 1 := by rw [IntKind.wrap_i64]; omega
      have j0 : (0 : Int) ≤ (j : Int) + 1 := by omega
      have d0 := dg_lt A a0
      have d1 := dg_lt B1 a1
      have hd0 := fun w0 => digit_any A w0 a0
      have hd1 := fun w0 => digit_any B1 w0 a1
      generalize dg A = DA at *
      generalize dg B1 = DB at *
      have p1 : IntKind.u8.wrap ((DA : Int) * 16) = ((DA * 16 % 256 : Nat) : Int) := by rw [IntKind.wrap_u8]; omega
      have p1' : (DA : Int) * 16 % 256 = ((DA * 16 % 256 : Nat) : Int) := by omega
      have p2 := u8_or_nat (DA * 16 % 256) DB (Nat.mod_lt _ (by decide)) d1
      have vlt : (DA * 16 % 256) ||| DB < 256 := Nat.or_lt_two_pow (n := 8) (Nat.mod_lt _ (by decide)) d1
      generalize DA * 16 % 256 = P at *
      generalize P ||| DB = V at *
      have ho2 : (wr.alloc (.cells #[.int .u8 (V : Int)] 5)).drew.ownsRow w.heap.size 5 1 (.slice xo k xcap) k (cellsOf (hxk (bytesOf s) k)) := ownsRow_of_block (w' := (wr.alloc (.cells #[.int .u8 (V : Int)] 5)).drew) ho (fun g hg => Below.heap_alloc _ _ _ (ho.lt g hg).2)
      have hsr : Src (wr.alloc (.cells #[.int .u8 (V : Int)] 5)).drew (.slice (some ⟨wr.heap.size, 0, none⟩) 1 1) [V] := (lit_src wr [V] #[.int .u8 (V : Int)] 1 1 rfl (by simp [cellsOf, B, Nat.mod_eq_of_lt vlt])).fr0 (Fr.refl _ _).drew
      obtain ⟨ao, c', w2, hr, hown, hgrow, hat⟩ := run_app_sl _ 25 w.heap.size k _ _ _ [V] ho2 hsr (by simp; omega) (by have := hF.size; simp; omega)
      have hF2 : Fr (fun _ => False) w w2 := ((hF.alloc _).drew).grown hgrow (fun g hg => .inr (ho.lt g hg).1)
      have hnew : w2.ownsRow w.heap.size 5 1 (.slice ao (k + 1) c') (k + 1) (cellsOf (hxk (bytesOf s) (k + 1))) := by
        rw [hxk_succ, hv, cellsOf_append]; exact hown
      have hj' : j + 2 = 2 * (k + 1) := by omega
      have HR := hide hr
      have HV := hide (And.intro hnew (And.intro hF2 hj'))
      clear hv hj ho hF e0 e1 hlt1 hlt2 hlt3 ho2 hsr hr hown hgrow hat hF2 hnew hj'
      go_wp2_with fail
      go_region_held3 (fun _ => True) (trivial) (first
        | (go_at_call 52; refine (hd0 _).mono ?_; rintro e w' ⟨rfl, rfl⟩; clear hd0)
        | (go_at_call 52; refine (hd1 _).mono ?_; rintro e w' ⟨rfl, rfl⟩)
        | (refine step_app rfl (.tmp 12) (.tmp 24) 25 25 rfl (.slice xo k xcap) (.slice (some ⟨wr.heap.size, 0, none⟩) 1 1) _ (by simp [Act.eval]) (by simp [Act.eval]) (unhide HR) ?_))
      all_goals
        go_wp2_with fail
        exact ⟨⟨k + 1, j + 2, (unhide HV).2.2, hj2, by go_num, (unhide HV).1, (unhide HV).2.1⟩, by simp [intOf]; omega⟩
    · have hlt' : ¬ (j : Int) + 1 < (s.size : Int) := by omega
      have e : hxl (bytesOf s) = hxk (bytesOf s) k := by rw [hxl, bytesOf_length]; congr 1; omega
      obtain ⟨xo, xcap, rfl⟩ := own_form ho
      have hO : OB w wr xo xcap (hxk (bytesOf s) k) := ⟨by rw [hxk_len]; exact ho, hF⟩
      have hl := hxk_len (bytesOf s) k
      rw [← e] at hO hl
      have HV := hide (And.intro hO hl)
      clear hO hF ho e hj hl
      go_wp2_with fail
      go_ret
      exact ⟨xo, xcap, by rw [(unhide HV).2]; rfl, (unhide HV).1⟩
/-- A literal of slices of bytes. -/
theorem pcs_lit {w : World} {vs : List Value} {ps : List (List Nat)} (hl : vs.length = ps.length) (hs : ∀ (j : Nat) v p, vs[j]? = some v → ps[j]? = some p → Sl w v p) (W : World) (hW : w.alloc (.cells vs.toArray 25) = W) (n : Nat) (hn : vs.length = n) : Pcs W (.slice (some ⟨w.heap.size, 0, none⟩) n n) vs ps ∧ Fr (fun _ => False) w W := by
  have hF1 : Fr (fun _ => False) w W := by rw [← hW]; exact (Fr.refl _ _).alloc _
  have hc : ∀ j, W.cell? ⟨w.heap.size, 0 + j, none⟩ = vs.toArray[j]? := fun j => by rw [Nat.zero_add, ← hW, World.cell?_alloc_at _ _ _ _ rfl]
  have hlt : w.heap.size < W.heap.size := by rw [← hW]; simp
  refine ⟨⟨hl, .inr (.inr ⟨w.heap.size, 0, n, by rw [hn], hlt, fun j v hv => ?_⟩), fun j v p hv hp => ?_, fun p hp => ?_⟩, hF1⟩
  · rw [hc j]; simpa using hv
  · have := (hs j v p hv hp).fr0 hF1
    exact ⟨this.s, this.cap, this.lt⟩
  · obtain ⟨j, hj, rfl⟩ := List.getElem_of_mem hp
    exact (hs j (vs[j]'(by omega)) ps[j] (List.getElem?_eq_getElem _) (List.getElem?_eq_getElem hj)).b
/-- The entries of the document's examples. -/
def tes : List (List Nat) := [[], [0], [16], [32, 33], [48, 49], [64, 65, 66, 67], [80, 81, 82, 83, 84, 85, 86, 87], [96, 97, 98, 99, 100, 101, 102, 103, 104, 105, 106, 107, 108, 109, 110, 111]]
theorem hex_lit (s : ByteArray) (l : List Nat) (w : World) (hs : s.size < 1048576) (hl : hxl (bytesOf s) = l) (n : Nat) (hn : l.length = n) (hb : ∀ v ∈ l, v < 256) : Calls Tryd.prog 24 #[.string s] w fun e w' => ∃ yo yc, e = .returned (.slice yo n yc) ∧ Sl w' (.slice yo n yc) l ∧ Fr (fun _ => False) w w' := by
  refine (hex_O s w hs).mono ?_
  rintro e w' ⟨yo, yc, rfl, hO⟩
  rw [hl] at hO ⊢
  have := hO.sl hb
  rw [hn] at this ⊢
  exact ⟨yo, yc, rfl, this, hO.fr⟩
theorem sl_nil (w : World) : Sl w (.slice none 0 0) [] := ⟨.inl ⟨rfl, rfl⟩, fun _ _ _ e => by cases e; exact Nat.le_refl _, .inl rfl, fun _ h => by cases h⟩
set_option maxRecDepth 100000 in
set_option maxHeartbeats 4000000 in
theorem tests_any (w : World) : Calls Tryd.prog 21 #[] w fun e w' => ∃ g vs, e = .returned (.slice (some ⟨g, 0, none⟩) 8 8) ∧ Pcs w' (.slice (some ⟨g, 0, none⟩) 8 8) vs tes ∧ Fr (fun _ => False) w w' := by
  go_enter Tryd.func21, Tryd.ntmps21
  go_wp2_with fail
  refine (hex_lit ⟨#[48, 48]⟩ [0] _ (by decide) (by decide) 1 rfl (by decide)).mono ?_
  rintro e w1 ⟨a1, c1, rfl, hS, hF⟩
  have S1 := hide hS
  have F1 := hide hF
  clear hS hF
  go_wp2_with fail
  refine (hex_lit ⟨#[49, 48]⟩ [16] _ (by decide) (by decide) 1 rfl (by decide)).mono ?_
  rintro e w2 ⟨a2, c2, rfl, hS, hF⟩
  have S1 := hide ((unhide S1).fr0 hF)
  have S2 := hide hS
  have F2 := hide ((unhide F1).trans hF (fun _ _ h => h))
  clear hS hF
  go_wp2_with fail
  refine (hex_lit ⟨#[50, 48, 50, 49]⟩ [32, 33] _ (by decide) (by decide) 2 rfl (by decide)).mono ?_
  rintro e w3 ⟨a3, c3, rfl, hS, hF⟩
  have S1 := hide ((unhide S1).fr0 hF)
  have S2 := hide ((unhide S2).fr0 hF)
  have S3 := hide hS
  have F3 := hide ((unhide F2).trans hF (fun _ _ h => h))
  clear hS hF
  go_wp2_with fail
  refine (hex_lit ⟨#[51, 48, 51, 49]⟩ [48, 49] _ (by decide) (by decide) 2 rfl (by decide)).mono ?_
  rintro e w4 ⟨a4, c4, rfl, hS, hF⟩
  have S1 := hide ((unhide S1).fr0 hF)
  have S2 := hide ((unhide S2).fr0 hF)
  have S3 := hide ((unhide S3).fr0 hF)
  have S4 := hide hS
  have F4 := hide ((unhide F3).trans hF (fun _ _ h => h))
  clear hS hF
  go_wp2_with fail
  refine (hex_lit ⟨#[52, 48, 52, 49, 52, 50, 52, 51]⟩ [64, 65, 66, 67] _ (by decide) (by decide) 4 rfl (by decide)).mono ?_
  rintro e w5 ⟨a5, c5, rfl, hS, hF⟩
  have S1 := hide ((unhide S1).fr0 hF)
  have S2 := hide ((unhide S2).fr0 hF)
  have S3 := hide ((unhide S3).fr0 hF)
  have S4 := hide ((unhide S4).fr0 hF)
  have S5 := hide hS
  have F5 := hide ((unhide F4).trans hF (fun _ _ h => h))
  clear hS hF
  go_wp2_with fail
  refine (hex_lit ⟨#[53, 48, 53, 49, 53, 50, 53, 51, 53, 52, 53, 53, 53, 54, 53, 55]⟩ [80, 81, 82, 83, 84, 85, 86, 87] _ (by decide) (by decide) 8 rfl (by decide)).mono ?_
  rintro e w6 ⟨a6, c6, rfl, hS, hF⟩
  have S1 := hide ((unhide S1).fr0 hF)
  have S2 := hide ((unhide S2).fr0 hF)
  have S3 := hide ((unhide S3).fr0 hF)
  have S4 := hide ((unhide S4).fr0 hF)
  have S5 := hide ((unhide S5).fr0 hF)
  have S6 := hide hS
  have F6 := hide ((unhide F5).trans hF (fun _ _ h => h))
  clear hS hF
  go_wp2_with fail
  refine (hex_lit ⟨#[54, 48, 54, 49, 54, 50, 54, 51, 54, 52, 54, 53, 54, 54, 54, 55, 54, 56, 54, 57, 54, 97, 54, 98, 54, 99, 54, 100, 54, 101, 54, 102]⟩ [96, 97, 98, 99, 100, 101, 102, 103, 104, 105, 106, 107, 108, 109, 110, 111] _ (by decide) (by decide) 16 rfl (by decide)).mono ?_
  rintro e w7 ⟨a7, c7, rfl, hS, hF⟩
  have S1 := hide ((unhide S1).fr0 hF)
  have S2 := hide ((unhide S2).fr0 hF)
  have S3 := hide ((unhide S3).fr0 hF)
  have S4 := hide ((unhide S4).fr0 hF)
  have S5 := hide ((unhide S5).fr0 hF)
  have S6 := hide ((unhide S6).fr0 hF)
  have S7 := hide hS
  have F7 := hide ((unhide F6).trans hF (fun _ _ h => h))
  clear hS hF
  go_wp2_with fail
  go_ret
  obtain ⟨hP, hF⟩ := pcs_lit (w := w7) (vs := [.slice none 0 0, .slice a1 1 c1, .slice a2 1 c2, .slice a3 2 c3, .slice a4 2 c4, .slice a5 4 c5, .slice a6 8 c6, .slice a7 16 c7]) (ps := tes) rfl (fun j v p hv hp => by
    match j with
    | 0 => simp [tes] at hv hp; subst hv hp; exact sl_nil _
    | 1 => simp [tes] at hv hp; subst hv hp; exact unhide S1
    | 2 => simp [tes] at hv hp; subst hv hp; exact unhide S2
    | 3 => simp [tes] at hv hp; subst hv hp; exact unhide S3
    | 4 => simp [tes] at hv hp; subst hv hp; exact unhide S4
    | 5 => simp [tes] at hv hp; subst hv hp; exact unhide S5
    | 6 => simp [tes] at hv hp; subst hv hp; exact unhide S6
    | 7 => simp [tes] at hv hp; subst hv hp; exact unhide S7
    | j + 8 => simp at hv) _ rfl 8 rfl
  exact ⟨_, _, rfl, hP, (unhide F7).trans hF (fun _ _ h => h)⟩
end Go.Proofs.YthccbfgjekdiiaaDoor

namespace Go.Proofs.YthccbfgjekdiiaaDoor
open Go.RowKit

/-- SUB. -/
def subF (wi : Nat) (ls : List (List Nat)) (m : Nat) (b : Bool) : List (List Nat) :=
  if _h : m = ls.length ∨ ls.length < 2 then (if b then [] else [mth wi ls])
  else if m ≤ hf ls.length then subF wi (ls.take (hf ls.length)) m b ++ [mth wi (ls.drop (hf ls.length))]
  else subF wi (ls.drop (hf ls.length)) (m - hf ls.length) false ++ [mth wi (ls.take (hf ls.length))]
termination_by ls.length
decreasing_by
  · rw [List.length_take]; have := hf_lt ls.length (by omega); omega
  · rw [List.length_drop]; have := hf_pos ls.length; omega
theorem subF_eq {wi : Nat} {ls : List (List Nat)} {m : Nat} {b : Bool} (h : m = ls.length) : subF wi ls m b = if b then [] else [mth wi ls] := by rw [subF, dif_pos (.inl h)]
theorem subF_l {wi : Nat} {ls : List (List Nat)} {m : Nat} {b : Bool} (h : 2 ≤ ls.length) (hne : ¬ m = ls.length) (hi : m ≤ hf ls.length) : subF wi ls m b = subF wi (ls.take (hf ls.length)) m b ++ [mth wi (ls.drop (hf ls.length))] := by
  conv => lhs; rw [subF, dif_neg (by omega), if_pos hi]
theorem subF_r {wi : Nat} {ls : List (List Nat)} {m : Nat} {b : Bool} (h : 2 ≤ ls.length) (hne : ¬ m = ls.length) (hi : ¬ m ≤ hf ls.length) : subF wi ls m b = subF wi (ls.drop (hf ls.length)) (m - hf ls.length) false ++ [mth wi (ls.take (hf ls.length))] := by
  conv => lhs; rw [subF, dif_neg (by omega), if_neg hi]
theorem subF_le (wi : Nat) (k : Nat) : ∀ (ls : List (List Nat)) (m : Nat) (b : Bool), ls.length ≤ k → (subF wi ls m b).length ≤ ls.length + 1 := by
  induction k with
  | zero => intro ls m b h; rw [subF, dif_pos (by omega)]; split <;> simp
  | succ k ih =>
    intro ls m b h
    by_cases h2 : m = ls.length ∨ ls.length < 2
    · rw [subF, dif_pos h2]; split <;> simp
    · have h3 := hf_lt ls.length (by omega)
      have h4 := hf_pos ls.length
      by_cases hi : m ≤ hf ls.length
      · rw [subF_l (by omega) (by omega) hi, List.length_append]
        have := ih (ls.take (hf ls.length)) m b (by rw [List.length_take]; omega)
        rw [List.length_take] at this
        simp; omega
      · rw [subF_r (by omega) (by omega) hi, List.length_append]
        have := ih (ls.drop (hf ls.length)) (m - hf ls.length) false (by rw [List.length_drop]; omega)
        rw [List.length_drop] at this
        simp; omega
/-- SUB by the part where it ends. -/
theorem sub_bes (wi : Nat) (L : List (List Nat)) (k : Nat) : ∀ f n m, n ≤ k → f + n ≤ L.length → 0 < m → m ≤ n →
    subF wi (blk L f n) m true = (if (endF f n (f + m)).1 = f then bes wi L f n (endF f n (f + m)).1 (endF f n (f + m)).2 else mth wi (blk L (endF f n (f + m)).1 (endF f n (f + m)).2) :: bes wi L f n (endF f n (f + m)).1 (endF f n (f + m)).2) ∧
    subF wi (blk L f n) m false = mth wi (blk L (endF f n (f + m)).1 (endF f n (f + m)).2) :: bes wi L f n (endF f n (f + m)).1 (endF f n (f + m)).2 := by
  induction k with
  | zero => intro f n m h1 _ h2 h3; omega
  | succ k ih =>
    intro f n m h1 hL h2 h3
    have hlen := blk_len L f n hL
    by_cases e : m = n
    · subst e
      rw [endF_eq rfl, subF_eq hlen.symm, subF_eq hlen.symm, if_pos rfl, bes_eq]
      exact ⟨by rw [if_pos rfl], by simp⟩
    · have hlt := hf_lt n (by omega)
      have hp := hf_pos n
      by_cases hl : m ≤ hf n
      · obtain ⟨i1, i2⟩ := ih f (hf n) m (by omega) (by omega) h2 hl
        obtain ⟨o1, o2, o3, o4, o5⟩ := endF_ok (hf n) f (hf n) (f + m) (Nat.le_refl _) (by omega) (by omega)
        have e1 : ∀ b, subF wi (blk L f n) m b = subF wi (blk L f (hf n)) m b ++ [mth wi (blk L (f + hf n) (n - hf n))] := fun b => by
          rw [subF_l (by omega) (by omega) (by rw [hlen]; exact hl), hlen, blk_take _ _ _ _ (by omega), blk_drop]
        have e2 : endF f n (f + m) = endF f (hf n) (f + m) := endF_l (by omega) (by omega) (by omega)
        rw [e1 true, e1 false, i1, i2, e2]
        generalize endF f (hf n) (f + m) = E at *
        have e3 : bes wi L f n E.1 E.2 = bes wi L f (hf n) E.1 E.2 ++ [mth wi (blk L (f + hf n) (n - hf n))] := bes_l (by omega) (by omega) (by omega)
        rw [e3]
        refine ⟨?_, by simp⟩
        split
        · rfl
        · simp
      · obtain ⟨i1, i2⟩ := ih (f + hf n) (n - hf n) (m - hf n) (by omega) (by omega) (by omega) (by omega)
        have ee : f + hf n + (m - hf n) = f + m := by omega
        rw [ee] at i1 i2
        obtain ⟨o1, o2, o3, o4, o5⟩ := endF_ok (n - hf n) (f + hf n) (n - hf n) (f + m) (Nat.le_refl _) (by omega) (by omega)
        have e1 : ∀ b, subF wi (blk L f n) m b = subF wi (blk L (f + hf n) (n - hf n)) (m - hf n) false ++ [mth wi (blk L f (hf n))] := fun b => by
          rw [subF_r (by omega) (by omega) (by rw [hlen]; exact hl), hlen, blk_take _ _ _ _ (by omega), blk_drop]
        have e2 : endF f n (f + m) = endF (f + hf n) (n - hf n) (f + m) := endF_r (by omega) (by omega) (by omega)
        rw [e1 true, e1 false, i2, e2]
        generalize endF (f + hf n) (n - hf n) (f + m) = E at *
        have e3 : bes wi L f n E.1 E.2 = bes wi L (f + hf n) (n - hf n) E.1 E.2 ++ [mth wi (blk L f (hf n))] := bes_r (by omega) (by omega) (by omega)
        rw [e3, if_neg (by omega)]
        exact ⟨by simp, by simp⟩
theorem prf_sub (wi : Nat) (L : List (List Nat)) (m : Nat) (hm : m ≤ L.length) : prf wi L L.length m = if m = 0 ∨ m = L.length then [] else subF wi L m true := by
  rw [prf]
  by_cases h0 : m = 0
  · rw [if_pos h0, if_pos (.inl h0)]
  · rw [if_neg h0]
    by_cases h1 : m = L.length
    · have e1 : (if m = 0 ∨ m = L.length then ([] : List (List Nat)) else subF wi L m true) = [] := if_pos (.inr h1)
      rw [e1, endF_eq (by omega), if_pos rfl, bes_eq]
    · have e1 : (if m = 0 ∨ m = L.length then ([] : List (List Nat)) else subF wi L m true) = subF wi L m true := if_neg (by omega)
      have := (sub_bes wi L L.length 0 L.length m (Nat.le_refl _) (by omega) (by omega) hm).1
      rw [blk_all, Nat.zero_add] at this
      rw [e1]
      exact this.symm
def SubSays (wi : Nat) (ls : List (List Nat)) (I : Nat) (b : Bool) (x : Value) (w : World) : Prop :=
  Calls Tryd.prog 94 #[.int .i64 wi, .int .i64 I, x, .bool b] w fun e w' => ∃ yo yc us, e = .returned (.slice yo (subF wi ls I b).length yc) ∧ Pcs w' (.slice yo (subF wi ls I b).length yc) us (subF wi ls I b) ∧ Fr (fun _ => False) w w'
theorem pcs_nil (w : World) : Pcs w (.slice none 0 0) [] [] := ⟨rfl, .inl ⟨rfl, rfl⟩, (fun j v p h => by simp at h), (fun p h => by cases h)⟩
set_option maxRecDepth 100000 in
set_option maxHeartbeats 1000000 in
theorem gsub_end (wi : Nat) (ps : List (List Nat)) (b : Bool) (x : Value) (vs : List Value) (w : World) (hr : GR w) (hp : Pcs w x vs ps) (hcx : Cp x) (hn : ps.length ≤ 8000000) (hB : ∀ p ∈ ps, p.length ≤ 4000000) : SubSays wi ps ps.length b x w := by
  have hof := of_any wi _ ps x vs w (Nat.le_refl _) hn hr hp hcx hB
  unfold SubSays
  unfold OfSays at hof
  rw [subF_eq rfl]
  obtain ⟨xo, xc, rfl⟩ := hp.form
  generalize mth wi ps = M at *
  have HC := hide hof
  clear hof hp hcx hn hB hr
  generalize ps.length = N at *
  have q1 : ((N : Int) == (N : Int)) = true := by simp
  cases b
  · go_enter Tryd.func94, Tryd.ntmps94
    go_wp2_with fail
    refine (unhide HC).mono ?_
    rintro e w1 ⟨yo, yc, rfl, hS, hF⟩
    obtain ⟨W, hW⟩ : ∃ W, w1.alloc (.cells #[.slice yo M.length yc] 25) = W := ⟨_, rfl⟩
    obtain ⟨hP, hF2⟩ := pcs_lit (w := w1) (vs := [.slice yo M.length yc]) (ps := [M]) rfl (fun j v p hv hp => by
      match j with
      | 0 => simp at hv hp; subst hv hp; exact hS
      | j + 1 => simp at hv) W hW 1 rfl
    have H1 := hide (And.intro hP (hF.trans hF2 (fun _ _ h => h)))
    clear hP hF hF2 hS
    generalize M.length = ML at *
    go_wp2_with fail
    go_ret
    first | exact ⟨_, 1, _, rfl, (unhide H1).1, (unhide H1).2⟩ | exact ⟨_, 1, rfl, ⟨_, (unhide H1).1⟩, (unhide H1).2⟩
  · go_enter Tryd.func94, Tryd.ntmps94
    go_wp2_with fail
    go_ret
    first | exact ⟨none, 0, [], rfl, pcs_nil _, Fr.refl _ _⟩ | exact ⟨none, 0, rfl, ⟨[], pcs_nil _⟩, Fr.refl _ _⟩ | exact ⟨none, 0, rfl, [], pcs_nil _, Fr.refl _ _⟩
set_option maxRecDepth 100000 in
set_option maxHeartbeats 1000000 in
/-- The ref's sub. -/
theorem gsub_any (wi : Nat) (n : Nat) : ∀ (ps : List (List Nat)) (I : Nat) (b : Bool) (x : Value) (vs : List Value) (w : World), ps.length ≤ n → ps.length ≤ 8000000 - 1 → 0 < I → I ≤ ps.length → GR w → Pcs w x vs ps → Cp x → (∀ p ∈ ps, p.length ≤ 4000000) → SubSays wi ps I b x w := by
  induction n with
  | zero => intro ps I b x vs w hl _ h0 hI; omega
  | succ n ih =>
    intro ps I b x vs w hl hl8 h0 hIl hr hp hcx hB
    by_cases hne : I = ps.length
    · subst hne
      exact gsub_end wi ps b x vs w hr hp hcx (by omega) hB
    · obtain ⟨xo, xc, rfl⟩ := hp.form
      obtain ⟨g, o, v, rfl, -⟩ := hp.cell (Fr.refl _ _) 0 (by omega)
      have hk1 := hf_lt ps.length (by omega)
      have hk2 := hf_pos ps.length
      have hle : vs.length = ps.length := hp.len
      have hcapx : ps.length ≤ xc := hcx _ _ _ rfl
      have cp1 : Cp (.slice (some ⟨g, o, none⟩) (hf ps.length) xc) := fun _ _ _ e => by cases e; omega
      have cp2 : Cp (.slice (some ⟨g, o + hf ps.length, none⟩) (ps.length - hf ps.length) (xc - hf ps.length)) := fun _ _ _ e => by cases e; omega
      have hP1 := hp.take (hf ps.length) (by omega)
      have hP2 := hp.drop (hf ps.length) hk1
      have hB1 : ∀ p ∈ ps.take (hf ps.length), p.length ≤ 4000000 := fun p h => hB p (List.mem_of_mem_take h)
      have hB2 : ∀ p ∈ ps.drop (hf ps.length), p.length ≤ 4000000 := fun p h => hB p (List.mem_of_mem_drop h)
      have hl1 : (ps.take (hf ps.length)).length = hf ps.length := by rw [List.length_take]; omega
      have hl2 : (ps.drop (hf ps.length)).length = ps.length - hf ps.length := by rw [List.length_drop]
      have hha := half_any ps.length w (by omega) (by omega)
      by_cases hI : I ≤ hf ps.length
      · have hmt := subF_l (wi := wi) (ls := ps) (m := I) (b := b) (by omega) hne hI
        have c1 : ∀ w', Fr (fun _ => False) w w' → SubSays wi (ps.take (hf ps.length)) I b (.slice (some ⟨g, o, none⟩) (hf ps.length) xc) w' := fun w' hfr => ih _ _ _ _ _ w' (by omega) (by omega) (by omega) (by omega) (hr.fr0 hfr) (hP1.fr0 hfr) cp1 hB1
        have c2 : ∀ w', Fr (fun _ => False) w w' → OfSays wi (ps.drop (hf ps.length)) (.slice (some ⟨g, o + hf ps.length, none⟩) (ps.length - hf ps.length) (xc - hf ps.length)) w' := fun w' hfr => of_any wi _ _ _ _ w' (Nat.le_refl _) (by omega) (hr.fr0 hfr) (hP2.fr0 hfr) cp2 hB2
        have hplen : (subF wi (ps.take (hf ps.length)) I b).length ≤ 8000000 := Nat.le_trans (subF_le wi _ _ _ _ (Nat.le_refl _)) (by omega)
        unfold SubSays at c1 ⊢
        unfold OfSays at c2
        rw [hmt]
        generalize subF wi (ps.take (hf ps.length)) I b = P1 at *
        generalize mth wi (ps.drop (hf ps.length)) = M2 at *
        have hwith : ∀ (x y : Value) us w', Pcs w' x us P1 → Sl w' y M2 → _ := fun x y us w' h1 h2 => with_any x y us P1 M2 w' h1 h2 hplen
        have HG := hide (And.intro c1 (And.intro c2 (And.intro hwith hha)))
        clear hr hP1 hP2 c1 c2 hha hmt hB hB1 hB2 hp hl1 hl2 ih cp1 cp2 hcx hwith hplen
        generalize hK : hf ps.length = K at *
        have q1 : (K : Int) ≤ (ps.length : Int) := by omega
        have q2 : (K : Int) ≤ (xc : Int) := by omega
        have q3 : ¬ (I : Int) = (ps.length : Int) := by omega
        have q3b : ((I : Int) == (ps.length : Int)) = false := beq_false_of_ne q3
        have q4 : ¬ ps.length < 2 := by omega
        have q7 : (I : Int) ≤ (K : Int) := by omega
        have q8 : IntKind.i64.wrap ((I : Int) - (K : Int)) = ((I - K : Nat) : Int) ∨ True := .inr trivial
        clear q8 hK
        generalize ps.length = N at *
        go_enter Tryd.func94, Tryd.ntmps94
        go_wp2_with fail
        refine (unhide HG).2.2.2.mono ?_
        rintro e w0 ⟨rfl, rfl⟩
        go_wp2_with fail
        have q5 : ¬ xc = K := by omega
        have q6 : ¬ K = xc := by omega
        go_region_held3 (fun _ => True) (trivial) (first
          | (go_at_call 94; refine ((unhide HG).1 _ ((Fr.refl _ _).drew)).mono ?_; rintro e wA ⟨yA, cA, uA, rfl, sA, fA⟩)
          | (go_at_call 68; refine ((unhide HG).2.1 _ (((Fr.refl _ _).drew).trans fA (fun _ _ h => h))).mono ?_; rintro e wB ⟨yB, cB, rfl, sB, fB⟩)
          | (go_at_call 93; refine ((unhide HG).2.2.1 _ _ _ wB (sA.fr0 fB) sB).mono ?_; rintro e wC ⟨zo, zc, rfl, oC, fC⟩))
        have hFC : Fr (fun _ => False) w0 wC := ((((Fr.refl (fun _ => False) w0).drew).trans fA (fun _ _ h => h)).trans fB (fun _ _ h => h)).trans fC (fun _ _ h => h)
        have HE := hide (And.intro oC hFC)
        clear hFC oC
        go_wp2_with fail
        go_ret
        exact ⟨zo, zc, _, by rw [List.length_append]; rfl, by rw [List.length_append]; exact (unhide HE).1, (unhide HE).2⟩
      · have hmt := subF_r (wi := wi) (ls := ps) (m := I) (b := b) (by omega) hne hI
        have c1 : ∀ w', Fr (fun _ => False) w w' → SubSays wi (ps.drop (hf ps.length)) (I - hf ps.length) false (.slice (some ⟨g, o + hf ps.length, none⟩) (ps.length - hf ps.length) (xc - hf ps.length)) w' := fun w' hfr => ih _ _ _ _ _ w' (by omega) (by omega) (by omega) (by omega) (hr.fr0 hfr) (hP2.fr0 hfr) cp2 hB2
        have c2 : ∀ w', Fr (fun _ => False) w w' → OfSays wi (ps.take (hf ps.length)) (.slice (some ⟨g, o, none⟩) (hf ps.length) xc) w' := fun w' hfr => of_any wi _ _ _ _ w' (Nat.le_refl _) (by omega) (hr.fr0 hfr) (hP1.fr0 hfr) cp1 hB1
        have hplen : (subF wi (ps.drop (hf ps.length)) (I - hf ps.length) false).length ≤ 8000000 := Nat.le_trans (subF_le wi _ _ _ _ (Nat.le_refl _)) (by omega)
        unfold SubSays at c1 ⊢
        unfold OfSays at c2
        rw [hmt]
        generalize subF wi (ps.drop (hf ps.length)) (I - hf ps.length) false = P1 at *
        generalize mth wi (ps.take (hf ps.length)) = M2 at *
        have hwith : ∀ (x y : Value) us w', Pcs w' x us P1 → Sl w' y M2 → _ := fun x y us w' h1 h2 => with_any x y us P1 M2 w' h1 h2 hplen
        have HG := hide (And.intro c1 (And.intro c2 (And.intro hwith hha)))
        clear hr hP1 hP2 c1 c2 hha hmt hB hB1 hB2 hp hl1 hl2 ih cp1 cp2 hcx hwith hplen
        generalize hK : hf ps.length = K at *
        have q1 : (K : Int) ≤ (ps.length : Int) := by omega
        have q2 : (K : Int) ≤ (xc : Int) := by omega
        have q3 : ¬ (I : Int) = (ps.length : Int) := by omega
        have q3b : ((I : Int) == (ps.length : Int)) = false := beq_false_of_ne q3
        have q4 : ¬ ps.length < 2 := by omega
        have q7 : ¬ (I : Int) ≤ (K : Int) := by omega
        have q8 : IntKind.i64.wrap ((I : Int) - (K : Int)) = ((I - K : Nat) : Int) ∨ True := .inr trivial
        have q9 : IntKind.i64.wrap ((I : Int) - (K : Int)) = (I : Int) - (K : Int) := by rw [IntKind.wrap_i64]; omega
        have q10 : ((I - K : Nat) : Int) = (I : Int) - (K : Int) := by omega
        rw [q10] at HG
        clear q8 hK q10
        generalize ps.length = N at *
        go_enter Tryd.func94, Tryd.ntmps94
        go_wp2_with fail
        refine (unhide HG).2.2.2.mono ?_
        rintro e w0 ⟨rfl, rfl⟩
        go_wp2_with fail
        have q5 : ¬ xc = K := by omega
        have q6 : ¬ K = xc := by omega
        go_region_held3 (fun _ => True) (trivial) (first
          | (go_at_call 94; refine ((unhide HG).1 _ ((Fr.refl _ _).drew)).mono ?_; rintro e wA ⟨yA, cA, uA, rfl, sA, fA⟩)
          | (go_at_call 68; refine ((unhide HG).2.1 _ (((Fr.refl _ _).drew).trans fA (fun _ _ h => h))).mono ?_; rintro e wB ⟨yB, cB, rfl, sB, fB⟩)
          | (go_at_call 93; refine ((unhide HG).2.2.1 _ _ _ wB (sA.fr0 fB) sB).mono ?_; rintro e wC ⟨zo, zc, rfl, oC, fC⟩))
        have hFC : Fr (fun _ => False) w0 wC := ((((Fr.refl (fun _ => False) w0).drew).trans fA (fun _ _ h => h)).trans fB (fun _ _ h => h)).trans fC (fun _ _ h => h)
        have HE := hide (And.intro oC hFC)
        clear hFC oC
        go_wp2_with fail
        go_ret
        exact ⟨zo, zc, _, by rw [List.length_append]; rfl, by rw [List.length_append]; exact (unhide HE).1, (unhide HE).2⟩
end Go.Proofs.YthccbfgjekdiiaaDoor

namespace Go.Proofs.YthccbfgjekdiiaaDoor
open Go.RowKit

set_option maxRecDepth 100000 in
set_option maxHeartbeats 1000000 in
/-- The ref's ProofOf. -/
theorem gproofOf_any (wi : Nat) (ps : List (List Nat)) (m : Nat) (x : Value) (vs : List Value) (w : World) (hr : GR w) (hp : Pcs w x vs ps) (hcx : Cp x) (hn : ps.length ≤ 4000000) (hB : ∀ p ∈ ps, p.length ≤ 4000000) (hm : m ≤ ps.length) :
    Calls Tryd.prog 75 #[.int .i64 wi, x, .int .i64 m] w fun e w' => ∃ yo yc us, e = .returned (.slice yo (prf wi ps ps.length m).length yc) ∧ Pcs w' (.slice yo (prf wi ps ps.length m).length yc) us (prf wi ps ps.length m) ∧ Fr (fun _ => False) w w' := by
  rw [prf_sub wi ps m hm]
  by_cases h0 : m = 0 ∨ m = ps.length
  · rw [if_pos h0]
    obtain ⟨xo, xc, rfl⟩ := hp.form
    clear hp hcx hn hB hm hr
    rcases h0 with h0 | h0
    · subst h0
      generalize ps.length = N at *
      have e0 : ((0 : Nat) : Int) = 0 := rfl
      simp only [e0]
      go_enter Tryd.func75, Tryd.ntmps75
      go_wp2_with fail
      go_ret
      first | exact ⟨none, 0, [], rfl, pcs_nil _, Fr.refl _ _⟩ | exact ⟨none, 0, rfl, ⟨[], pcs_nil _⟩, Fr.refl _ _⟩
    · subst h0
      generalize ps.length = N at *
      by_cases hN : N = 0
      · subst hN
        have e0 : ((0 : Nat) : Int) = 0 := rfl
        simp only [e0]
        go_enter Tryd.func75, Tryd.ntmps75
        go_wp2_with fail
        go_ret
        first | exact ⟨none, 0, [], rfl, pcs_nil _, Fr.refl _ _⟩ | exact ⟨none, 0, rfl, ⟨[], pcs_nil _⟩, Fr.refl _ _⟩
      · have q0 : ((N : Int) == 0) = false := beq_false_of_ne (by omega)
        go_enter Tryd.func75, Tryd.ntmps75
        go_wp2_with fail
        go_ret
        first | exact ⟨none, 0, [], rfl, pcs_nil _, Fr.refl _ _⟩ | exact ⟨none, 0, rfl, ⟨[], pcs_nil _⟩, Fr.refl _ _⟩
  · rw [if_neg h0]
    have hs := gsub_any wi _ ps m true x vs w (Nat.le_refl _) (by omega) (by omega) hm hr hp hcx hB
    unfold SubSays at hs
    obtain ⟨xo, xc, rfl⟩ := hp.form
    generalize subF wi ps m true = SB at *
    have HC := hide hs
    have q0 : ((m : Int) == 0) = false := beq_false_of_ne (by omega)
    have q1 : ((m : Int) == (ps.length : Int)) = false := beq_false_of_ne (by omega)
    have q2 : ¬ m = 0 := by omega
    have q3 : ¬ (m : Int) = (ps.length : Int) := by omega
    clear hs hp hcx hn hB hm hr h0
    generalize ps.length = N at *
    go_enter Tryd.func75, Tryd.ntmps75
    go_wp2_with fail
    refine (unhide HC).mono ?_
    rintro e w1 ⟨yo, yc, us, rfl, hP, hF⟩
    have H1 := hide (And.intro hP hF)
    clear hP hF
    go_wp2_with fail
    go_ret
    first | exact ⟨yo, yc, us, rfl, (unhide H1).1, (unhide H1).2⟩ | exact ⟨yo, yc, rfl, ⟨us, (unhide H1).1⟩, (unhide H1).2⟩
/-- The leaves of a tree, as the ref has them. -/
theorem gleaves_C (i : Int) (x : Value) (vs : List Value) (es : List (List Nat)) (w : World) (hr : GR w) (hp : Pcs w x vs es) (hB : ∀ e ∈ es, e.length ≤ 4000000) (hn : es.length ≤ 8000000) :
    Calls Tryd.prog 41 #[.int .i64 i, x] w fun e' w' => ∃ ao cp us, e' = .returned (.slice ao es.length cp) ∧ Pcs w' (.slice ao es.length cp) us (es.map (lf i)) ∧ Fr (fun _ => False) w w' ∧ Cp (.slice ao es.length cp) := by
  refine (gleaves_any i x vs es w hr hp hB hn).mono ?_
  rintro e w' ⟨ao, cp, us, rfl, h1, h2, h3⟩
  exact ⟨ao, cp, us, rfl, h1, h2, fun _ _ _ e => by cases e; exact h3⟩
set_option maxRecDepth 100000 in
set_option maxHeartbeats 1000000 in
theorem gpath_in (wi : Nat) (hw1 : 1 ≤ wi) (hw32 : wi ≤ 32) (x : Value) (vs : List Value) (es : List (List Nat)) (m : Nat) (w : World) (hr : GR w) (hp : Pcs w x vs es) (hB : ∀ e ∈ es, e.length ≤ 4000000) (hn : es.length ≤ 4000000) (hm : m < es.length) :
    Calls Tryd.prog 45 #[.int .i64 wi, x, .int .i64 m] w fun e w' => ∃ yo yc us, e = .returned (.tuple #[.slice yo (pth wi (es.map (lf wi)) m).length yc, .int .i64 0]) ∧ Pcs w' (.slice yo (pth wi (es.map (lf wi)) m).length yc) us (pth wi (es.map (lf wi)) m) ∧ Fr (fun _ => False) w w' := by
  have hlv := gleaves_C wi x vs es w hr hp hB (by omega)
  have hll : (es.map (lf (wi : Int))).length = es.length := List.length_map _
  have hin : ∀ w' (x : Value) us, GR w' → Pcs w' x us (es.map (lf wi)) → Cp x → PathSays wi (es.map (lf wi)) m x w' := fun w' x us h1 h2 h3 => gpath_any wi _ (es.map (lf wi)) m x us w' (Nat.le_refl _) (by omega) (by omega) h1 h2 h3 (fun p hp => by have := map_lf_len wi hw1 hw32 es p hp; omega)
  unfold PathSays at hin
  generalize pth wi (es.map (lf wi)) m = V at *
  obtain ⟨xo, xc, rfl⟩ := hp.form
  have HC := hide (And.intro hlv (And.intro hin hr))
  have hj : 1 ≤ (wi : Int) ∧ (wi : Int) ≤ 32 := by omega
  have HJ := hide hj
  have q1 : ¬ (m : Int) < 0 := by omega
  have q2 : ¬ (es.length : Int) ≤ (m : Int) := by omega
  have q3 : ¬ es.length ≤ m := by omega
  clear hlv hin hr hp hB hn hm hj
  generalize es.length = N at *
  go_enter Tryd.func45, Tryd.ntmps45
  go_wp2_with fail
  refine (may_yes wi _ (unhide HJ).1 (unhide HJ).2).mono ?_
  rintro e w0 ⟨rfl, rfl⟩
  go_wp2_with fail
  refine (unhide HC).1.mono ?_
  rintro e w1 ⟨ao, cp, us, rfl, hP, hF, hC⟩
  have H1 := hide (And.intro hP (And.intro hF hC))
  clear hP hF hC
  go_wp2_with fail
  refine ((unhide HC).2.1 w1 _ us ((unhide HC).2.2.fr0 (unhide H1).2.1) (unhide H1).1 (unhide H1).2.2).mono ?_
  rintro e w2 ⟨yo, yc, us2, rfl, hP, hF⟩
  have H2 := hide (And.intro hP ((unhide H1).2.1.trans hF (fun _ _ h => h)))
  clear hP hF
  go_wp2_with fail
  go_returns
  first | exact ⟨yo, yc, us2, rfl, (unhide H2).1, (unhide H2).2⟩ | exact ⟨yo, yc, rfl, ⟨us2, (unhide H2).1⟩, (unhide H2).2⟩
set_option maxRecDepth 100000 in
set_option maxHeartbeats 1000000 in
theorem gpath_no (j i : Int) (x : Value) (vs : List Value) (es : List (List Nat)) (w : World) (hp : Pcs w x vs es) (h : (j < 1 ∨ 32 < j) ∨ i < 0 ∨ (es.length : Int) ≤ i) :
    Calls Tryd.prog 45 #[.int .i64 j, x, .int .i64 i] w fun e w' => e = .returned (.tuple #[.slice none 0 0, .int .i64 1]) ∧ w' = w := by
  obtain ⟨xo, xc, rfl⟩ := hp.form
  clear hp
  generalize es.length = N at *
  by_cases hj : j < 1 ∨ 32 < j
  · clear h
    go_enter Tryd.func45, Tryd.ntmps45
    go_wp2_with fail
    refine (may_no j _ hj).mono ?_
    rintro e w0 ⟨rfl, rfl⟩
    go_wp2_with fail
    go_returns
    exact ⟨rfl, rfl⟩
  · have HJ := hide (show 1 ≤ j ∧ j ≤ 32 by omega)
    by_cases hi : i < 0
    · clear h hj
      go_enter Tryd.func45, Tryd.ntmps45
      go_wp2_with fail
      refine (may_yes j _ (unhide HJ).1 (unhide HJ).2).mono ?_
      rintro e w0 ⟨rfl, rfl⟩
      go_wp2_with fail
      go_returns
      exact ⟨rfl, rfl⟩
    · have hk : (N : Int) ≤ i := by omega
      clear h hj
      go_enter Tryd.func45, Tryd.ntmps45
      go_wp2_with fail
      refine (may_yes j _ (unhide HJ).1 (unhide HJ).2).mono ?_
      rintro e w0 ⟨rfl, rfl⟩
      go_wp2_with fail
      go_returns
      exact ⟨rfl, rfl⟩
set_option maxRecDepth 100000 in
set_option maxHeartbeats 1000000 in
theorem gproof_in (wi : Nat) (hw1 : 1 ≤ wi) (hw32 : wi ≤ 32) (x : Value) (vs : List Value) (es : List (List Nat)) (m : Nat) (w : World) (hr : GR w) (hp : Pcs w x vs es) (hB : ∀ e ∈ es, e.length ≤ 4000000) (hn : es.length ≤ 4000000) (hm : m ≤ es.length) :
    Calls Tryd.prog 46 #[.int .i64 wi, x, .int .i64 m] w fun e w' => ∃ yo yc us, e = .returned (.tuple #[.slice yo (prf wi (es.map (lf wi)) es.length m).length yc, .int .i64 0]) ∧ Pcs w' (.slice yo (prf wi (es.map (lf wi)) es.length m).length yc) us (prf wi (es.map (lf wi)) es.length m) ∧ Fr (fun _ => False) w w' := by
  have hlv := gleaves_C wi x vs es w hr hp hB (by omega)
  have hll : (es.map (lf (wi : Int))).length = es.length := List.length_map _
  have hin : ∀ w' (x : Value) us, GR w' → Pcs w' x us (es.map (lf wi)) → Cp x → _ := fun w' x us h1 h2 h3 => gproofOf_any wi (es.map (lf wi)) m x us w' h1 h2 h3 (by omega) (fun p hp => by have := map_lf_len wi hw1 hw32 es p hp; omega) (by omega)
  rw [hll] at hin
  generalize prf wi (es.map (lf wi)) es.length m = V at *
  obtain ⟨xo, xc, rfl⟩ := hp.form
  have HC := hide (And.intro hlv (And.intro hin hr))
  have hj : 1 ≤ (wi : Int) ∧ (wi : Int) ≤ 32 := by omega
  have HJ := hide hj
  have q1 : ¬ (m : Int) < 0 := by omega
  have q2 : ¬ (es.length : Int) < (m : Int) := by omega
  have q3 : ¬ es.length < m := by omega
  clear hlv hin hr hp hB hn hm hj
  generalize es.length = N at *
  go_enter Tryd.func46, Tryd.ntmps46
  go_wp2_with fail
  refine (may_yes wi _ (unhide HJ).1 (unhide HJ).2).mono ?_
  rintro e w0 ⟨rfl, rfl⟩
  go_wp2_with fail
  refine (unhide HC).1.mono ?_
  rintro e w1 ⟨ao, cp, us, rfl, hP, hF, hC⟩
  have H1 := hide (And.intro hP (And.intro hF hC))
  clear hP hF hC
  go_wp2_with fail
  refine ((unhide HC).2.1 w1 _ us ((unhide HC).2.2.fr0 (unhide H1).2.1) (unhide H1).1 (unhide H1).2.2).mono ?_
  rintro e w2 ⟨yo, yc, us2, rfl, hP, hF⟩
  have H2 := hide (And.intro hP ((unhide H1).2.1.trans hF (fun _ _ h => h)))
  clear hP hF
  go_wp2_with fail
  go_returns
  first | exact ⟨yo, yc, us2, rfl, (unhide H2).1, (unhide H2).2⟩ | exact ⟨yo, yc, rfl, ⟨us2, (unhide H2).1⟩, (unhide H2).2⟩
set_option maxRecDepth 100000 in
set_option maxHeartbeats 1000000 in
theorem gproof_no (j i : Int) (x : Value) (vs : List Value) (es : List (List Nat)) (w : World) (hp : Pcs w x vs es) (h : (j < 1 ∨ 32 < j) ∨ i < 0 ∨ (es.length : Int) < i) :
    Calls Tryd.prog 46 #[.int .i64 j, x, .int .i64 i] w fun e w' => e = .returned (.tuple #[.slice none 0 0, .int .i64 1]) ∧ w' = w := by
  obtain ⟨xo, xc, rfl⟩ := hp.form
  clear hp
  generalize es.length = N at *
  by_cases hj : j < 1 ∨ 32 < j
  · clear h
    go_enter Tryd.func46, Tryd.ntmps46
    go_wp2_with fail
    refine (may_no j _ hj).mono ?_
    rintro e w0 ⟨rfl, rfl⟩
    go_wp2_with fail
    go_returns
    exact ⟨rfl, rfl⟩
  · have HJ := hide (show 1 ≤ j ∧ j ≤ 32 by omega)
    by_cases hi : i < 0
    · clear h hj
      go_enter Tryd.func46, Tryd.ntmps46
      go_wp2_with fail
      refine (may_yes j _ (unhide HJ).1 (unhide HJ).2).mono ?_
      rintro e w0 ⟨rfl, rfl⟩
      go_wp2_with fail
      go_returns
      exact ⟨rfl, rfl⟩
    · have hk : (N : Int) < i := by omega
      clear h hj
      go_enter Tryd.func46, Tryd.ntmps46
      go_wp2_with fail
      refine (may_yes j _ (unhide HJ).1 (unhide HJ).2).mono ?_
      rintro e w0 ⟨rfl, rfl⟩
      go_wp2_with fail
      go_returns
      exact ⟨rfl, rfl⟩
end Go.Proofs.YthccbfgjekdiiaaDoor

namespace Go.Proofs.YthccbfgjekdiiaaDoor

/-- The hash of a tree, with a bound on the halvings. -/
def mthF (i : Int) : Nat → List (List Nat) → List Nat
  | 0, _ => []
  | k + 1, ps => if ps.length < 2 then (match ps with | [] => sm i [] | p :: _ => p) else nd i (mthF i k (ps.take (hf ps.length))) (mthF i k (ps.drop (hf ps.length)))
theorem mthF_eq (i : Int) (k : Nat) : ∀ ps : List (List Nat), ps.length < k → mthF i k ps = mth i ps := by
  induction k with
  | zero => intro ps h; omega
  | succ k ih =>
    intro ps h
    unfold mthF
    by_cases h2 : ps.length < 2
    · rw [if_pos h2]
      match ps, h2 with
      | [], _ => rw [mth_nil]
      | [p], _ => rw [mth_one]
    · have h3 := hf_lt ps.length (by omega)
      have h4 := hf_pos ps.length
      rw [if_neg h2, mth_two i ps (by omega), ih _ (by rw [List.length_take]; omega), ih _ (by rw [List.length_drop]; omega)]
def rootB : List Nat := [93, 201, 218, 121, 167, 6, 89, 169, 173, 85, 156, 183, 1, 222, 217, 162, 171, 157, 130, 58, 173, 47, 73, 96, 207, 227, 112, 239, 244, 96, 67, 40]
def leafB : List Nat := [110, 52, 11, 156, 255, 179, 122, 152, 156, 165, 68, 230, 187, 120, 10, 44, 120, 144, 29, 63, 179, 55, 56, 118, 133, 17, 163, 6, 23, 175, 160, 29]
theorem rootB_hex : hxl (bytesOf ⟨#[53, 100, 99, 57, 100, 97, 55, 57, 97, 55, 48, 54, 53, 57, 97, 57, 97, 100, 53, 53, 57, 99, 98, 55, 48, 49, 100, 101, 100, 57, 97, 50, 97, 98, 57, 100, 56, 50, 51, 97, 97, 100, 50, 102, 52, 57, 54, 48, 99, 102, 101, 51, 55, 48, 101, 102, 102, 52, 54, 48, 52, 51, 50, 56]⟩) = rootB := by decide +kernel
theorem leafB_hex : hxl (bytesOf ⟨#[54, 101, 51, 52, 48, 98, 57, 99, 102, 102, 98, 51, 55, 97, 57, 56, 57, 99, 97, 53, 52, 52, 101, 54, 98, 98, 55, 56, 48, 97, 50, 99, 55, 56, 57, 48, 49, 100, 51, 102, 98, 51, 51, 55, 51, 56, 55, 54, 56, 53, 49, 49, 97, 51, 48, 54, 49, 55, 97, 102, 97, 48, 49, 100]⟩) = leafB := by decide +kernel
theorem leaf_nil : lf 32 [] = leafB := by decide +kernel
theorem root_tes : mthF 32 9 (tes.map (lf 32)) = rootB := by decide +kernel
theorem root_tests : mth 32 (tes.map (lf 32)) = rootB := by rw [← mthF_eq 32 9 _ (by decide)]; exact root_tes
theorem dep_tests : dep 0 8 0 1 = 3 := by
  have h8 : hf 8 = 4 := by decide +kernel
  have h4 : hf 4 = 2 := by decide +kernel
  have h2 : hf 2 = 1 := by decide +kernel
  rw [dep_l (by decide) (by decide) (by rw [h8]; decide), h8, dep_l (by decide) (by decide) (by rw [h4]; decide), h4, dep_l (by decide) (by decide) (by rw [h2]; decide), h2, dep_eq]
end Go.Proofs.YthccbfgjekdiiaaDoor

namespace Go.Proofs.YthccbfgjekdiiaaDoor
open Go.RowKit

theorem bes_wid (wi : Nat) (hw1 : 1 ≤ wi) (hw32 : wi ≤ 32) (L : List (List Nat)) (hL : ∀ p ∈ L, p.length = wi) (m : Nat) : ∀ f n tf tn, n ≤ m → ∀ p ∈ bes wi L f n tf tn, p.length = wi := by
  induction m with
  | zero => intro f n tf tn h p hp; rw [bes, dif_pos (by omega)] at hp; cases hp
  | succ m ih =>
    intro f n tf tn h p hp
    by_cases e : (f = tf ∧ n = tn) ∨ n < 2
    · rw [bes, dif_pos e] at hp; cases hp
    · have hlt := hf_lt n (by omega)
      have hpos := hf_pos n
      by_cases hl : tf < f + hf n
      · rw [bes_l (by omega) (by omega) hl] at hp
        rcases List.mem_append.1 hp with hp | hp
        · exact ih _ _ _ _ (by omega) p hp
        · simp at hp; subst hp; exact mth_wid wi hw1 hw32 _ (fun p hp => hL p (blk_mem _ _ _ p hp))
      · rw [bes_r (by omega) (by omega) hl] at hp
        rcases List.mem_append.1 hp with hp | hp
        · exact ih _ _ _ _ (by omega) p hp
        · simp at hp; subst hp; exact mth_wid wi hw1 hw32 _ (fun p hp => hL p (blk_mem _ _ _ p hp))
theorem wdq_of {j : Int} {ps : List (List Nat)} (h : ∀ p ∈ ps, (p.length : Int) = j) : wdq j ps = true := by
  rw [wdq, List.all_eq_true]
  intro p hp
  simpa using h p hp
/-- A path that the tree tells is taken. -/
theorem chkP_bes (wi : Nat) (hw1 : 1 ≤ wi) (hw32 : wi ≤ 32) (L : List (List Nat)) (hL : ∀ p ∈ L, p.length = wi) (i : Nat) (hi : i < L.length) : chkP wi (L[i]) i L.length (bes wi L 0 L.length i 1) (mth wi L) = true := by
  have hb : blk L i 1 = [L[i]] := by
    rw [blk, List.drop_eq_getElem_cons hi]; rfl
  have ht := topv_bes wi L L.length 0 L.length i 1 (Nat.le_refl _) (by omega) (rch_one _ 0 L.length i (Nat.le_refl _) (by omega) (by omega))
  rw [hb, mth_one, blk_all] at ht
  rw [chkP, decide_eq_true (by omega), decide_eq_true (by omega), decide_eq_true (by omega), wdq_of (fun p hp => ?_), wdq_of (fun p hp => ?_), Int.toNat_natCast, Int.toNat_natCast, Int.toNat_natCast, bes_len _ _ _ _ _ _ _ (Nat.le_refl _), decide_eq_true rfl, ht, decide_eq_true rfl]
  · rfl
  · have := bes_wid wi hw1 hw32 L hL _ 0 L.length i 1 (Nat.le_refl _) p hp
    omega
  · simp at hp
    rcases hp with rfl | rfl
    · have := hL L[i] (List.getElem_mem _); omega
    · have := mth_wid wi hw1 hw32 L hL; omega
theorem chkP_tests : chkP 32 (lf 32 []) 0 8 (bes 32 (tes.map (lf 32)) 0 8 0 1) rootB = true := by
  have := chkP_bes 32 (by decide) (by decide) (tes.map (lf 32)) (map_lf_len 32 (by decide) (by decide) _) 0 (by simp [tes])
  have e : mth ((32 : Nat) : Int) (tes.map (lf 32)) = rootB := root_tests
  rw [e] at this
  exact this
set_option maxRecDepth 100000 in
set_option maxHeartbeats 4000000 in
theorem mlives_any (w : World) (hg : GS w) (ht : GT w) : Calls Tryd.prog 7 #[] w fun e w' => e = .returned (.bool true) ∧ Fr (fun _ => False) w w' := by
  have hB : ∀ e ∈ tes, e.length ≤ 16000000 := by decide
  have hnew : ∀ w', GS w' → Calls Tryd.prog 15 #[.int .i64 32] w' fun e w'' => ∃ tb, e = .returned (.pointer (some ⟨tb, 0, none⟩)) ∧ TrAt w'' w'.heap.size tb 32 0 none 0 [] [] ∧ 6 ≤ w'.heap.size ∧ w'.heap.size ≤ tb ∧ Fr (fun _ => False) w' w'' := fun w' hg' => by
    refine (mnew_any 32 w').mono ?_
    rintro e w'' ⟨rfl, h1, h2⟩
    exact ⟨_, rfl, h1, hg'.1.2, Nat.le_refl _, h2⟩
  have hadd : ∀ (w' : World) (base tb : Nat), GS w' → GT w' → TrAt w' base tb 32 0 none 0 [] [] → 6 ≤ base → Calls Tryd.prog 22 #[.pointer (some ⟨tb, 0, none⟩), .slice none 0 0] w' fun e w'' => e = .returned (.int .i64 0) ∧ Tk w'' tb 32 [lf 32 []] ∧ Fr (TOwn tb none []) w' w'' := fun w' base tb hg' ht' hT hb => by
    refine (add_in 32 (by decide) (by decide) base tb 0 hb w' none 0 [] [] (.slice none 0 0) [] hT hg' (sl_nil _) (by decide) (fun j row h => by simp at h) (by decide) (by decide)).mono ?_
    rintro e w'' ⟨rfl, xo, cp, vs, hT2, hF, _⟩
    have hlo : ∀ k, k < 6 → ¬ TOwn tb none [] k := fun k hk hO => by
      have := (hT.lt k hO).1; omega
    refine ⟨rfl, ⟨⟨base, xo, cp, vs, _, hT2, ?_⟩, hg'.fr hF hlo, ht'.fr hF hlo, fun p hp => ?_, fun p hp => ?_, by decide⟩, hF⟩
    · exact (rows_nil 32).add (by decide) (by decide) (lf 32 []) (fun p hp => by simp at hp; subst hp; exact lf_len 32 (by decide) (by decide) _)
    · simp at hp; subst hp; exact lf_len 32 (by decide) (by decide) _
    · simp at hp; subst hp; exact lf_lt _ _
  have hp0 := fun w' x vs (h1 : GS w') (h2 : GT w') (h3 : Pcs w' x vs tes) => mpath_in 32 (by decide) (by decide) x vs tes 0 w' h1 h2 h3 hB (by decide) (by decide)
  have hr0 : ∀ w' x vs, GS w' → GT w' → Pcs w' x vs tes → Calls Tryd.prog 6 #[.int .i64 32, x] w' fun e w'' => ∃ yo yc, e = .returned (.slice yo 32 yc) ∧ OB w' w'' yo yc rootB := fun w' x vs h1 h2 h3 => by
    have := mroot_in 32 (by decide) (by decide) x vs tes w' h1 h2 h3 hB (by decide)
    rw [← root_tests]
    exact this
  have hr1 : ∀ w' tb, Tk w' tb 32 [lf 32 []] → Calls Tryd.prog 20 #[.pointer (some ⟨tb, 0, none⟩), .int .i64 1] w' fun e w'' => ∃ yo yc, e = .returned (.tuple #[.slice yo 32 yc, .int .i64 0]) ∧ OB w' w'' yo yc leafB := fun w' tb h => by
    have := troot_in tb 32 (by decide) (by decide) _ 1 w' h (by decide)
    have e : mth (32 : Nat) (blk [lf 32 []] 0 1) = leafB := by
      have : blk [lf 32 []] 0 1 = [lf 32 []] := rfl
      rw [this, mth_one, leaf_nil]
    rw [← e]
    exact this
  have hlf : ∀ w', GS w' → Calls Tryd.prog 11 #[.int .i64 32, .slice none 0 0] w' fun e w'' => ∃ yo, e = .returned (.slice yo 32 32) ∧ OB w' w'' yo 32 (lf 32 []) := fun w' h => by
    have := leaf_any 32 (.slice none 0 0) [] w' h (sl_nil _) (by decide)
    have e : (lf 32 []).length = 32 := lf_len 32 (by decide) (by decide) _
    rw [e] at this
    exact this
  have hbl : (bes 32 (tes.map (lf 32)) 0 8 0 1).length = 3 := by rw [bes_len _ _ _ _ _ _ _ (Nat.le_refl _), dep_tests]
  have hck := chkP_tests
  have e8 : tes.length = 8 := rfl
  simp only [e8] at hp0
  have e0 : ((0 : Nat) : Int) = 0 := rfl
  have e32 : ((32 : Nat) : Int) = 32 := rfl
  simp only [e0, e32] at hp0
  generalize bes 32 (tes.map (lf 32)) 0 8 0 1 = BS at *
  have hrb : ∀ v ∈ rootB, v < 256 := by decide
  have hlb : ∀ v ∈ leafB, v < 256 := by decide
  have HG := hide (And.intro hg ht)
  have HC := hide (And.intro hnew (And.intro hadd (And.intro hp0 (And.intro hr0 (And.intro hr1 (And.intro hlf (And.intro hbl (And.intro hck (And.intro hrb hlb)))))))))
  clear hnew hadd hp0 hr0 hr1 hlf hbl hck hrb hlb hg ht hB e8 e0 e32
  go_enter Tryd.func7, Tryd.ntmps7
  go_wp2_with fail
  refine (tests_any w).mono ?_
  rintro e w1 ⟨g1, vs1, rfl, hP, hF⟩
  have F1 := hide hF
  have P1 := hide hP
  clear hF hP
  go_wp2_with fail
  refine ((unhide HC).2.2.1 _ _ _ ((unhide HG).1.fr0 (unhide F1)) ((unhide HG).2.fr0 (unhide F1)) (unhide P1)).mono ?_
  rintro e w2 ⟨ao, cp, us, rfl, hO⟩
  have hus : us.length = 3 := hO.len.trans (unhide HC).2.2.2.2.2.2.1
  rw [hus]
  have F2 := hide ((unhide F1).trans hO.own.fr (fun _ _ h => h))
  have P2 := hide ((unhide P1).fr0 hO.own.fr)
  have O2 := hide hO
  have HU := hide hus
  clear hO hus
  go_wp2_with fail
  refine ((unhide HC).1 _ ((unhide HG).1.fr0 (unhide F2))).mono ?_
  rintro e w3 ⟨tb, rfl, hT, hb1, hb2, hF⟩
  have T3 := hide (And.intro hT (And.intro hb1 hb2))
  have F23 := hide hF
  have F3 := hide ((unhide F2).trans hF (fun _ _ h => h))
  have P3 := hide ((unhide P2).fr0 hF)
  have O3 := hide ((unhide O2).fr0 hF)
  clear hT hb1 hb2 hF
  go_wp2_with fail
  refine ((unhide HC).2.1 _ _ _ ((unhide HG).1.fr0 (unhide F3)) ((unhide HG).2.fr0 (unhide F3)) (unhide T3).1 (unhide T3).2.1).mono ?_
  rintro e w4 ⟨rfl, hT, hF⟩
  have hF24 : Fr (fun _ => False) w2 w4 := (unhide F23).trans hF (fun k hk hO => by
    have h2 := (unhide T3).2.2
    rcases hO with rfl | ⟨o, e⟩ | ⟨v, hv, _⟩
    · omega
    · cases e
    · cases hv)
  have F4 := hide ((unhide F2).trans hF24 (fun _ _ h => h))
  have P4 := hide ((unhide P2).fr0 hF24)
  have O4 := hide ((unhide O2).fr0 hF24)
  have T4 := hide hT
  clear hT hF hF24 T3 F3
  go_wp2_with fail
  refine ((unhide HC).2.2.2.2.1 _ _ (unhide T4)).mono ?_
  rintro e w5 ⟨lo, lc, rfl, hO⟩
  have F5 := hide ((unhide F4).trans hO.fr (fun _ _ h => h))
  have P5 := hide ((unhide P4).fr0 hO.fr)
  have O5 := hide ((unhide O4).fr0 hO.fr)
  have L5 := hide (hO.sl (unhide HC).2.2.2.2.2.2.2.2.2)
  clear hO
  go_wp2_with fail
  refine ((unhide HC).2.2.2.1 _ _ _ ((unhide HG).1.fr0 (unhide F5)) ((unhide HG).2.fr0 (unhide F5)) (unhide P5)).mono ?_
  rintro e w6 ⟨ro, rc, rfl, hO⟩
  have F6 := hide ((unhide F5).trans hO.fr (fun _ _ h => h))
  have O6 := hide ((unhide O5).fr0 hO.fr)
  have L6 := hide ((unhide L5).fr0 hO.fr)
  have R6 := hide (hO.sl (unhide HC).2.2.2.2.2.2.2.2.1)
  clear hO
  go_wp2_with fail
  refine (hex_lit ⟨#[53, 100, 99, 57, 100, 97, 55, 57, 97, 55, 48, 54, 53, 57, 97, 57, 97, 100, 53, 53, 57, 99, 98, 55, 48, 49, 100, 101, 100, 57, 97, 50, 97, 98, 57, 100, 56, 50, 51, 97, 97, 100, 50, 102, 52, 57, 54, 48, 99, 102, 101, 51, 55, 48, 101, 102, 102, 52, 54, 48, 52, 51, 50, 56]⟩ rootB _ (by decide) rootB_hex 32 rfl (by decide)).mono ?_
  rintro e w7 ⟨xo, xc, rfl, hS, hF⟩
  have F7 := hide ((unhide F6).trans hF (fun _ _ h => h))
  have O7 := hide ((unhide O6).fr0 hF)
  have L7 := hide ((unhide L6).fr0 hF)
  have R7 := hide (And.intro ((unhide R6).fr0 hF) hS)
  clear hS hF
  go_wp2_with fail
  refine (same_T (unhide R7).1.s (unhide R7).2.s (by decide) (sameB_refl _)).mono ?_
  rintro e w8 ⟨rfl, hF⟩
  have F8 := hide ((unhide F7).trans hF (fun _ _ h => h))
  have O8 := hide ((unhide O7).fr0 hF)
  have L8 := hide ((unhide L7).fr0 hF)
  clear hF R7 R6
  go_wp2_with fail
  refine ((unhide HC).2.2.2.2.2.1 _ ((unhide HG).1.fr0 (unhide F8))).mono ?_
  rintro e w9 ⟨fo, rfl, hO⟩
  have F9 := hide ((unhide F8).trans hO.fr (fun _ _ h => h))
  have O9 := hide ((unhide O8).fr0 hO.fr)
  have L9 := hide ((unhide L8).fr0 hO.fr)
  have hsl := hO.sl (lf_lt 32 [])
  have e32 : (lf 32 []).length = 32 := lf_len 32 (by decide) (by decide) _
  rw [e32] at hsl
  have K9 := hide hsl
  clear hO hsl e32
  go_wp2_with fail
  refine (hex_lit ⟨#[53, 100, 99, 57, 100, 97, 55, 57, 97, 55, 48, 54, 53, 57, 97, 57, 97, 100, 53, 53, 57, 99, 98, 55, 48, 49, 100, 101, 100, 57, 97, 50, 97, 98, 57, 100, 56, 50, 51, 97, 97, 100, 50, 102, 52, 57, 54, 48, 99, 102, 101, 51, 55, 48, 101, 102, 102, 52, 54, 48, 52, 51, 50, 56]⟩ rootB _ (by decide) rootB_hex 32 rfl (by decide)).mono ?_
  rintro e w10 ⟨yo, yc, rfl, hS, hF⟩
  have F10 := hide ((unhide F9).trans hF (fun _ _ h => h))
  have O10 := hide ((unhide O9).fr0 hF)
  have L10 := hide ((unhide L9).fr0 hF)
  have K10 := hide (And.intro ((unhide K9).fr0 hF) hS)
  clear hS hF
  have hpc := (unhide O10).pcs
  have hcp := (unhide O10).cap
  rw [unhide HU] at hpc hcp
  have PC := hide (And.intro hpc hcp)
  clear hpc hcp
  go_wp2_with fail
  refine (checkPath_any 32 0 8 _ _ _ _ _ us BS _ ((unhide HG).1.fr0 (unhide F10)) (unhide K10).1 (unhide K10).2 (unhide PC).1 (fun _ _ _ e => by cases e; exact (unhide PC).2) (by decide) (by rw [(unhide HC).2.2.2.2.2.2.1]; decide)).mono ?_
  rintro e w11 ⟨rfl, hF⟩
  rw [(unhide HC).2.2.2.2.2.2.2.1]
  have F11 := hide ((unhide F10).trans hF (fun _ _ h => h))
  have L11 := hide ((unhide L10).fr0 hF)
  clear hF
  go_wp2_with fail
  refine (hex_lit ⟨#[54, 101, 51, 52, 48, 98, 57, 99, 102, 102, 98, 51, 55, 97, 57, 56, 57, 99, 97, 53, 52, 52, 101, 54, 98, 98, 55, 56, 48, 97, 50, 99, 55, 56, 57, 48, 49, 100, 51, 102, 98, 51, 51, 55, 51, 56, 55, 54, 56, 53, 49, 49, 97, 51, 48, 54, 49, 55, 97, 102, 97, 48, 49, 100]⟩ leafB _ (by decide) leafB_hex 32 rfl (by decide)).mono ?_
  rintro e w12 ⟨zo, zc, rfl, hS, hF⟩
  have F12 := hide ((unhide F11).trans hF (fun _ _ h => h))
  have L12 := hide (And.intro ((unhide L11).fr0 hF) hS)
  clear hS hF
  go_wp2_with fail
  refine (same_T (unhide L12).1.s (unhide L12).2.s (by decide) (sameB_refl _)).mono ?_
  rintro e w13 ⟨rfl, hF⟩
  have F13 := hide ((unhide F12).trans hF (fun _ _ h => h))
  clear hF
  go_wp2_with fail
  go_ret
  exact ⟨rfl, unhide F13⟩
end Go.Proofs.YthccbfgjekdiiaaDoor

namespace Go.Proofs.YthccbfgjekdiiaaDoor
open Go.RowKit

theorem OL.stepH {w wr w1 : World} {ao : Option Addr} {cp : Nat} {vs : List Value} {ps : List (List Nat)} (h : OL w wr ao cp vs ps) (l : List Nat) (yo : Option Addr) (yc : Nat) (hO : OB wr w1 yo yc l) (hb : ∀ v ∈ l, v < 256) (hn : vs.length < 16000000) :
    ∃ ao' cp' w2, (Builtin.append_ #[22, 22] 22 #[.slice ao vs.length cp, .slice (some ⟨w1.heap.size, 0, none⟩) 1 1]).run Tryd.prog (w1.alloc (.cells #[.slice yo l.length yc] 25)) = .ok (.slice ao' (vs.length + 1) cp') w2 ∧ OL w w2 ao' cp' (vs ++ [.slice yo l.length yc]) (ps ++ [l]) ∧
      (w1.alloc (.cells #[.slice yo l.length yc] 25)).grownBy w2 (Value.slice ao vs.length cp).ownBlock ∧ ((Value.slice ao' (vs.length + 1) cp').ownBlock = (Value.slice ao vs.length cp).ownBlock ∨ (Value.slice ao' (vs.length + 1) cp').ownBlock = some (w1.heap.size + 1)) := by
  obtain ⟨ao', cp', w2, hr, hOL⟩ := h.step l yo yc hO hb hn
  have hown : (w1.alloc (.cells #[.slice yo l.length yc] 25)).ownsRow w.heap.size 25 1 (.slice ao vs.length cp) vs.length vs := (h.fr0 (hO.fr.alloc _)).own.own
  obtain ⟨a2, c2, w3, hr2, _, hg, hat⟩ := run_app_ss (w1.alloc (.cells #[.slice yo l.length yc] 25)) w.heap.size vs.length _ (.slice (some ⟨w1.heap.size, 0, none⟩) 1 1) vs [.slice yo l.length yc] hown ⟨.inr (.inr ⟨w1.heap.size, 0, 1, rfl, fun j u hu => by
    rw [World.cell?_alloc_at _ _ _ _ (by simp)]
    match j with
    | 0 => simpa using hu
    | j + 1 => simp at hu⟩), fun u hu => by simp at hu; subst hu; exact ⟨_, _, _, rfl⟩⟩ (by simp; omega) (by have := h.own.fr.size; have := hO.fr.size; simp; omega)
  rw [hr] at hr2
  injection hr2 with e1 e2
  subst e2
  injection e1 with e1 _ e3
  subst e1 e3
  refine ⟨ao', cp', w2, hr, hOL, hg, ?_⟩
  simpa using hat
/-- What guarded has made so far. -/
structure GI (w wr : World) (es qs : List (List Nat)) (so : Option Addr) (sc : Nat) (svs : List Value) (ao : Option Addr) (ac : Nat) (avs : List Value) : Prop where
  all : OL w wr ao ac avs qs
  sho : wr.ownsRow w.heap.size 25 1 (.slice so svs.length sc) svs.length svs
  sln : svs.length = avs.length
  ne : ∀ g, (Value.slice so svs.length sc).ownBlock = some g → (Value.slice ao avs.length ac).ownBlock = some g → False
  sls : ∀ u ∈ svs, ∃ a n c, u = .slice a n c
  pre : ∀ (j : Nat) v v' e, svs[j]? = some v → avs[j]? = some v' → es[j]? = some e → ∃ g c, v = .slice (some ⟨g, 0, none⟩) e.length c ∧ v' = .slice (some ⟨g, 0, none⟩) (e.length + 9) c
theorem GI.nil (w : World) (es : List (List Nat)) : GI w w es [] none 0 [] none 0 [] :=
  ⟨OL.nil w, ⟨rfl, .inl ⟨rfl, rfl⟩⟩, rfl, (fun g h => by cases h), (fun u h => by cases h), (fun j v v' e h => by simp at h)⟩
theorem GI.fr0 {w wr wq : World} {es qs : List (List Nat)} {so : Option Addr} {sc : Nat} {svs : List Value} {ao : Option Addr} {ac : Nat} {avs : List Value} (h : GI w wr es qs so sc svs ao ac avs) (hf : Fr (fun _ => False) wr wq) : GI w wq es qs so sc svs ao ac avs :=
  ⟨h.all.fr0 hf, ownsRow_of_block h.sho (fun g hg => hf.block g (h.sho.lt g hg).2 (fun h => h)), h.sln, h.ne, h.sls, h.pre⟩
/-- One list more. -/
theorem GI.step {w wr w1 : World} {es qs : List (List Nat)} {so : Option Addr} {sc : Nat} {svs : List Value} {ao : Option Addr} {ac : Nat} {avs : List Value} (h : GI w wr es qs so sc svs ao ac avs) (l : List Nat) (g lc n : Nat) (hO : OB wr w1 (some ⟨g, 0, none⟩) lc l) (hb : ∀ v ∈ l, v < 256) (hn : avs.length < 16000000)
    (hpre : ∀ e, es[svs.length]? = some e → n = e.length ∧ l.length = e.length + 9) (L : Nat) (hL : l.length = L) :
    ∃ ao' ac' w2, (Builtin.append_ #[22, 22] 22 #[.slice ao avs.length ac, .slice (some ⟨w1.heap.size, 0, none⟩) 1 1]).run Tryd.prog (w1.alloc (.cells #[.slice (some ⟨g, 0, none⟩) L lc] 25)) = .ok (.slice ao' (avs.length + 1) ac') w2 ∧ Fr (fun _ => False) w w2 ∧
      w2.cell? ⟨match ao' with | some a => a.block | none => 0, avs.length, none⟩ = some (.slice (some ⟨g, 0, none⟩) L lc) ∧ (∃ q, ao' = some ⟨q, 0, none⟩) ∧
      ∃ so' sc' w3, (Builtin.append_ #[22, 22] 22 #[.slice so svs.length sc, .slice (some ⟨w2.heap.size, 0, none⟩) 1 1]).run Tryd.prog (w2.alloc (.cells #[.slice (some ⟨g, 0, none⟩) n lc] 25)) = .ok (.slice so' (svs.length + 1) sc') w3 ∧
      GI w w3 es (qs ++ [l]) so' sc' (svs ++ [.slice (some ⟨g, 0, none⟩) n lc]) ao' ac' (avs ++ [.slice (some ⟨g, 0, none⟩) L lc]) := by
  subst hL
  obtain ⟨ao', ac', w2, hr, hOL, hg, hat⟩ := h.all.stepH l (some ⟨g, 0, none⟩) lc hO hb hn
  have hs1 := (h.fr0 (hO.fr.alloc (.cells #[.slice (some ⟨g, 0, none⟩) l.length lc] 25))).sho
  have hslt := h.sho.lt
  have hsz := hO.fr.size
  have hs2 : w2.ownsRow w.heap.size 25 1 (.slice so svs.length sc) svs.length svs := ownsRow_of_block hs1 (fun q hq => hg.block q (hs1.lt q hq).2 (fun e => h.ne q hq e.symm))
  have hs3 : (w2.alloc (.cells #[.slice (some ⟨g, 0, none⟩) n lc] 25)).ownsRow w.heap.size 25 1 (.slice so svs.length sc) svs.length svs := hs2.alloc _
  obtain ⟨so', sc', w3, hr3, hown3, hg3, hat3⟩ := run_app_ss _ w.heap.size svs.length _ (.slice (some ⟨w2.heap.size, 0, none⟩) 1 1) svs [.slice (some ⟨g, 0, none⟩) n lc] hs3 ⟨.inr (.inr ⟨w2.heap.size, 0, 1, rfl, fun j u hu => by
    rw [World.cell?_alloc_at _ _ _ _ (by simp)]
    match j with
    | 0 => simpa using hu
    | j + 1 => simp at hu⟩), fun u hu => by simp at hu; subst hu; exact ⟨_, _, _, rfl⟩⟩ (by have := h.sln; simp; omega) (by have := hOL.own.fr.size; simp; omega)
  have hlen1 : (avs ++ [Value.slice (some ⟨g, 0, none⟩) l.length lc]).length = avs.length + 1 := by simp
  have hne2 : ∀ q, (Value.slice so svs.length sc).ownBlock = some q → (Value.slice ao' (avs.length + 1) ac').ownBlock = some q → False := fun q h1 h2 => by
    rcases hat with e | e
    · rw [e] at h2; exact h.ne q h1 h2
    · rw [e] at h2
      have := (hslt q h1).2
      simp at h2
      omega
  have hF3 : Fr (fun k => (Value.slice so svs.length sc).ownBlock = some k) w2 w3 := ((Fr.refl _ _).alloc _).grown hg3 (fun q hq => .inl hq)
  have hOL3 : OL w w3 ao' ac' (avs ++ [.slice (some ⟨g, 0, none⟩) l.length lc]) (qs ++ [l]) := by
    refine ⟨⟨ownsRow_of_block hOL.own.own (fun q hq => hF3.block q (hOL.own.own.lt q hq).2 (fun e => hne2 q e (by rw [hlen1] at hq; exact hq))), ?_⟩, hOL.len, fun j v p hv hp => ?_, hOL.apart, hOL.byt⟩
    · exact hOL.own.fr.trans hF3 (fun k hk hk2 => by have := (hslt k hk2).1; omega)
    · obtain ⟨bo, c, e, hOw⟩ := hOL.row j v p hv hp
      exact ⟨bo, c, e, ownsRow_of_block hOw (fun q hq => hF3.block q (World.ownsRow.lt hOw q hq).2 (fun e => own_ne hs2 hOw q e hq))⟩
  obtain ⟨q, rfl⟩ : ∃ q, ao' = some ⟨q, 0, none⟩ := by
    rcases hOL.own.own.2 with ⟨_, e⟩ | ⟨q, cap, cur, e, _⟩
    · rw [hlen1] at e; omega
    · simp only [Value.slice.injEq] at e
      exact ⟨q, e.1⟩
  refine ⟨_, ac', w2, hr, hOL.own.fr, ?_, ⟨q, rfl⟩, so', sc', w3, by simpa using hr3, hOL3, by rw [List.length_append]; exact hown3, by rw [List.length_append, List.length_append, h.sln]; rfl, fun q' h1 h2 => ?_, fun u hu => ?_, fun j v v' e hv hv' he => ?_⟩
  · have := hOL.own.own.cellAt avs.length (by rw [hlen1]; omega)
    rw [this, List.getElem?_append_right (Nat.le_refl _), Nat.sub_self]
    rfl
  · rw [hlen1] at h2
    rw [List.length_append] at h1
    rcases hat3 with e | e
    · rw [show svs.length + [Value.slice (some ⟨g, 0, none⟩) n lc].length = svs.length + [Value.slice (some ⟨g, 0, none⟩) n lc].length from rfl, e] at h1
      exact hne2 q' h1 h2
    · rw [e] at h1
      have := (hOL.own.own.lt q' (by rw [hlen1]; exact h2)).2
      simp at h1
      omega
  · rcases List.mem_append.1 hu with hu | hu
    · exact h.sls u hu
    · simp at hu; subst hu; exact ⟨_, _, _, rfl⟩
  · by_cases hj : j < svs.length
    · rw [List.getElem?_append_left hj] at hv
      rw [List.getElem?_append_left (by rw [← h.sln]; exact hj)] at hv'
      exact h.pre j v v' e hv hv' he
    · have hje : j = svs.length := by
        have := (List.getElem?_eq_some_iff.1 hv).1
        rw [List.length_append, List.length_singleton] at this
        omega
      subst hje
      rw [List.getElem?_append_right (Nat.le_refl _), Nat.sub_self] at hv
      rw [List.getElem?_append_right (by rw [h.sln]; exact Nat.le_refl _), h.sln, Nat.sub_self] at hv'
      simp only [List.getElem?_cons_zero, Option.some.injEq] at hv hv'
      subst hv hv'
      obtain ⟨e1, e2⟩ := hpre e he
      exact ⟨g, lc, by rw [e1], by rw [e2]⟩
end Go.Proofs.YthccbfgjekdiiaaDoor

namespace Go.Proofs.YthccbfgjekdiiaaDoor
open Go.RowKit

/-- Bytes and k guards. -/
def gdj (e : List Nat) (k : Nat) : List Nat := e ++ List.replicate k 77
theorem gdj_len (e : List Nat) (k : Nat) : (gdj e k).length = e.length + k := by simp [gdj]
theorem gdj_succ (e : List Nat) (k : Nat) : gdj e k ++ [77] = gdj e (k + 1) := by simp [gdj, List.replicate_succ']
theorem gdj_lt {e : List Nat} (h : ∀ v ∈ e, v < 256) (k : Nat) : ∀ v ∈ gdj e k, v < 256 := fun v hv => by
  simp only [gdj, List.mem_append, List.mem_replicate] at hv
  rcases hv with h1 | h1
  · exact h v h1
  · omega
/-- What guarded makes: the lists with guards behind each, then guards. -/
def gls (es : List (List Nat)) : List (List Nat) := es.map (fun e => gdj e 9) ++ List.replicate 9 [7]
def glk (es : List (List Nat)) (t : Nat) : List (List Nat) := es.map (fun e => gdj e 9) ++ List.replicate t [7]
theorem glk_succ (es : List (List Nat)) (t : Nat) : glk es t ++ [[7]] = glk es (t + 1) := by simp [glk, List.replicate_succ']
end Go.Proofs.YthccbfgjekdiiaaDoor

namespace Go.Proofs.YthccbfgjekdiiaaDoor
open Go.RowKit

theorem gls_len (es : List (List Nat)) : (gls es).length = es.length + 9 := by simp [gls]
theorem gls_lo (es : List (List Nat)) (i : Nat) (h : i < es.length) : (gls es)[i]'(by rw [gls_len]; omega) = gdj es[i] 9 := by
  simp only [gls]
  rw [List.getElem_append_left (by simpa using h)]
  simp
theorem gls_hi (es : List (List Nat)) (i : Nat) (h : es.length ≤ i) (h2 : i < es.length + 9) : (gls es)[i]'(by rw [gls_len]; omega) = [7] := by
  simp only [gls]
  rw [List.getElem_append_right (by simpa using h), List.getElem_replicate]
theorem gdj_at (m : List Nat) (k j : Nat) (hj : j < m.length + k) : (gdj m k).getD j 0 = if j < m.length then m.getD j 0 else 77 := by
  rw [gdj, List.getD, List.getD]
  by_cases h : j < m.length
  · rw [if_pos h, List.getElem?_append_left h]
  · rw [if_neg h, List.getElem?_append_right (by omega), List.getElem?_replicate, if_pos (by omega)]; rfl
end Go.Proofs.YthccbfgjekdiiaaDoor

namespace Go.Proofs.YthccbfgjekdiiaaDoor
open Go.RowKit

theorem GI.pcsA {w wr : World} {es qs : List (List Nat)} {so : Option Addr} {sc : Nat} {svs : List Value} {ao : Option Addr} {ac : Nat} {avs : List Value} (h : GI w wr es qs so sc svs ao ac avs) : Pcs wr (.slice ao avs.length ac) avs qs := h.all.pcs
theorem GI.pcsS {w wr : World} {es : List (List Nat)} {so : Option Addr} {sc : Nat} {svs : List Value} {ao : Option Addr} {ac : Nat} {avs : List Value} (h : GI w wr es (gls es) so sc svs ao ac avs) (hl : svs.length = es.length + 9) (hb : ∀ e ∈ es, ∀ v ∈ e, v < 256) : Pcs wr (.slice so es.length sc) (svs.take es.length) es ∧ Cp (.slice so es.length sc) := by
  have hal : avs.length = es.length + 9 := by rw [← h.sln]; exact hl
  obtain ⟨gs, rfl⟩ : ∃ g, so = some ⟨g, 0, none⟩ := by
    rcases h.sho.2 with ⟨_, e⟩ | ⟨g, cap, cur, e, _⟩
    · omega
    · simp only [Value.slice.injEq] at e
      exact ⟨g, e.1⟩
  have hsc : svs.length ≤ sc := by
    rcases h.sho.2 with ⟨e, _⟩ | ⟨g, cap, cur, e, _, _, h3, _⟩
    · simp at e
    · simp only [Value.slice.injEq, true_and] at e
      rw [e.2]; exact h3
  have hlt := (h.sho.lt gs rfl).2
  have htl : (svs.take es.length).length = es.length := by rw [List.length_take]; omega
  refine ⟨⟨htl, .inr (.inr ⟨gs, 0, sc, by rw [htl], hlt, fun j v hv => ?_⟩), fun j v p hv hp => ?_, hb⟩, fun _ _ _ e => by cases e; omega⟩
  · rw [List.getElem?_take] at hv
    split at hv
    · rename_i hj
      rw [Nat.zero_add, h.sho.cellAt j (by omega)]; exact hv
    · cases hv
  · rw [List.getElem?_take] at hv
    split at hv
    · rename_i hj
      have hpe : es[j] = p := by
        rw [List.getElem?_eq_getElem hj] at hp
        exact Option.some.inj hp
      have hv' : avs[j]? = some (avs[j]'(by omega)) := List.getElem?_eq_getElem _
      obtain ⟨g, c, e1, e2⟩ := h.pre j v _ p hv hv' hp
      obtain ⟨bo, c', e3, hO⟩ := h.all.row j _ _ hv' (List.getElem?_eq_getElem (l := gls es) (by rw [gls_len]; omega))
      rw [gls_lo es j hj, hpe] at e3 hO
      rw [e2] at e3
      simp only [Value.slice.injEq] at e3
      obtain ⟨rfl, _, rfl⟩ := e3
      have hbp : ∀ v ∈ gdj p 9, v < 256 := gdj_lt (hb p (List.mem_of_getElem? hp)) 9
      have hs := hO.part 0 p.length (by rw [gdj_len]; omega) hbp
      have ee : ((gdj p 9).drop 0).take p.length = p := by rw [List.drop_zero, gdj, List.take_left]
      rw [ee, Nat.sub_zero] at hs
      rw [e1]
      exact ⟨hs.s, hs.cap, hs.lt⟩
    · cases hv
/-- The root, whatever the width. -/
def mr (j : Int) (es : List (List Nat)) : List Nat := if 1 ≤ j ∧ j ≤ 32 then mth j (es.map (lf j)) else []
theorem mr_lt (j : Int) (es : List (List Nat)) : ∀ v ∈ mr j es, v < 256 := by
  unfold mr
  split
  · exact mth_lt _ _ _ (Nat.le_refl _) (fun p hp => by
      obtain ⟨e, _, rfl⟩ := List.mem_map.1 hp
      exact lf_lt _ _)
  · intro v h; cases h
theorem mr_len (j : Int) (es : List (List Nat)) : (mr j es).length ≤ 32 := by
  unfold mr
  split
  · rename_i h
    obtain ⟨wi, rfl⟩ : ∃ k : Nat, j = (k : Int) := ⟨j.toNat, by omega⟩
    rw [mth_wid wi (by omega) (by omega) _ (map_lf_len wi (by omega) (by omega) es)]; omega
  · exact Nat.zero_le _
theorem mrootU (j : Int) (x : Value) (us : List Value) (es : List (List Nat)) (w : World) (hg : GS w) (ht : GT w) (hp : Pcs w x us es) (hB : ∀ e ∈ es, e.length ≤ 16000000) (hn : es.length ≤ 8000000) :
    Calls Tryd.prog 6 #[.int .i64 j, x] w fun e w' => ∃ yo yc, e = .returned (.slice yo (mr j es).length yc) ∧ OB w w' yo yc (mr j es) := by
  by_cases h : 1 ≤ j ∧ j ≤ 32
  · obtain ⟨wi, rfl⟩ : ∃ k : Nat, j = (k : Int) := ⟨j.toNat, by omega⟩
    have := mroot_in wi (by omega) (by omega) x us es w hg ht hp hB hn
    have hm := mth_wid wi (by omega) (by omega) _ (map_lf_len wi (by omega) (by omega) es)
    rw [mr, if_pos h, hm]
    exact this
  · refine (mroot_out j (by omega) x us es w hp hn).mono ?_
    rintro e w' ⟨rfl, hF⟩
    rw [mr, if_neg h]
    exact ⟨none, 0, rfl, own_nil _ _, hF⟩
set_option maxRecDepth 100000 in
theorem groot_out (i : Int) (x : Value) (w : World) (h : i < 1 ∨ 32 < i) : Calls Tryd.prog 44 #[.int .i64 i, x] w fun e w' => e = .returned (.slice none 0 0) ∧ w' = w := by
  go_enter Tryd.func44, Tryd.ntmps44
  go_wp2_with fail
  refine (may_no i w h).mono ?_
  rintro e w0 ⟨rfl, rfl⟩
  go_wp2_with fail
  go_ret
  exact ⟨rfl, rfl⟩
theorem grootU (j : Int) (x : Value) (vs : List Value) (es : List (List Nat)) (w : World) (hr : GR w) (hp : Pcs w x vs es) (hB : ∀ e ∈ es, e.length ≤ 4000000) (hn : es.length ≤ 8000000) :
    Calls Tryd.prog 44 #[.int .i64 j, x] w fun e w' => ∃ yo yc, e = .returned (.slice yo (mr j es).length yc) ∧ Sl w' (.slice yo (mr j es).length yc) (mr j es) ∧ Fr (fun _ => False) w w' := by
  by_cases h : 1 ≤ j ∧ j ≤ 32
  · rw [mr, if_pos h]
    exact groot_any j x vs es w hr hp hB hn h.1 h.2
  · refine (groot_out j x w (by omega)).mono ?_
    rintro e w' ⟨rfl, rfl⟩
    rw [mr, if_neg h]
    exact ⟨none, 0, rfl, sl_nil _, Fr.refl _ _⟩
theorem OB.ptr {w wr : World} {xo : Option Addr} {cp : Nat} {l : List Nat} (h : OB w wr xo cp l) : l = [] ∨ ∃ g, xo = some ⟨g, 0, none⟩ ∧ w.heap.size ≤ g ∧ g < wr.heap.size := by
  rcases h.own.2 with ⟨e, e2⟩ | ⟨g, cap, cur, e, _⟩
  · exact .inl (List.length_eq_zero_iff.1 e2)
  · simp only [Value.slice.injEq] at e
    obtain ⟨rfl, _⟩ := e
    exact .inr ⟨g, rfl, h.own.lt g rfl⟩
end Go.Proofs.YthccbfgjekdiiaaDoor

namespace Go.Proofs.YthccbfgjekdiiaaDoor
open Go.RowKit

/-- What Path tells, whatever it is asked. -/
def okP (j i : Int) (es : List (List Nat)) : Prop := 1 ≤ j ∧ j ≤ 32 ∧ 0 ≤ i ∧ i < es.length
instance (j i : Int) (es : List (List Nat)) : Decidable (okP j i es) := inferInstanceAs (Decidable (_ ∧ _))
def plP (j i : Int) (es : List (List Nat)) : List (List Nat) := if okP j i es then pth j.toNat (es.map (lf j)) i.toNat else []
def pcP (j i : Int) (es : List (List Nat)) : Int := if okP j i es then 0 else 1
def okQ (j i : Int) (es : List (List Nat)) : Prop := 1 ≤ j ∧ j ≤ 32 ∧ 0 ≤ i ∧ i ≤ es.length
instance (j i : Int) (es : List (List Nat)) : Decidable (okQ j i es) := inferInstanceAs (Decidable (_ ∧ _))
def plQ (j i : Int) (es : List (List Nat)) : List (List Nat) := if okQ j i es then prf j.toNat (es.map (lf j)) es.length i.toNat else []
def pcQ (j i : Int) (es : List (List Nat)) : Int := if okQ j i es then 0 else 1
theorem pth_wid (wi : Nat) (hw1 : 1 ≤ wi) (hw32 : wi ≤ 32) (k : Nat) : ∀ (ls : List (List Nat)) (i : Nat), ls.length ≤ k → (∀ p ∈ ls, p.length = wi) → ∀ p ∈ pth wi ls i, p.length = wi := by
  induction k with
  | zero => intro ls i h _ p hp; rw [pth_short _ _ _ (by omega)] at hp; cases hp
  | succ k ih =>
    intro ls i h hL p hp
    by_cases h2 : ls.length < 2
    · rw [pth_short _ _ _ h2] at hp; cases hp
    · have h3 := hf_lt ls.length (by omega)
      have h4 := hf_pos ls.length
      by_cases hi : i < hf ls.length
      · rw [pth_l (by omega) hi] at hp
        rcases List.mem_append.1 hp with hp | hp
        · exact ih _ _ (by rw [List.length_take]; omega) (fun q hq => hL q (List.mem_of_mem_take hq)) p hp
        · simp at hp; subst hp; exact mth_wid wi hw1 hw32 _ (fun q hq => hL q (List.mem_of_mem_drop hq))
      · rw [pth_r (by omega) hi] at hp
        rcases List.mem_append.1 hp with hp | hp
        · exact ih _ _ (by rw [List.length_drop]; omega) (fun q hq => hL q (List.mem_of_mem_drop hq)) p hp
        · simp at hp; subst hp; exact mth_wid wi hw1 hw32 _ (fun q hq => hL q (List.mem_of_mem_take hq))
theorem prf_wid (wi : Nat) (hw1 : 1 ≤ wi) (hw32 : wi ≤ 32) (L : List (List Nat)) (hL : ∀ p ∈ L, p.length = wi) (n m : Nat) : ∀ p ∈ prf wi L n m, p.length = wi := by
  intro p hp
  rw [prf] at hp
  split at hp
  · cases hp
  · split at hp
    · exact bes_wid wi hw1 hw32 L hL _ _ _ _ _ (Nat.le_refl _) p hp
    · rcases List.mem_cons.1 hp with rfl | hp
      · exact mth_wid wi hw1 hw32 _ (fun q hq => hL q (blk_mem _ _ _ q hq))
      · exact bes_wid wi hw1 hw32 L hL _ _ _ _ _ (Nat.le_refl _) p hp
theorem plP_ok (j i : Int) (es : List (List Nat)) : (∀ p ∈ plP j i es, p.length ≤ 1000) ∧ (plP j i es).length ≤ es.length := by
  rw [plP]
  split
  · rename_i h
    obtain ⟨h1, h2, h3, h4⟩ := h
    obtain ⟨wi, rfl⟩ : ∃ k : Nat, j = (k : Int) := ⟨j.toNat, by omega⟩
    refine ⟨fun p hp => ?_, ?_⟩
    · have := pth_wid wi (by omega) (by omega) _ _ _ (Nat.le_refl _) (map_lf_len wi (by omega) (by omega) es) p hp
      omega
    · have := pth_le wi _ (es.map (lf wi)) i.toNat (Nat.le_refl _)
      rw [List.length_map] at this
      exact this
  · exact ⟨fun p hp => (by cases hp), Nat.zero_le _⟩
theorem plQ_ok (j i : Int) (es : List (List Nat)) : (∀ p ∈ plQ j i es, p.length ≤ 1000) ∧ (plQ j i es).length ≤ es.length + 1 := by
  rw [plQ]
  split
  · rename_i h
    obtain ⟨h1, h2, h3, h4⟩ := h
    obtain ⟨wi, rfl⟩ : ∃ k : Nat, j = (k : Int) := ⟨j.toNat, by omega⟩
    refine ⟨fun p hp => ?_, ?_⟩
    · have := prf_wid wi (by omega) (by omega) _ (map_lf_len wi (by omega) (by omega) es) _ _ p hp
      omega
    · have hl : (es.map (lf (wi : Int))).length = es.length := List.length_map _
      have := prf_sub wi (es.map (lf wi)) i.toNat (by omega)
      rw [hl] at this
      rw [Int.toNat_natCast, this]
      split
      · simp
      · have := subF_le wi _ (es.map (lf wi)) i.toNat true (Nat.le_refl _)
        omega
  · exact ⟨fun p hp => (by cases hp), Nat.zero_le _⟩
theorem mpathU (j i : Int) (x : Value) (us : List Value) (es : List (List Nat)) (w : World) (hg : GS w) (ht : GT w) (hp : Pcs w x us es) (hB : ∀ e ∈ es, e.length ≤ 16000000) (hn : es.length ≤ 8000000) :
    Calls Tryd.prog 10 #[.int .i64 j, x, .int .i64 i] w fun e w' => ∃ ao cp vs, e = .returned (.tuple #[.slice ao vs.length cp, .int .i64 (pcP j i es)]) ∧ OL w w' ao cp vs (plP j i es) := by
  by_cases h : okP j i es
  · rw [pcP, plP, if_pos h, if_pos h]
    obtain ⟨h1, h2, h3, h4⟩ := h
    obtain ⟨wi, rfl⟩ : ∃ k : Nat, j = (k : Int) := ⟨j.toNat, by omega⟩
    obtain ⟨I, rfl⟩ : ∃ k : Nat, i = (k : Int) := ⟨i.toNat, by omega⟩
    have := mpath_in wi (by omega) (by omega) x us es I w hg ht hp hB hn (by omega)
    have hl : (es.map (lf (wi : Int))).length = es.length := List.length_map _
    have hb := bes_pth wi (es.map (lf wi)) es.length 0 es.length I (Nat.le_refl _) (by omega) (by omega) (by omega)
    have hba := blk_all (es.map (lf wi))
    rw [hl] at hba
    rw [hba, Nat.sub_zero] at hb
    rw [hb] at this
    exact this
  · rw [pcP, plP, if_neg h, if_neg h]
    refine (mpath_no j i x us es w hg hp hB hn (by unfold okP at h; omega)).mono ?_
    rintro e w' ⟨rfl, hF⟩
    exact ⟨none, 0, [], rfl, (OL.nil w').base hF⟩
theorem mproofU (j i : Int) (x : Value) (us : List Value) (es : List (List Nat)) (w : World) (hg : GS w) (ht : GT w) (hp : Pcs w x us es) (hB : ∀ e ∈ es, e.length ≤ 16000000) (hn : es.length ≤ 8000000) :
    Calls Tryd.prog 8 #[.int .i64 j, x, .int .i64 i] w fun e w' => ∃ ao cp vs, e = .returned (.tuple #[.slice ao vs.length cp, .int .i64 (pcQ j i es)]) ∧ OL w w' ao cp vs (plQ j i es) := by
  by_cases h : okQ j i es
  · rw [pcQ, plQ, if_pos h, if_pos h]
    obtain ⟨h1, h2, h3, h4⟩ := h
    obtain ⟨wi, rfl⟩ : ∃ k : Nat, j = (k : Int) := ⟨j.toNat, by omega⟩
    obtain ⟨I, rfl⟩ : ∃ k : Nat, i = (k : Int) := ⟨i.toNat, by omega⟩
    exact mproof_in wi (by omega) (by omega) x us es I w hg ht hp hB hn (by omega)
  · rw [pcQ, plQ, if_neg h, if_neg h]
    refine (mproof_no j i x us es w hg hp hB hn (by unfold okQ at h; omega)).mono ?_
    rintro e w' ⟨rfl, hF⟩
    exact ⟨none, 0, [], rfl, (OL.nil w').base hF⟩
theorem gpathU (j i : Int) (x : Value) (vs : List Value) (es : List (List Nat)) (w : World) (hr : GR w) (hp : Pcs w x vs es) (hB : ∀ e ∈ es, e.length ≤ 4000000) (hn : es.length ≤ 4000000) :
    Calls Tryd.prog 45 #[.int .i64 j, x, .int .i64 i] w fun e w' => ∃ yo yc us, e = .returned (.tuple #[.slice yo (plP j i es).length yc, .int .i64 (pcP j i es)]) ∧ Pcs w' (.slice yo (plP j i es).length yc) us (plP j i es) ∧ Fr (fun _ => False) w w' := by
  by_cases h : okP j i es
  · rw [pcP, plP, if_pos h, if_pos h]
    obtain ⟨h1, h2, h3, h4⟩ := h
    obtain ⟨wi, rfl⟩ : ∃ k : Nat, j = (k : Int) := ⟨j.toNat, by omega⟩
    obtain ⟨I, rfl⟩ : ∃ k : Nat, i = (k : Int) := ⟨i.toNat, by omega⟩
    exact gpath_in wi (by omega) (by omega) x vs es I w hr hp hB hn (by omega)
  · rw [pcP, plP, if_neg h, if_neg h]
    refine (gpath_no j i x vs es w hp (by unfold okP at h; omega)).mono ?_
    rintro e w' ⟨rfl, rfl⟩
    exact ⟨none, 0, [], rfl, pcs_nil _, Fr.refl _ _⟩
theorem gproofU (j i : Int) (x : Value) (vs : List Value) (es : List (List Nat)) (w : World) (hr : GR w) (hp : Pcs w x vs es) (hB : ∀ e ∈ es, e.length ≤ 4000000) (hn : es.length ≤ 4000000) :
    Calls Tryd.prog 46 #[.int .i64 j, x, .int .i64 i] w fun e w' => ∃ yo yc us, e = .returned (.tuple #[.slice yo (plQ j i es).length yc, .int .i64 (pcQ j i es)]) ∧ Pcs w' (.slice yo (plQ j i es).length yc) us (plQ j i es) ∧ Fr (fun _ => False) w w' := by
  by_cases h : okQ j i es
  · rw [pcQ, plQ, if_pos h, if_pos h]
    obtain ⟨h1, h2, h3, h4⟩ := h
    obtain ⟨wi, rfl⟩ : ∃ k : Nat, j = (k : Int) := ⟨j.toNat, by omega⟩
    obtain ⟨I, rfl⟩ : ∃ k : Nat, i = (k : Int) := ⟨i.toNat, by omega⟩
    exact gproof_in wi (by omega) (by omega) x vs es I w hr hp hB hn (by omega)
  · rw [pcQ, plQ, if_neg h, if_neg h]
    refine (gproof_no j i x vs es w hp (by unfold okQ at h; omega)).mono ?_
    rintro e w' ⟨rfl, rfl⟩
    exact ⟨none, 0, [], rfl, pcs_nil _, Fr.refl _ _⟩
end Go.Proofs.YthccbfgjekdiiaaDoor

namespace Go.Proofs.YthccbfgjekdiiaaDoor
open Go.RowKit

theorem count_split (t : Int) : ∀ zs : List Int, zs.Pairwise (· < ·) → (∀ z ∈ zs.take (zs.countP (· < t)), z < t) ∧ ∀ z ∈ zs.drop (zs.countP (· < t)), t ≤ z := by
  intro zs
  induction zs with
  | nil => intro _; simp
  | cons a r ih =>
    intro h
    rw [List.pairwise_cons] at h
    obtain ⟨h1, h2⟩ := h
    obtain ⟨i1, i2⟩ := ih h2
    by_cases ha : a < t
    · rw [List.countP_cons_of_pos (by simpa using ha)]
      refine ⟨fun z hz => ?_, fun z hz => ?_⟩
      · rw [List.take_succ_cons] at hz
        rcases List.mem_cons.1 hz with rfl | hz
        · exact ha
        · exact i1 z hz
      · rw [List.drop_succ_cons] at hz; exact i2 z hz
    · have h0 : r.countP (· < t) = 0 := by
        rw [List.countP_eq_zero]
        intro z hz
        have := h1 z hz
        simp; omega
      rw [List.countP_cons_of_neg (by simpa using ha), h0]
      refine ⟨fun z hz => by simp at hz, fun z hz => ?_⟩
      rw [List.drop_zero] at hz
      rcases List.mem_cons.1 hz with rfl | hz
      · omega
      · have := h1 z hz; omega
/-- A slice of numbers. -/
def Ints (w : World) (x : Value) (zs : List Int) : Prop :=
  ((x = .slice none 0 0 ∧ zs = []) ∨ (∃ a c, x = .slice (some a) 0 c ∧ zs = []) ∨ ∃ g o c, x = .slice (some ⟨g, o, none⟩) zs.length c ∧ zs.length ≤ c ∧ g < w.heap.size ∧ ∀ j, j < zs.length → w.cell? ⟨g, o + j, none⟩ = some (.int .i64 (zs.getD j 0)))
theorem Ints.form {w : World} {x : Value} {zs : List Int} (h : Ints w x zs) : ∃ xo xc, x = .slice xo zs.length xc := by
  rcases h with ⟨rfl, rfl⟩ | ⟨a, c, rfl, rfl⟩ | ⟨g, o, c, rfl, _⟩ <;> exact ⟨_, _, rfl⟩
theorem Ints.fr0 {w w' : World} {x : Value} {zs : List Int} (h : Ints w x zs) (hf : Fr (fun _ => False) w w') : Ints w' x zs := by
  rcases h with h | h | ⟨g, o, c, h1, h2, h3, h4⟩
  · exact .inl h
  · exact .inr (.inl h)
  · exact .inr (.inr ⟨g, o, c, h1, h2, Nat.lt_of_lt_of_le h3 hf.size, fun j hj => (hf.cell (p := ⟨g, o + j, none⟩) h3 (fun h => h)).trans (h4 j hj)⟩)
theorem Ints.at_ {w : World} {xo : Option Addr} {n c : Nat} {zs : List Int} (h : Ints w (.slice xo n c) zs) (h0 : 0 < zs.length) : ∃ g o, xo = some ⟨g, o, none⟩ ∧ n = zs.length ∧ zs.length ≤ c ∧ g < w.heap.size ∧ ∀ j, j < zs.length → w.cell? ⟨g, o + j, none⟩ = some (.int .i64 (zs.getD j 0)) := by
  rcases h with ⟨_, rfl⟩ | ⟨a, c, _, rfl⟩ | ⟨g, o, c', e, h2, h3, h4⟩
  · simp at h0
  · simp at h0
  · simp only [Value.slice.injEq] at e
    obtain ⟨rfl, rfl, rfl⟩ := e
    exact ⟨g, o, rfl, rfl, h2, h3, h4⟩
theorem Ints.take {w : World} {g o n c : Nat} {zs : List Int} (hc : zs.length ≤ c) (hg : g < w.heap.size) (h : ∀ j, j < zs.length → w.cell? ⟨g, o + j, none⟩ = some (.int .i64 (zs.getD j 0))) (hn : n ≤ zs.length) : Ints w (.slice (some ⟨g, o, none⟩) n c) (zs.take n) := by
  have hl : (zs.take n).length = n := by rw [List.length_take]; omega
  refine .inr (.inr ⟨g, o, c, by rw [hl], by omega, hg, fun j hj => ?_⟩)
  rw [h j (by omega)]
  simp only [List.getD, List.getElem?_take]
  rw [if_pos (by omega)]
theorem Ints.drop {w : World} {g o n c : Nat} {zs : List Int} (hc : zs.length ≤ c) (hg : g < w.heap.size) (h : ∀ j, j < zs.length → w.cell? ⟨g, o + j, none⟩ = some (.int .i64 (zs.getD j 0))) (hn : n ≤ zs.length) : Ints w (.slice (some ⟨g, o + n, none⟩) (zs.length - n) (c - n)) (zs.drop n) := by
  have hl : (zs.drop n).length = zs.length - n := by rw [List.length_drop]
  refine .inr (.inr ⟨g, o + n, c - n, by rw [hl], by omega, hg, fun j hj => ?_⟩)
  rw [Nat.add_assoc, h (n + j) (by omega)]
  simp only [List.getD, List.getElem?_drop]
/-- The hashes for places. -/
def mny (wi : Nat) (L : List (List Nat)) (f n : Nat) (zs : List Int) : List (List Nat) :=
  if zs = [] then [mth wi (blk L f n)]
  else if _h : n < 2 then []
  else mny wi L f (hf n) (zs.take (zs.countP (· < ((f + hf n : Nat) : Int)))) ++ mny wi L (f + hf n) (n - hf n) (zs.drop (zs.countP (· < ((f + hf n : Nat) : Int))))
termination_by n
decreasing_by
  · exact hf_lt n (by omega)
  · have := hf_pos n; omega
theorem mny_nil (wi : Nat) (L : List (List Nat)) (f n : Nat) : mny wi L f n [] = [mth wi (blk L f n)] := by rw [mny, if_pos rfl]
theorem mny_one {wi : Nat} {L : List (List Nat)} {f n : Nat} {zs : List Int} (hz : zs ≠ []) (h : n < 2) : mny wi L f n zs = [] := by rw [mny, if_neg hz, dif_pos h]
theorem mny_two {wi : Nat} {L : List (List Nat)} {f n : Nat} {zs : List Int} (hz : zs ≠ []) (h : 2 ≤ n) : mny wi L f n zs = mny wi L f (hf n) (zs.take (zs.countP (· < ((f + hf n : Nat) : Int)))) ++ mny wi L (f + hf n) (n - hf n) (zs.drop (zs.countP (· < ((f + hf n : Nat) : Int)))) := by
  conv => lhs; rw [mny, if_neg hz, dif_neg (by omega)]
theorem mny_lt (wi : Nat) (L : List (List Nat)) (k : Nat) : ∀ f n zs, n ≤ k → zs ≠ [] → 1 ≤ n → (mny wi L f n zs).length ≤ n := by
  induction k with
  | zero => intro f n zs h _ h1; omega
  | succ k ih =>
    intro f n zs h hz h1
    by_cases h2 : n < 2
    · rw [mny_one hz h2]; simp
    · rw [mny_two hz (by omega), List.length_append]
      have h3 := hf_lt n (by omega)
      have h4 := hf_pos n
      generalize zs.countP (· < ((f + hf n : Nat) : Int)) = C
      have one : ∀ f' n', 1 ≤ n' → n' ≤ k → ∀ ys, (mny wi L f' n' ys).length ≤ n' := fun f' n' h5 h6 ys => by
        by_cases hy : ys = []
        · rw [hy, mny_nil]; simpa using h5
        · exact ih f' n' ys h6 hy h5
      have i1 := one f (hf n) (by omega) (by omega) (zs.take C)
      have i2 := one (f + hf n) (n - hf n) (by omega) (by omega) (zs.drop C)
      omega
theorem mny_le (wi : Nat) (L : List (List Nat)) (f n : Nat) (zs : List Int) : (mny wi L f n zs).length ≤ n + 1 := by
  by_cases hz : zs = []
  · rw [hz, mny_nil]; simp
  · by_cases h1 : 1 ≤ n
    · have := mny_lt wi L n f n zs (Nat.le_refl _) hz h1; omega
    · rw [mny_one hz (by omega)]; simp
def ManySays (tb wi : Nat) (L : List (List Nat)) (f n : Nat) (zs : List Int) (x : Value) (w : World) : Prop :=
  Calls Tryd.prog 65 #[pv (.pointer (some ⟨tb, 0, none⟩)) f n, x] w fun e w' => ∃ ao cp vs, e = .returned (.slice ao vs.length cp) ∧ OL w w' ao cp vs (mny wi L f n zs)
set_option maxRecDepth 100000 in
set_option maxHeartbeats 1000000 in
theorem many_nil (tb wi : Nat) (hw1 : 1 ≤ wi) (hw32 : wi ≤ 32) (L : List (List Nat)) (f n : Nat) (x : Value) (w : World) (hT : Tk w tb wi L) (hA : Al f n) (hL : f + n ≤ L.length) (hx : Ints w x []) : ManySays tb wi L f n [] x w := by
  have hroot := fun w' (hf : Fr (fun _ => False) w w') => root_any tb wi hw1 hw32 L _ f n w' (Nat.le_refl _) (hT.fr0 hf) hA hL
  have hMw := hT.mw hw1 hw32 f n
  have hMb := hT.mb f n
  unfold ManySays
  unfold RootSays at hroot
  rw [mny_nil]
  generalize mth wi (blk L f n) = M at *
  obtain ⟨xo, xc, rfl⟩ := hx.form
  have HC := hide (And.intro hroot (And.intro hMw hMb))
  clear hroot hMw hMb hT hA hL hx
  unfold pv at *
  simp only [List.length_nil]
  go_enter Tryd.func65, Tryd.ntmps65
  go_wp2_with fail
  refine ((unhide HC).1 _ ((Fr.refl _ _).alloc _)).mono ?_
  rintro e w1 ⟨yo, yc, rfl, hO⟩
  obtain ⟨W, hW⟩ : ∃ W, w1.alloc (.cells #[.slice yo wi yc] 25) = W := ⟨_, rfl⟩
  have hL1 := (ol_lit1 hO (unhide HC).2.2 wi (unhide HC).2.1 W hW).base ((Fr.refl _ _).alloc _)
  have H1 := hide hL1
  clear hL1 hO
  go_wp2_with fail
  go_ret
  exact ⟨_, 1, _, rfl, unhide H1⟩
set_option maxRecDepth 100000 in
set_option maxHeartbeats 1000000 in
theorem many_one (tb wi : Nat) (L : List (List Nat)) (f : Nat) (zs : List Int) (x : Value) (w : World) (hx : Ints w x zs) (hz : zs ≠ []) : ManySays tb wi L f 1 zs x w := by
  unfold ManySays pv
  rw [mny_one hz (by decide)]
  obtain ⟨xo, xc, rfl⟩ := hx.form
  have h0 : 0 < zs.length := List.length_pos_iff.2 hz
  have q0 : ((zs.length : Int) == 0) = false := beq_false_of_ne (by omega)
  have q1 : ¬ zs.length = 0 := by omega
  have q2 : ¬ zs = [] := hz
  clear hx hz
  generalize zs.length = N at *
  have e1 : ((1 : Nat) : Int) = 1 := rfl
  simp only [e1]
  go_enter Tryd.func65, Tryd.ntmps65
  go_wp2_with fail
  go_ret
  exact ⟨none, 0, [], rfl, (OL.nil _).base ((Fr.refl _ _).alloc _)⟩
set_option maxRecDepth 100000 in
set_option maxHeartbeats 2000000 in
theorem many_two (tb wi : Nat) (L : List (List Nat)) (f n : Nat) (zs : List Int) (x : Value) (w : World) (hb : f + n ≤ 8000000) (h2 : 2 ≤ n) (hx : Ints w x zs) (hz : zs ≠ []) (hs : zs.Pairwise (· < ·)) (hzl : zs.length ≤ 16000000)
    (ih1 : ∀ w' x', Fr (fun _ => False) w w' → Ints w' x' (zs.take (zs.countP (· < ((f + hf n : Nat) : Int)))) → ManySays tb wi L f (hf n) (zs.take (zs.countP (· < ((f + hf n : Nat) : Int)))) x' w')
    (ih2 : ∀ w' x', Fr (fun _ => False) w w' → Ints w' x' (zs.drop (zs.countP (· < ((f + hf n : Nat) : Int)))) → ManySays tb wi L (f + hf n) (n - hf n) (zs.drop (zs.countP (· < ((f + hf n : Nat) : Int)))) x' w') : ManySays tb wi L f n zs x w := by
  have h0 : 0 < zs.length := List.length_pos_iff.2 hz
  obtain ⟨xo, xc, rfl⟩ := hx.form
  obtain ⟨g, o, rfl, -, hc, hgl, hcells⟩ := hx.at_ h0
  have hlt := hf_lt n h2
  have hpos := hf_pos n
  have hpt := fun w => parts_any (some ⟨tb, 0, none⟩) f n w (by omega) h2
  have hfind : ∀ w', Fr (fun _ => False) w w' → Calls Tryd.prog 67 #[.slice (some ⟨g, o, none⟩) zs.length xc, .int .i64 ((f + hf n : Nat) : Int)] w' fun e w'' => ∃ bb, e = .returned (.tuple #[.int .i64 (zs.countP (· < ((f + hf n : Nat) : Int)) : Nat), .bool bb]) ∧ Fr (fun _ => False) w' w'' := fun w' hf' => by
    refine (find_any g o zs.length xc zs ((f + hf n : Nat) : Int) w' (Nat.le_refl _) (by omega) (fun j hj => (hf'.cell (p := ⟨g, o + j, none⟩) hgl (fun h => h)).trans (hcells j hj)) (by rw [List.take_length]; exact hs.imp (fun h => by omega))).mono ?_
    rintro e w'' ⟨rfl, q, rfl⟩
    rw [List.take_length]
    exact ⟨_, rfl, (Fr.refl _ _).drewN q⟩
  have hCl : zs.countP (· < ((f + hf n : Nat) : Int)) ≤ zs.length := List.countP_le_length
  have m1 := mny_le wi L f (hf n) (zs.take (zs.countP (· < ((f + hf n : Nat) : Int))))
  have m2 := mny_le wi L (f + hf n) (n - hf n) (zs.drop (zs.countP (· < ((f + hf n : Nat) : Int))))
  unfold ManySays at *
  rw [mny_two hz h2]
  generalize hC : zs.countP (· < ((f + hf n : Nat) : Int)) = C at *
  have r1 := fun w' (hf' : Fr (fun _ => False) w w') => ih1 w' _ hf' ((Ints.take hc hgl hcells hCl).fr0 hf')
  have r2 : ∀ w', Fr (fun _ => False) w w' → _ := fun w' hf' => ih2 w' _ hf' ((Ints.drop hc hgl hcells hCl).fr0 hf')
  have r3 : C = zs.length → ∀ w' a c', Fr (fun _ => False) w w' → _ := fun hCz w' a c' hf' => ih2 w' (.slice (some a) 0 c') hf' (by rw [hCz, List.drop_length]; exact .inr (.inl ⟨a, c', rfl, rfl⟩))
  generalize mny wi L f (hf n) (zs.take C) = A1 at *
  generalize mny wi L (f + hf n) (n - hf n) (zs.drop C) = A2 at *
  have hcat : ∀ (wr w1 : World) (ao bo : Option Addr) (cp bc : Nat) (vs us : List Value), OL w wr ao cp vs A1 → OL wr w1 bo bc us A2 → True := fun _ _ _ _ _ _ _ _ _ _ => trivial
  have m1' : A1.length ≤ 9000000 := by omega
  have m2' : A2.length ≤ 9000000 := by omega
  have HL := hide (And.intro m1' m2')
  clear m1' m2'
  clear hcat m1 m2 ih1 ih2 hC hs hcells hgl hx hz
  generalize hF2 : f + hf n = F2 at *
  generalize n - hf n = N2 at *
  generalize hf n = K at *
  have q0 : ((zs.length : Int) == 0) = false := beq_false_of_ne (by omega)
  have q1 : ¬ zs.length = 0 := by omega
  have q2 : ((n : Int) == 1) = false := beq_false_of_ne (by omega)
  have q3 : ¬ n = 1 := by omega
  have q4 : (C : Int) ≤ (zs.length : Int) := by omega
  have q5 : (C : Int) ≤ (xc : Int) := by omega
  have HC := hide (And.intro hpt (And.intro hfind (And.intro r1 (And.intro r2 r3))))
  clear hpt hfind r1 r2 r3
  unfold pv at *
  by_cases hcC : xc = C
  · have hCz : C = zs.length := by omega
    have HCz := hide hCz
    have hxc : xc = zs.length := by omega
    clear hcC
    subst hxc
    subst hCz
    generalize zs.length = N at *
    go_enter Tryd.func65, Tryd.ntmps65
    go_wp2_with fail
    obtain ⟨W0, hW0⟩ : ∃ W0, w.alloc (.cells #[.pointer (some ⟨tb, 0, none⟩), .int .i64 f, .int .i64 n] 79) = W0 := ⟨_, rfl⟩
    rw [hW0]
    obtain ⟨-, -, -, hF0⟩ := box3p w _ _ _ _ W0 hW0
    refine ((unhide HC).1 _).mono ?_
    rintro e wA ⟨rfl, hFA⟩
    have HF := hide (hF0.trans hFA (fun _ _ h => h))
    clear hF0 hFA hW0
    go_wp2_with fail
    obtain ⟨W1, hW1⟩ : ∃ W1, (wA.alloc (.cells #[.pointer (some ⟨tb, 0, none⟩), .int .i64 f, .int .i64 K] 79)).alloc (.cells #[.pointer (some ⟨tb, 0, none⟩), .int .i64 F2, .int .i64 N2] 79) = W1 := ⟨_, rfl⟩
    rw [hW1]
    obtain ⟨x0, x1, x2, y0, y1, y2, hF1⟩ := two3 wA _ _ _ _ _ _ _ W1 hW1
    refine ((unhide HC).2.1 _ ((unhide HF).trans hF1 (fun _ _ h => h))).mono ?_
    rintro e wB ⟨bb, rfl, hFB⟩
    have u0 := (hFB.cell (lt_of_cell x0) (fun h => h)).trans x0
    have u1 := (hFB.cell (lt_of_cell x1) (fun h => h)).trans x1
    have u2 := (hFB.cell (lt_of_cell x2) (fun h => h)).trans x2
    have v0 := (hFB.cell (lt_of_cell y0) (fun h => h)).trans y0
    have v1 := (hFB.cell (lt_of_cell y1) (fun h => h)).trans y1
    have v2 := (hFB.cell (lt_of_cell y2) (fun h => h)).trans y2
    have HF2 := hide (((unhide HF).trans hF1 (fun _ _ h => h)).trans hFB (fun _ _ h => h))
    clear hF1 hFB hW1 x0 x1 x2 y0 y1 y2 HF
    generalize wA.heap.size = Z at *
    have hS : ∀ w', Fr (fun _ => False) wB w' → w'.cell? ⟨Z, 0, none⟩ = some (.pointer (some ⟨tb, 0, none⟩)) ∧ w'.cell? ⟨Z, 1, none⟩ = some (.int .i64 f) ∧ w'.cell? ⟨Z, 2, none⟩ = some (.int .i64 K) ∧ w'.cell? ⟨Z + 1, 0, none⟩ = some (.pointer (some ⟨tb, 0, none⟩)) ∧ w'.cell? ⟨Z + 1, 1, none⟩ = some (.int .i64 F2) ∧ w'.cell? ⟨Z + 1, 2, none⟩ = some (.int .i64 N2) := fun w' hf =>
      ⟨(hf.cell (lt_of_cell u0) (fun h => h)).trans u0, (hf.cell (lt_of_cell u1) (fun h => h)).trans u1, (hf.cell (lt_of_cell u2) (fun h => h)).trans u2, (hf.cell (lt_of_cell v0) (fun h => h)).trans v0, (hf.cell (lt_of_cell v1) (fun h => h)).trans v1, (hf.cell (lt_of_cell v2) (fun h => h)).trans v2⟩
    have HS := hide hS
    clear hS
    have T1 : True := trivial
    go_wp2_with fail
    go_region_held3 (fun w' => w'.cell? ⟨Z, 0, none⟩ = some (.pointer (some ⟨tb, 0, none⟩)) ∧ w'.cell? ⟨Z, 1, none⟩ = some (.int .i64 f) ∧ w'.cell? ⟨Z, 2, none⟩ = some (.int .i64 K) ∧ w'.cell? ⟨Z + 1, 0, none⟩ = some (.pointer (some ⟨tb, 0, none⟩)) ∧ w'.cell? ⟨Z + 1, 1, none⟩ = some (.int .i64 F2) ∧ w'.cell? ⟨Z + 1, 2, none⟩ = some (.int .i64 N2))
      (first | assumption | exact (unhide HS) _ (Fr.refl _ _).drew | exact (unhide HS) _ fE | exact (unhide HS) _ fD | exact (unhide HS) _ fC)
      (first
        | (go_at_call 65; clear T1; refine ((unhide HC).2.2.1 _ (by exact (unhide HF2).drew)).mono ?_; rintro e wC ⟨ao, cp, vs, rfl, oC⟩; have fC : Fr (fun _ => False) wB wC := (Fr.refl _ _).drew.trans oC.own.fr (fun _ _ h => h))
        | (go_at_call 65; refine ((unhide HC).2.2.2.2 (unhide HCz) _ _ _ (by exact (unhide HF2).trans fC (fun _ _ h => h))).mono ?_; rintro e wD ⟨bo, bc, us, rfl, oD⟩; have fD : Fr (fun _ => False) wB wD := fC.trans oD.own.fr (fun _ _ h => h))
        | (obtain ⟨ao2, cp2, wE, hr2, hO2⟩ := oC.cat oD (by rw [oC.len, oD.len]; have h1 := (unhide HL).1; have h2 := (unhide HL).2; omega); have fE : Fr (fun _ => False) wB wE := (Fr.refl _ _).drew.trans hO2.own.fr (fun _ _ h => h); refine step_app rfl (.tmp 36) (.tmp 41) 22 22 rfl _ _ _ (by simp [Act.eval]) (by simp [Act.eval]) hr2 ?_))
    have HE := hide (hO2.base ((unhide HF2).drew))
    clear oC oD hO2 hr2 fC fD fE
    go_wp2_with fail
    go_ret
    exact ⟨ao2, cp2, _, by rw [List.length_append]; rfl, unhide HE⟩
  · have q6 : ¬ C = xc := fun h => hcC h.symm
    generalize zs.length = N at *
    go_enter Tryd.func65, Tryd.ntmps65
    go_wp2_with fail
    obtain ⟨W0, hW0⟩ : ∃ W0, w.alloc (.cells #[.pointer (some ⟨tb, 0, none⟩), .int .i64 f, .int .i64 n] 79) = W0 := ⟨_, rfl⟩
    rw [hW0]
    obtain ⟨-, -, -, hF0⟩ := box3p w _ _ _ _ W0 hW0
    refine ((unhide HC).1 _).mono ?_
    rintro e wA ⟨rfl, hFA⟩
    have HF := hide (hF0.trans hFA (fun _ _ h => h))
    clear hF0 hFA hW0
    go_wp2_with fail
    obtain ⟨W1, hW1⟩ : ∃ W1, (wA.alloc (.cells #[.pointer (some ⟨tb, 0, none⟩), .int .i64 f, .int .i64 K] 79)).alloc (.cells #[.pointer (some ⟨tb, 0, none⟩), .int .i64 F2, .int .i64 N2] 79) = W1 := ⟨_, rfl⟩
    rw [hW1]
    obtain ⟨x0, x1, x2, y0, y1, y2, hF1⟩ := two3 wA _ _ _ _ _ _ _ W1 hW1
    refine ((unhide HC).2.1 _ ((unhide HF).trans hF1 (fun _ _ h => h))).mono ?_
    rintro e wB ⟨bb, rfl, hFB⟩
    have u0 := (hFB.cell (lt_of_cell x0) (fun h => h)).trans x0
    have u1 := (hFB.cell (lt_of_cell x1) (fun h => h)).trans x1
    have u2 := (hFB.cell (lt_of_cell x2) (fun h => h)).trans x2
    have v0 := (hFB.cell (lt_of_cell y0) (fun h => h)).trans y0
    have v1 := (hFB.cell (lt_of_cell y1) (fun h => h)).trans y1
    have v2 := (hFB.cell (lt_of_cell y2) (fun h => h)).trans y2
    have HF2 := hide (((unhide HF).trans hF1 (fun _ _ h => h)).trans hFB (fun _ _ h => h))
    clear hF1 hFB hW1 x0 x1 x2 y0 y1 y2 HF
    generalize wA.heap.size = Z at *
    have hS : ∀ w', Fr (fun _ => False) wB w' → w'.cell? ⟨Z, 0, none⟩ = some (.pointer (some ⟨tb, 0, none⟩)) ∧ w'.cell? ⟨Z, 1, none⟩ = some (.int .i64 f) ∧ w'.cell? ⟨Z, 2, none⟩ = some (.int .i64 K) ∧ w'.cell? ⟨Z + 1, 0, none⟩ = some (.pointer (some ⟨tb, 0, none⟩)) ∧ w'.cell? ⟨Z + 1, 1, none⟩ = some (.int .i64 F2) ∧ w'.cell? ⟨Z + 1, 2, none⟩ = some (.int .i64 N2) := fun w' hf =>
      ⟨(hf.cell (lt_of_cell u0) (fun h => h)).trans u0, (hf.cell (lt_of_cell u1) (fun h => h)).trans u1, (hf.cell (lt_of_cell u2) (fun h => h)).trans u2, (hf.cell (lt_of_cell v0) (fun h => h)).trans v0, (hf.cell (lt_of_cell v1) (fun h => h)).trans v1, (hf.cell (lt_of_cell v2) (fun h => h)).trans v2⟩
    have HS := hide hS
    clear hS
    have T1 : True := trivial
    go_wp2_with fail
    go_region_held3 (fun w' => w'.cell? ⟨Z, 0, none⟩ = some (.pointer (some ⟨tb, 0, none⟩)) ∧ w'.cell? ⟨Z, 1, none⟩ = some (.int .i64 f) ∧ w'.cell? ⟨Z, 2, none⟩ = some (.int .i64 K) ∧ w'.cell? ⟨Z + 1, 0, none⟩ = some (.pointer (some ⟨tb, 0, none⟩)) ∧ w'.cell? ⟨Z + 1, 1, none⟩ = some (.int .i64 F2) ∧ w'.cell? ⟨Z + 1, 2, none⟩ = some (.int .i64 N2))
      (first | assumption | exact (unhide HS) _ (Fr.refl _ _).drew | exact (unhide HS) _ fE | exact (unhide HS) _ fD | exact (unhide HS) _ fC)
      (first
        | (go_at_call 65; clear T1; refine ((unhide HC).2.2.1 _ (by exact (unhide HF2).drew)).mono ?_; rintro e wC ⟨ao, cp, vs, rfl, oC⟩; have fC : Fr (fun _ => False) wB wC := (Fr.refl _ _).drew.trans oC.own.fr (fun _ _ h => h))
        | (go_at_call 65; refine ((unhide HC).2.2.2.1 _ (by exact (unhide HF2).trans fC (fun _ _ h => h))).mono ?_; rintro e wD ⟨bo, bc, us, rfl, oD⟩; have fD : Fr (fun _ => False) wB wD := fC.trans oD.own.fr (fun _ _ h => h))
        | (obtain ⟨ao2, cp2, wE, hr2, hO2⟩ := oC.cat oD (by rw [oC.len, oD.len]; have h1 := (unhide HL).1; have h2 := (unhide HL).2; omega); have fE : Fr (fun _ => False) wB wE := (Fr.refl _ _).drew.trans hO2.own.fr (fun _ _ h => h); refine step_app rfl (.tmp 36) (.tmp 41) 22 22 rfl _ _ _ (by simp [Act.eval]) (by simp [Act.eval]) hr2 ?_))
    have HE := hide (hO2.base ((unhide HF2).drew))
    clear oC oD hO2 hr2 fC fD fE
    go_wp2_with fail
    go_ret
    exact ⟨ao2, cp2, _, by rw [List.length_append]; rfl, unhide HE⟩
/-- The hashes for places, of a part. -/
theorem many_any (tb wi : Nat) (hw1 : 1 ≤ wi) (hw32 : wi ≤ 32) (L : List (List Nat)) (k : Nat) : ∀ (f n : Nat) (zs : List Int) (x : Value) (w : World), n ≤ k → Tk w tb wi L → Al f n → f + n ≤ L.length → Ints w x zs → zs.Pairwise (· < ·) → (∀ z ∈ zs, (f : Int) ≤ z ∧ z < f + n) → zs.length ≤ 16000000 → ManySays tb wi L f n zs x w := by
  induction k with
  | zero =>
    intro f n zs x w hk hT hA hL hx hs hz hl
    have e : zs = [] := by
      rcases zs with _ | ⟨a, r⟩
      · rfl
      · have := hz a (by simp); omega
    subst e
    exact many_nil tb wi hw1 hw32 L f n x w hT hA hL hx
  | succ k ih =>
    intro f n zs x w hk hT hA hL hx hs hz hl
    by_cases e : zs = []
    · subst e
      exact many_nil tb wi hw1 hw32 L f n x w hT hA hL hx
    · have hn1 : 1 ≤ n := by
        rcases zs with _ | ⟨a, r⟩
        · exact absurd rfl e
        · have := hz a (by simp); omega
      by_cases h1 : n = 1
      · subst h1
        exact many_one tb wi L f zs x w hx e
      · have hlt := hf_lt n (by omega)
        have hpos := hf_pos n
        obtain ⟨hA1, hA2⟩ := hA.halves (by omega)
        obtain ⟨s1, s2⟩ := count_split ((f + hf n : Nat) : Int) zs hs
        have hle := hT.len
        refine many_two tb wi L f n zs x w (by omega) (by omega) hx e hs hl (fun w' x' hf' hx' => ?_) (fun w' x' hf' hx' => ?_)
        · exact ih f (hf n) _ x' w' (by omega) (hT.fr0 hf') hA1 (by omega) hx' (hs.sublist (List.take_sublist _ _)) (fun z hz' => by have h1 := hz z (List.mem_of_mem_take hz'); have h2 := s1 z hz'; omega) (by rw [List.length_take]; omega)
        · exact ih (f + hf n) (n - hf n) _ x' w' (by omega) (hT.fr0 hf') hA2 (by omega) hx' (hs.sublist (List.drop_sublist _ _)) (fun z hz' => by have h1 := hz z (List.mem_of_mem_drop hz'); have h2 := s2 z hz'; omega) (by rw [List.length_drop]; omega)
end Go.Proofs.YthccbfgjekdiiaaDoor

namespace Go.Proofs.YthccbfgjekdiiaaDoor
open Go.RowKit

/-- Are numbers rising, from l on, below n? -/
def rsF (n : Int) : Int → List Int → Bool
  | _, [] => true
  | l, z :: r => if z < l ∨ n ≤ z then false else rsF n (z + 1) r
theorem rsF_ok (n : Int) : ∀ (zs : List Int) (l : Int), rsF n l zs = true → zs.Pairwise (· < ·) ∧ ∀ z ∈ zs, l ≤ z ∧ z < n := by
  intro zs
  induction zs with
  | nil => intro l _; exact ⟨List.Pairwise.nil, fun z h => by cases h⟩
  | cons a r ih =>
    intro l h
    rw [rsF] at h
    split at h
    · cases h
    · obtain ⟨h1, h2⟩ := ih (a + 1) h
      refine ⟨List.pairwise_cons.2 ⟨fun z hz => by have := h2 z hz; omega, h1⟩, fun z hz => ?_⟩
      rcases List.mem_cons.1 hz with rfl | hz
      · omega
      · have := h2 z hz; omega
theorem Ints.cell {w : World} {xo : Option Addr} {n c : Nat} {zs : List Int} (h : Ints w (.slice xo n c) zs) (k : Nat) (hk : k < zs.length) : ∃ g o, xo = some ⟨g, o, none⟩ ∧ w.cell? ⟨g, o + k, none⟩ = some (.int .i64 zs[k]) := by
  obtain ⟨g, o, e, _, _, _, hc⟩ := h.at_ (by omega)
  refine ⟨g, o, e, ?_⟩
  rw [hc k hk, List.getD, List.getElem?_eq_getElem hk, Option.getD_some]
set_option maxRecDepth 100000 in
set_option maxHeartbeats 1000000 in
/-- merkle.rising. -/
theorem rising_any (x : Value) (zs : List Int) (n : Int) (w : World) (hx : Ints w x zs) (hn : n < 9223372036854775808) (hl : zs.length ≤ 16000000) (hb : ∀ z ∈ zs, -9223372036854775808 ≤ z) :
    Calls Tryd.prog 38 #[x, .int .i64 n] w fun e w' => e = .returned (.bool (rsF n 0 zs)) ∧ w' = w := by
  obtain ⟨xo, xc, rfl⟩ := hx.form
  have HG := hide (And.intro hx (And.intro hl hb))
  obtain ⟨B, hB⟩ : ∃ B, rsF n 0 zs = B := ⟨_, rfl⟩
  rw [hB]
  have HB := hide hB
  clear hx hl hb hB
  generalize hN : zs.length = N at *
  go_enter Tryd.func38, Tryd.ntmps38
  go_wp2_with fail
  go_loopw [5, 10] (fun lv iv wr => ∃ (k : Nat) (l : Int), k ≤ N ∧ iv = .int .i64 (k : Nat) ∧ lv = .int .i64 l ∧ wr = w ∧ rsF n l (zs.drop k) = B) (fun _ iv _ => N - (intOf iv).toNat)
  case atStart => exact ⟨0, 0, Nat.zero_le _, rfl, rfl, rfl, unhide HB⟩
  case round =>
    obtain ⟨k, l, hk, rfl, rfl, rfl, hI⟩ := hrel
    have hN8 := (unhide HG).2.1
    by_cases hlt : k < N
    · have hlt' : (k : Int) < (N : Int) := by omega
      have hkz : k < zs.length := by omega
      obtain ⟨g, o, rfl, hcell⟩ := (unhide HG).1.cell k hkz
      have hzb := (unhide HG).2.2 zs[k] (List.getElem_mem hkz)
      rw [List.drop_eq_getElem_cons hkz, rsF] at hI
      generalize zs[k] = z at *
      have w1 : IntKind.i64.wrap ((k : Int) + 1) = (k : Int) + 1 := by rw [IntKind.wrap_i64]; omega
      by_cases h1 : z < l
      · rw [if_pos (.inl h1)] at hI
        subst hI
        go_wp2_with fail
        go_ret
        exact ⟨rfl, by first | rfl | trivial⟩
      · by_cases h2 : n ≤ z
        · rw [if_pos (.inr h2)] at hI
          subst hI
          go_wp2_with fail
          go_ret
          exact ⟨rfl, by first | rfl | trivial⟩
        · rw [if_neg (by omega)] at hI
          have w2 : IntKind.i64.wrap (z + 1) = z + 1 := by rw [IntKind.wrap_i64]; omega
          have HI := hide hI
          clear hI
          go_wp2_with fail
          exact ⟨⟨k + 1, z + 1, by omega, by go_num, by go_num, by first | rfl | trivial, unhide HI⟩, by simp [intOf]; omega⟩
    · have hkN : k = N := by omega
      have hlt' : ¬ (k : Int) < (N : Int) := by omega
      rw [List.drop_of_length_le (by omega), rsF] at hI
      subst hI
      clear hkN
      go_wp2_with fail
      go_ret
      exact ⟨rfl, by first | rfl | trivial⟩
set_option maxRecDepth 100000 in
set_option maxHeartbeats 1000000 in
theorem tmany_in (tb wi : Nat) (hw1 : 1 ≤ wi) (hw32 : wi ≤ 32) (L : List (List Nat)) (n : Nat) (x : Value) (zs : List Int) (w : World) (hT : Tk w tb wi L) (hn : n ≤ L.length) (hx : Ints w x zs) (hl : zs.length ≤ 16000000) (hr : rsF n 0 zs = true) :
    Calls Tryd.prog 37 #[.pointer (some ⟨tb, 0, none⟩), x, .int .i64 n] w fun e w' => ∃ ao cp vs, e = .returned (.tuple #[.slice ao vs.length cp, .int .i64 0]) ∧ OL w w' ao cp vs (mny wi L 0 n zs) := by
  obtain ⟨c0, c1, htb⟩ := hT.c0
  have hle := hT.len
  obtain ⟨s1, s2⟩ := rsF_ok n zs 0 hr
  have hhas : Calls Tryd.prog 48 #[.pointer (some ⟨tb, 0, none⟩), .int .i64 n] w fun e w' => e = .returned (.bool true) ∧ w' = w := by
    have := has_any tb L.length wi n w c0 c1
    rw [decide_eq_true (by omega)] at this
    exact this
  have hri := rising_any x zs n w hx (by omega) hl (fun z hz => by have := s2 z hz; omega)
  rw [hr] at hri
  have hmn := fun w' (hf : Fr (fun _ => False) w w') => many_any tb wi hw1 hw32 L n 0 n zs x w' (Nat.le_refl _) (hT.fr0 hf) (al_zero n) (by omega) (hx.fr0 hf) s1 (fun z hz => by have := s2 z hz; omega) hl
  unfold ManySays at hmn
  obtain ⟨xo, xc, rfl⟩ := hx.form
  have HG := hide (And.intro hhas (And.intro hri hmn))
  clear hhas hri hmn hT c0 c1 htb hn hx s1 s2 hr hl hle
  generalize zs.length = N at *
  go_enter Tryd.func37, Tryd.ntmps37
  go_wp2_with fail
  refine (unhide HG).1.mono ?_
  rintro e w0 ⟨rfl, rfl⟩
  go_wp2_with fail
  refine (unhide HG).2.1.mono ?_
  rintro e w0 ⟨rfl, rfl⟩
  go_wp2_with fail
  refine (first_any _ _ _).mono ?_
  rintro e w1 ⟨rfl, hF1⟩
  have H1 := hide hF1
  clear hF1
  go_wp2_with fail
  refine ((unhide HG).2.2 w1 (unhide H1)).mono ?_
  rintro e w2 ⟨ao, cp, vs, rfl, hO⟩
  have H2 := hide (hO.base (unhide H1))
  clear hO
  go_wp2_with fail
  go_returns
  exact ⟨ao, cp, vs, rfl, unhide H2⟩
set_option maxRecDepth 100000 in
set_option maxHeartbeats 1000000 in
theorem tmany_no (tb n : Nat) (wi k : Int) (x : Value) (zs : List Int) (w : World) (c0 : w.cell? ⟨tb, 0, none⟩ = some (.int .i64 wi)) (c1 : w.cell? ⟨tb, 1, none⟩ = some (.int .i64 n)) (hx : Ints w x zs) (hl : zs.length ≤ 16000000) (hb : ∀ z ∈ zs, -9223372036854775808 ≤ z) (hk : k < 9223372036854775808) (h : ¬ (1 ≤ wi ∧ wi ≤ 32 ∧ 0 ≤ k ∧ k ≤ n) ∨ rsF k 0 zs = false) :
    Calls Tryd.prog 37 #[.pointer (some ⟨tb, 0, none⟩), x, .int .i64 k] w fun e w' => e = .returned (.tuple #[.slice none 0 0, .int .i64 1]) ∧ w' = w := by
  have hhas := has_any tb n wi k w c0 c1
  have hri := rising_any x zs k w hx hk hl hb
  obtain ⟨xo, xc, rfl⟩ := hx.form
  by_cases hh : 1 ≤ wi ∧ wi ≤ 32 ∧ 0 ≤ k ∧ k ≤ n
  · rw [decide_eq_true hh] at hhas
    have h' : rsF k 0 zs = false := by
      rcases h with h | h
      · exact absurd hh h
      · exact h
    rw [h'] at hri
    have HG := hide (And.intro hhas hri)
    clear hhas h c0 c1 hx hl hb hri h' hh
    generalize zs.length = N at *
    go_enter Tryd.func37, Tryd.ntmps37
    go_wp2_with fail
    refine (unhide HG).1.mono ?_
    rintro e w0 ⟨rfl, rfl⟩
    go_wp2_with fail
    refine (unhide HG).2.mono ?_
    rintro e w0 ⟨rfl, rfl⟩
    go_wp2_with fail
    go_returns
    exact ⟨rfl, rfl⟩
  · rw [decide_eq_false hh] at hhas
    have HG := hide hhas
    clear hhas h hh c0 c1 hx hl hb hri
    generalize zs.length = N at *
    go_enter Tryd.func37, Tryd.ntmps37
    go_wp2_with fail
    refine (unhide HG).mono ?_
    rintro e w0 ⟨rfl, rfl⟩
    go_wp2_with fail
    go_returns
    exact ⟨rfl, rfl⟩
set_option maxRecDepth 100000 in
set_option maxHeartbeats 1000000 in
/-- merkle.Many, of rising places. -/
theorem mmany_in (wi : Nat) (hw1 : 1 ≤ wi) (hw32 : wi ≤ 32) (x y : Value) (us : List Value) (es : List (List Nat)) (zs : List Int) (w : World) (hg : GS w) (ht : GT w) (hp : Pcs w x us es) (hB : ∀ e ∈ es, e.length ≤ 16000000) (hn : es.length ≤ 8000000) (hy : Ints w y zs) (hl : zs.length ≤ 16000000) (hr : rsF es.length 0 zs = true) :
    Calls Tryd.prog 13 #[.int .i64 wi, x, y] w fun e w' => ∃ ao cp vs, e = .returned (.tuple #[.slice ao vs.length cp, .int .i64 0]) ∧ OL w w' ao cp vs (mny wi (es.map (lf wi)) 0 es.length zs) := by
  have hgr := grown_in wi hw1 hw32 x us es w hg hp hB hn
  have htr := fun w' tb (hf : Fr (fun _ => False) w w') (hT : Tk w' tb wi (es.map (lf wi))) => tmany_in tb wi hw1 hw32 (es.map (lf wi)) es.length y zs w' hT (by rw [List.length_map]; exact Nat.le_refl _) (hy.fr0 hf) hl hr
  obtain ⟨xo, xc, rfl⟩ := hp.form
  obtain ⟨yo, yc, rfl⟩ := hy.form
  have HT := hide (fun (w' : World) (tb base : Nat) (xo : Option Addr) (cp : Nat) (vs : List Value) (rs : List (List Nat)) (hT : TrAt w' base tb wi es.length xo cp vs rs) hR hf => tk_of hw1 hw32 hT hR hg ht hf hn)
  have HG := hide (And.intro hgr htr)
  clear hgr htr hg ht hp hB hn hy hl hr
  generalize mny wi (es.map (lf wi)) 0 es.length zs = M at *
  generalize es.length = N at *
  generalize zs.length = ZN at *
  go_enter Tryd.func13, Tryd.ntmps13
  go_wp2_with fail
  refine (unhide HG).1.mono ?_
  rintro e w1 ⟨rfl, yo, cp, vs, rs, hT, hR, hF⟩
  have hk := (unhide HT) _ _ _ _ _ _ _ hT hR hF
  have H1 := hide (And.intro hk hF)
  clear hk hF hT hR
  generalize w.heap.size = TB at *
  go_wp2_with fail
  refine ((unhide HG).2 w1 TB (unhide H1).2 (unhide H1).1).mono ?_
  rintro e w2 ⟨ao, cp, vs, rfl, hO⟩
  have H2 := hide (hO.base (unhide H1).2)
  clear hO
  go_wp2_with fail
  go_returns
  exact ⟨ao, cp, vs, rfl, unhide H2⟩
set_option maxRecDepth 100000 in
set_option maxHeartbeats 1000000 in
theorem mmany_no (j : Int) (x y : Value) (us : List Value) (es : List (List Nat)) (zs : List Int) (w : World) (hg : GS w) (hp : Pcs w x us es) (hB : ∀ e ∈ es, e.length ≤ 16000000) (hn : es.length ≤ 8000000) (hy : Ints w y zs) (hl : zs.length ≤ 16000000) (hzb : ∀ z ∈ zs, -9223372036854775808 ≤ z) (hi : (j < 1 ∨ 32 < j) ∨ rsF es.length 0 zs = false) :
    Calls Tryd.prog 13 #[.int .i64 j, x, y] w fun e w' => e = .returned (.tuple #[.slice none 0 0, .int .i64 1]) ∧ Fr (fun _ => False) w w' := by
  have hgr : Calls Tryd.prog 19 #[.int .i64 j, x] w fun e w' => e = .returned (.pointer (some ⟨w.heap.size, 0, none⟩)) ∧ w'.cell? ⟨w.heap.size, 0, none⟩ = some (.int .i64 j) ∧ w'.cell? ⟨w.heap.size, 1, none⟩ = some (.int .i64 es.length) ∧ Fr (fun _ => False) w w' := by
    by_cases hj : 1 ≤ j ∧ j ≤ 32
    · obtain ⟨wi, rfl⟩ : ∃ n : Nat, j = (n : Int) := ⟨j.toNat, by omega⟩
      refine (grown_in wi (by omega) (by omega) x us es w hg hp hB hn).mono ?_
      rintro e w' ⟨rfl, xo, cp, vs, rs, hT, _, hF⟩
      exact ⟨rfl, hT.cells.1, hT.cells.2.1, hF⟩
    · refine (grown_out j (by omega) x us es w hp hn).mono ?_
      rintro e w' ⟨rfl, hT, hF⟩
      exact ⟨rfl, hT.cells.1, hT.cells.2.1, hF⟩
  have htr := fun (w' : World) (tb : Nat) (hf : Fr (fun _ => False) w w') (h0 : w'.cell? ⟨tb, 0, none⟩ = some (.int .i64 j)) (h1 : w'.cell? ⟨tb, 1, none⟩ = some (.int .i64 es.length)) => tmany_no tb es.length j es.length y zs w' h0 h1 (hy.fr0 hf) hl hzb (by omega) (hi.imp (fun h => by omega) id)
  obtain ⟨xo, xc, rfl⟩ := hp.form
  obtain ⟨yo, yc, rfl⟩ := hy.form
  have HG := hide (And.intro hgr htr)
  clear hgr htr hp hg hB hn hi hy hl hzb
  generalize es.length = N at *
  generalize zs.length = ZN at *
  go_enter Tryd.func13, Tryd.ntmps13
  go_wp2_with fail
  refine (unhide HG).1.mono ?_
  rintro e w1 ⟨rfl, h0, h1, hF⟩
  have H1 := hide (And.intro h0 (And.intro h1 hF))
  clear hF h0 h1
  generalize w.heap.size = TB at *
  go_wp2_with fail
  refine ((unhide HG).2 w1 TB (unhide H1).2.2 (unhide H1).1 (unhide H1).2.1).mono ?_
  rintro e w2 ⟨rfl, rfl⟩
  go_wp2_with fail
  go_returns
  exact ⟨rfl, (unhide H1).2.2⟩
end Go.Proofs.YthccbfgjekdiiaaDoor

namespace Go.Proofs.YthccbfgjekdiiaaDoor
open Go.RowKit

set_option maxRecDepth 100000 in
set_option maxHeartbeats 2000000 in
/-- The document's Rising. -/
theorem grising_any (x : Value) (zs : List Int) (n : Int) (w : World) (hx : Ints w x zs) (hl : zs.length ≤ 16000000) (hb : ∀ z ∈ zs, -9223372036854775808 ≤ z) :
    Calls Tryd.prog 76 #[x, .int .i64 n] w fun e w' => e = .returned (.bool (rsF n 0 zs)) ∧ Fr (fun _ => False) w w' := by
  obtain ⟨xo, xc, rfl⟩ := hx.form
  have HG := hide (And.intro hx (And.intro hl hb))
  obtain ⟨B, hB⟩ : ∃ B, rsF n 0 zs = B := ⟨_, rfl⟩
  rw [hB]
  have HB := hide hB
  clear hx hl hb hB
  generalize hN : zs.length = N at *
  go_enter Tryd.func76, Tryd.ntmps76
  go_wp2_with fail
  go_loopw [5] (fun iv wr => ∃ (k : Nat) (l : Int), k ≤ N ∧ iv = .int .i64 (k : Nat) ∧ Fr (fun _ => False) w wr ∧ rsF n l (zs.drop k) = B ∧ (k = 0 ∧ l = 0 ∨ ∃ m z, k = m + 1 ∧ zs[m]? = some z ∧ 0 ≤ z ∧ l = z + 1)) (fun iv _ => N - (intOf iv).toNat)
  case atStart => exact ⟨0, 0, Nat.zero_le _, rfl, Fr.refl _ _, unhide HB, .inl ⟨rfl, rfl⟩⟩
  case round =>
    obtain ⟨k, l, hk, rfl, hF, hI, hK⟩ := hrel
    have hN8 := (unhide HG).2.1
    by_cases hlt : k < N
    · have hlt' : (k : Int) < (N : Int) := by omega
      have hkz : k < zs.length := by omega
      have hx := (unhide HG).1.fr0 hF
      obtain ⟨g, o, rfl, hcell⟩ := hx.cell k hkz
      have hzb := (unhide HG).2.2 zs[k] (List.getElem_mem hkz)
      rw [List.drop_eq_getElem_cons hkz, rsF] at hI
      have hzk : zs[k]? = some zs[k] := List.getElem?_eq_getElem hkz
      have w1 : IntKind.i64.wrap ((k : Int) + 1) = (k : Int) + 1 := by rw [IntKind.wrap_i64]; omega
      rcases hK with ⟨h0, rfl⟩ | ⟨m, p, rfl, hm, hp0, rfl⟩
      · generalize zs[k] = z at *
        have k0 : decide ((0 : Int) < (k : Int)) = false := decide_eq_false (by omega)
        have k01 : decide (0 < k) = false := decide_eq_false (by omega)
        clear h0
        have HF := hide hF
        have HZ := hide hzk
        clear hF hx hzk
        by_cases h1 : z < 0
        · rw [if_pos (.inl h1)] at hI
          subst hI
          go_wp2_with fail
          go_quiet (fail)
          go_wp2_with fail
          go_ret
          exact ⟨rfl, (unhide HF).drewN _⟩
        · have d1 : decide (z < 0) = false := decide_eq_false h1
          by_cases h2 : n ≤ z
          · rw [if_pos (.inr h2)] at hI
            subst hI
            go_wp2_with fail
            go_quiet (fail)
            go_wp2_with fail
            go_ret
            exact ⟨rfl, (unhide HF).drewN _⟩
          · rw [if_neg (by omega)] at hI
            have d2 : decide (n ≤ z) = false := decide_eq_false h2
            have HI := hide hI
            clear hI
            go_wp2_with fail
            go_quiet (fail)
            go_wp2_with fail
            exact ⟨⟨k + 1, z + 1, by omega, by go_num, (unhide HF).drewN _, unhide HI, .inr ⟨k, z, rfl, unhide HZ, by omega, rfl⟩⟩, by simp [intOf]; omega⟩
      · have hmz : m < zs.length := by omega
        obtain ⟨g2, o2, e2, hcell2⟩ := hx.cell m hmz
        have hmm : zs[m] = p := by rw [List.getElem?_eq_getElem hmz] at hm; exact Option.some.inj hm
        rw [hmm] at hcell2
        cases e2
        generalize zs[m + 1] = z at *
        have w2 : IntKind.i64.wrap ((m : Int) + 1 - 1) = (m : Int) := by rw [IntKind.wrap_i64]; omega
        have w3 : IntKind.i64.wrap (((m + 1 : Nat) : Int) - 1) = (m : Int) := by rw [IntKind.wrap_i64]; omega
        have k0 : (0 : Int) < ((m + 1 : Nat) : Int) := by omega
        have k1 : (m : Int) < (N : Int) := by omega
        have HF := hide hF
        have HZ := hide hzk
        clear hF hx hzk hm hmm
        by_cases h1 : z < 0
        · rw [if_pos (.inl (by omega))] at hI
          subst hI
          go_wp2_with fail
          go_quiet (fail)
          go_wp2_with fail
          go_ret
          exact ⟨rfl, (unhide HF).drewN _⟩
        · have d1 : decide (z < 0) = false := decide_eq_false h1
          by_cases h2 : n ≤ z
          · rw [if_pos (.inr h2)] at hI
            subst hI
            go_wp2_with fail
            go_quiet (fail)
            go_wp2_with fail
            go_ret
            exact ⟨rfl, (unhide HF).drewN _⟩
          · have d2 : decide (n ≤ z) = false := decide_eq_false h2
            by_cases h3 : z ≤ p
            · rw [if_pos (.inl (by omega))] at hI
              subst hI
              go_wp2_with fail
              go_quiet (fail)
              go_wp2_with fail
              go_ret
              exact ⟨rfl, (unhide HF).drewN _⟩
            · have d3 : decide (z ≤ p) = false := decide_eq_false h3
              rw [if_neg (by omega)] at hI
              have HI := hide hI
              clear hI
              go_wp2_with fail
              go_quiet (fail)
              go_wp2_with fail
              exact ⟨⟨m + 1 + 1, z + 1, by omega, by go_num, (unhide HF).drewN _, unhide HI, .inr ⟨m + 1, z, rfl, unhide HZ, by omega, rfl⟩⟩, by simp [intOf]; omega⟩
    · have hkN : k = N := by omega
      have hlt' : ¬ (k : Int) < (N : Int) := by omega
      rw [List.drop_of_length_le (by omega), rsF] at hI
      subst hI
      have HF := hide hF
      clear hkN hF hK
      go_wp2_with fail
      go_ret
      exact ⟨rfl, unhide HF⟩
end Go.Proofs.YthccbfgjekdiiaaDoor

namespace Go.Proofs.YthccbfgjekdiiaaDoor
open Go.RowKit

theorem Tryd.infoInt : (Tryd.prog.info? 3).map (fun i => (i.zero, i.size, i.bytes)) = some (some (.int .i64 0), 1, 8) := by kernel_rfl
def IV (zs : List Int) : List Value := zs.map (.int .i64 ·)
theorem IV_len (zs : List Int) : (IV zs).length = zs.length := List.length_map _
theorem IV_app (a b : List Int) : IV (a ++ b) = IV a ++ IV b := List.map_append
theorem own_form3 {w : World} {base n : Nat} {v : Value} {xs : List Value} (h : w.ownsRow base 3 1 v n xs) : ∃ ao cap, v = .slice ao n cap := by
  rcases h.2 with ⟨rfl, rfl⟩ | ⟨g, cap, cur, rfl, _⟩
  · exact ⟨none, 0, rfl⟩
  · exact ⟨some ⟨g, 0, none⟩, cap, rfl⟩
/-- append(v, x...) of whole numbers. -/
theorem run_app_in (w : World) (base n : Nat) (v x : Value) (xs : List Value) (zs : List Int) (hown : w.ownsRow base 3 1 v n xs) (hx : Ints w x zs) (hb : n + zs.length ≤ 1000000000) (hbase : base ≤ w.heap.size) :
    ∃ ao cap w', (Builtin.append_ #[23, 23] 23 #[v, x]).run Tryd.prog w = .ok (.slice ao (n + zs.length) cap) w' ∧ w'.ownsRow base 3 1 (.slice ao (n + zs.length) cap) (n + zs.length) (xs ++ IV zs) ∧ w.grownBy w' v.ownBlock ∧
      ((Value.slice ao (n + zs.length) cap).ownBlock = v.ownBlock ∨ (Value.slice ao (n + zs.length) cap).ownBlock = some w.heap.size) := by
  obtain ⟨i0, hi, hz0, hz1, hz2⟩ := info_parts Tryd.infoInt
  have hone : ∀ u ∈ IV zs, u.oneCell' = true := fun u hu => by
    obtain ⟨z, _, rfl⟩ := List.mem_map.1 hu
    rfl
  rcases hx with ⟨rfl, rfl⟩ | ⟨ad, c, rfl, rfl⟩ | ⟨g, o, c, rfl, hlc, hgl, hc⟩
  · have hr := run_append_owned_none (P := Tryd.prog) w base 23 23 3 i0 1 Tryd.underlying23 hi v n xs hown
    obtain ⟨ao, cap, rfl⟩ := own_form3 hown
    exact ⟨ao, cap, w, by simpa using hr, by simpa [IV] using hown, ⟨rfl, rfl, rfl, Nat.le_refl _, fun _ _ _ => rfl⟩, .inl rfl⟩
  · obtain ⟨v', w', hr, h2, h3, _, h5⟩ := run_append_own_at (P := Tryd.prog) w base 23 23 3 i0 (.int .i64 0) 1 8 Tryd.underlying23 hi hz0 hz1 hz2 rfl (by decide) v n xs hown ad 0 c [] rfl (fun j u hu => by simp at hu) (fun u hu => by simp at hu) (by simp only [maxLen]; simp at hb; omega) (by simp at hb; omega) hbase
    obtain ⟨ao, cap, rfl⟩ := own_form3 h2
    exact ⟨ao, cap, w', hr, h2, h3, h5⟩
  · obtain ⟨v', w', hr, h2, h3, _, h5⟩ := run_append_own_at (P := Tryd.prog) w base 23 23 3 i0 (.int .i64 0) 1 8 Tryd.underlying23 hi hz0 hz1 hz2 rfl (by decide) v n xs hown ⟨g, o, none⟩ zs.length c (IV zs) (by simp [IV]) (fun j u hu => by
        have hj : j < zs.length := by have := (List.getElem?_eq_some_iff.1 hu).1; rw [IV_len] at this; exact this
        rw [add_at2, hc j hj]
        rw [IV, List.getElem?_map, List.getElem?_eq_getElem hj] at hu
        rw [List.getD, List.getElem?_eq_getElem hj]
        exact hu) hone (by simp only [maxLen]; omega) (by omega) hbase
    obtain ⟨ao, cap, rfl⟩ := own_form3 h2
    exact ⟨ao, cap, w', hr, h2, h3, h5⟩
/-- Whole numbers in memory of one's own. -/
structure OI (w wr : World) (v : Value) (zs : List Int) : Prop where
  own : wr.ownsRow w.heap.size 3 1 v zs.length (IV zs)
  fr : Fr (fun _ => False) w wr
theorem OI.nil (w : World) : OI w w (.slice none 0 0) [] := ⟨⟨rfl, .inl ⟨rfl, rfl⟩⟩, Fr.refl _ _⟩
theorem OI.form {w wr : World} {v : Value} {zs : List Int} (h : OI w wr v zs) : ∃ ao cap, v = .slice ao zs.length cap := own_form3 h.own
theorem OI.fr0 {w wr wq : World} {v : Value} {zs : List Int} (h : OI w wr v zs) (hf : Fr (fun _ => False) wr wq) : OI w wq v zs :=
  ⟨ownsRow_of_block h.own (fun g hg => hf.block g (h.own.lt g hg).2 (fun h => h)), h.fr.trans hf (fun _ _ h => h)⟩
theorem OI.ints {w wr : World} {v : Value} {zs : List Int} (h : OI w wr v zs) : Ints wr v zs := by
  rcases h.own.2 with ⟨e, e0⟩ | ⟨g, cap, cur, e, _, _, h3, _⟩
  · exact .inl ⟨e, List.length_eq_zero_iff.1 e0⟩
  · subst e
    refine .inr (.inr ⟨g, 0, cap, rfl, h3, (h.own.lt g rfl).2, fun j hj => ?_⟩)
    rw [Nat.zero_add, h.own.cellAt j (by omega), IV, List.getElem?_map, List.getElem?_eq_getElem hj, List.getD, List.getElem?_eq_getElem hj]
    rfl
/-- Others are appended; what lies in another block stays. -/
theorem OI.app {w wr : World} {v x : Value} {zs ys : List Int} (h : OI w wr v zs) (hx : Ints wr x ys) (hb : zs.length + ys.length ≤ 1000000000) :
    ∃ ao cap w', (Builtin.append_ #[23, 23] 23 #[v, x]).run Tryd.prog wr = .ok (.slice ao (zs.length + ys.length) cap) w' ∧ OI w w' (.slice ao (zs.length + ys.length) cap) (zs ++ ys) ∧ wr.grownBy w' v.ownBlock ∧ ((Value.slice ao (zs.length + ys.length) cap).ownBlock = v.ownBlock ∨ (Value.slice ao (zs.length + ys.length) cap).ownBlock = some wr.heap.size) := by
  obtain ⟨ao, cap, w', hr, ho, hg, hat⟩ := run_app_in wr w.heap.size zs.length v x (IV zs) ys h.own hx hb h.fr.size
  refine ⟨ao, cap, w', hr, ⟨?_, h.fr.grown hg (fun g hg => .inr (h.own.lt g hg).1)⟩, hg, hat⟩
  rw [List.length_append, IV_app]
  exact ho
/-- The places below, the others less k. -/
def pa (k : Int) (zs : List Int) : List Int := zs.filter (fun z => decide (z < k))
def pb (k : Int) (zs : List Int) : List Int := (zs.filter (fun z => !decide (z < k))).map (· - k)
theorem pa_le (k : Int) (zs : List Int) : (pa k zs).length ≤ zs.length := List.length_filter_le _ _
theorem pb_le (k : Int) (zs : List Int) : (pb k zs).length ≤ zs.length := by rw [pb, List.length_map]; exact List.length_filter_le _ _
theorem pa_app (k : Int) (a b : List Int) : pa k (a ++ b) = pa k a ++ pa k b := List.filter_append _ _
theorem pb_app (k : Int) (a b : List Int) : pb k (a ++ b) = pb k a ++ pb k b := by rw [pb, List.filter_append, List.map_append]; rfl
/-- Two own lists; one more behind the first. -/
theorem OI.two {w wr : World} {v u : Value} {zs ys : List Int} (h : OI w wr v zs) (h' : OI w wr u ys) (hap : ∀ g, v.ownBlock = some g → u.ownBlock = some g → False) (z : Int) (hb : zs.length < 16000000) :
    ∃ ao cap w', (Builtin.append_ #[23, 23] 23 #[v, .slice (some ⟨wr.heap.size, 0, none⟩) 1 1]).run Tryd.prog (wr.alloc (.cells #[.int .i64 z] 3)) = .ok (.slice ao (zs.length + 1) cap) w' ∧ OI w w' (.slice ao (zs.length + 1) cap) (zs ++ [z]) ∧ OI w w' u ys ∧ ∀ g, (Value.slice ao (zs.length + 1) cap).ownBlock = some g → u.ownBlock = some g → False := by
  have hF : Fr (fun _ => False) wr (wr.alloc (.cells #[.int .i64 z] 3)) := (Fr.refl _ _).alloc _
  have hx : Ints (wr.alloc (.cells #[.int .i64 z] 3)) (.slice (some ⟨wr.heap.size, 0, none⟩) 1 1) [z] := by
    refine .inr (.inr ⟨wr.heap.size, 0, 1, rfl, Nat.le_refl _, by simp, fun j hj => ?_⟩)
    have hj0 : j = 0 := by simp at hj; exact hj
    subst hj0
    rw [World.cell?_alloc_at _ _ _ _ rfl]
    rfl
  obtain ⟨ao, cap, w', hr, hO, hg, hat⟩ := (h.fr0 hF).app hx (by simp; omega)
  refine ⟨ao, cap, w', hr, hO, ⟨ownsRow_of_block (h'.fr0 hF).own (fun g hgu => ?_), hO.fr⟩, fun g h1 h2 => ?_⟩
  · exact hg.block g ((h'.fr0 hF).own.lt g hgu).2 (fun hv => hap g hv.symm hgu)
  · rcases hat with e | e
    · exact hap g ((show _ = v.ownBlock from e).symm.trans h1) h2
    · have e1 : (Value.slice ao (zs.length + 1) cap).ownBlock = some (wr.alloc (.cells #[.int .i64 z] 3)).heap.size := e
      rw [e1] at h1
      have := (h'.own.lt g h2).2
      simp at h1
      omega
end Go.Proofs.YthccbfgjekdiiaaDoor

namespace Go.Proofs.YthccbfgjekdiiaaDoor
open Go.RowKit

set_option maxRecDepth 100000 in
set_option maxHeartbeats 2000000 in
/-- The document's Parted. -/
theorem parted_any (x : Value) (zs : List Int) (K : Int) (w : World) (hx : Ints w x zs) (hl : zs.length ≤ 8000000) (hK : 0 ≤ K ∧ K < 9223372036854775808) (hb : ∀ z ∈ zs, 0 ≤ z ∧ z < 9223372036854775808) :
    Calls Tryd.prog 95 #[x, .int .i64 K] w fun e w' => ∃ a b, e = .returned (.tuple #[a, b]) ∧ Ints w' a (pa K zs) ∧ Ints w' b (pb K zs) ∧ Fr (fun _ => False) w w' := by
  obtain ⟨xo, xc, rfl⟩ := hx.form
  have HG := hide (And.intro hx (And.intro hl (And.intro hb hK)))
  clear hx hl hb hK
  generalize hN : zs.length = N at *
  go_enter Tryd.func95, Tryd.ntmps95
  go_wp2_with fail
  go_loopw [6, 7, 8] (fun av bv iv wr => ∃ k : Nat, k ≤ N ∧ iv = .int .i64 (k : Nat) ∧ OI w wr av (pa K (zs.take k)) ∧ OI w wr bv (pb K (zs.take k)) ∧ ∀ g, av.ownBlock = some g → bv.ownBlock = some g → False) (fun _ _ iv _ => N - (intOf iv).toNat)
  case atStart => exact ⟨0, Nat.zero_le _, rfl, OI.nil w, OI.nil w, fun g h => by cases h⟩
  case round =>
    rename_i av' bv'
    obtain ⟨k, hk, rfl, hA, hB, hap⟩ := hrel
    have hN8 := (unhide HG).2.1
    obtain ⟨hK0, hK1⟩ := (unhide HG).2.2.2
    have hla := pa_le K (zs.take k)
    have hlb := pb_le K (zs.take k)
    have htl : (zs.take k).length = k := by rw [List.length_take]; omega
    by_cases hlt : k < N
    · have hlt' : (k : Int) < (N : Int) := by omega
      have hkz : k < zs.length := by omega
      obtain ⟨g, o, rfl, hcell⟩ := ((unhide HG).1.fr0 hA.fr).cell k hkz
      obtain ⟨hz0, hz1⟩ := (unhide HG).2.2.1 zs[k] (List.getElem_mem hkz)
      have htk : zs.take (k + 1) = zs.take k ++ [zs[k]] := by rw [List.take_add_one, List.getElem?_eq_getElem hkz]; rfl
      have w1 : IntKind.i64.wrap ((k : Int) + 1) = (k : Int) + 1 := by rw [IntKind.wrap_i64]; omega
      generalize zs[k] = z at *
      have hgl := lt_of_cell hcell
      by_cases h1 : z < K
      · have e1 : pa K (zs.take (k + 1)) = pa K (zs.take k) ++ [z] := by rw [htk, pa_app]; simp [pa, h1]
        have e2 : pb K (zs.take (k + 1)) = pb K (zs.take k) := by rw [htk, pb_app]; simp [pb, h1]
        obtain ⟨ao, cp, w', hr, hA2, hB2, hap2⟩ := hA.two hB hap z (by omega)
        rw [← e1] at hA2
        rw [← e2] at hB2
        obtain ⟨a0, ac, rfl⟩ := hA.form
        obtain ⟨b0, bc, rfl⟩ := hB.form
        have HR := hide hr
        have HA := hide (And.intro hA2 (And.intro hB2 hap2))
        clear hr hA2 hB2 hap2 hA hB hap htk e1 e2 hla hlb htl
        generalize (pa K (zs.take k)).length = PA at *
        generalize (pb K (zs.take k)).length = PB at *
        go_wp2_with (at_builtin; refine wpList_app rfl (.tmp 21) (.tmp 26) 23 23 rfl _ _ _ rfl rfl (unhide HR) ?_)
        exact ⟨⟨k + 1, by omega, by go_num, (unhide HA).1, (unhide HA).2.1, (unhide HA).2.2⟩, by simp [intOf]; omega⟩
      · have w2 : IntKind.i64.wrap (z - K) = z - K := by rw [IntKind.wrap_i64]; omega
        have e1 : pb K (zs.take (k + 1)) = pb K (zs.take k) ++ [z - K] := by rw [htk, pb_app]; simp [pb, h1]
        have e2 : pa K (zs.take (k + 1)) = pa K (zs.take k) := by rw [htk, pa_app]; simp [pa, h1]
        obtain ⟨ao, cp, w', hr, hB2, hA2, hap2⟩ := hB.two hA (fun g h1 h2 => hap g h2 h1) (z - K) (by omega)
        rw [← e1] at hB2
        rw [← e2] at hA2
        obtain ⟨a0, ac, rfl⟩ := hA.form
        obtain ⟨b0, bc, rfl⟩ := hB.form
        have HR := hide hr
        have HA := hide (And.intro hA2 (And.intro hB2 hap2))
        clear hr hA2 hB2 hap2 hA hB hap htk e1 e2 hla hlb htl
        generalize (pa K (zs.take k)).length = PA at *
        generalize (pb K (zs.take k)).length = PB at *
        go_wp2_with (at_builtin; refine wpList_app rfl (.tmp 28) (.tmp 35) 23 23 rfl _ _ _ rfl rfl (unhide HR) ?_)
        exact ⟨⟨k + 1, by omega, by go_num, (unhide HA).1, (unhide HA).2.1, fun g h1 h2 => (unhide HA).2.2 g h2 h1⟩, by simp [intOf]; omega⟩
    · have hkN : k = N := by omega
      have hlt' : ¬ (k : Int) < (N : Int) := by omega
      rw [List.take_of_length_le (by omega)] at hA hB
      have HA := hide (And.intro hA.ints (And.intro hB.ints hA.fr))
      obtain ⟨a0, ac, rfl⟩ := hA.form
      obtain ⟨b0, bc, rfl⟩ := hB.form
      clear hkN hA hB hap hla hlb htl
      generalize (pa K zs).length = PA at *
      generalize (pb K zs).length = PB at *
      go_wp2_with fail
      go_returns
      exact ⟨_, _, rfl, (unhide HA).1, (unhide HA).2.1, (unhide HA).2.2⟩
end Go.Proofs.YthccbfgjekdiiaaDoor

namespace Go.Proofs.YthccbfgjekdiiaaDoor
open Go.RowKit

/-- The block of a slice. -/
def Bk (v : Value) (P : Nat → Prop) : Prop := ∀ g o n c, v = .slice (some ⟨g, o, none⟩) n c → P g
def OfQ (N0 : Nat) (i : Int) (ps : List (List Nat)) (x : Value) (w : World) : Prop :=
  Calls Tryd.prog 68 #[.int .i64 i, x] w fun e w' => ∃ yo yc, e = .returned (.slice yo (mth i ps).length yc) ∧ Sl w' (.slice yo (mth i ps).length yc) (mth i ps) ∧ Fr (fun _ => False) w w' ∧ Bk (.slice yo (mth i ps).length yc) (fun g => g < N0 ∨ w.heap.size ≤ g)
set_option maxRecDepth 100000 in
theorem ofQ_nil (N0 : Nat) (i : Int) (x : Value) (vs : List Value) (w : World) (hr : GR w) (hp : Pcs w x vs []) : OfQ N0 i [] x w := by
  unfold OfQ
  obtain ⟨xo, xc, rfl⟩ := hp.form
  obtain ⟨R, hR⟩ : ∃ R, mth i [] = R := ⟨_, rfl⟩
  have hsum : ∀ w, GR w → Calls Tryd.prog 89 #[.int .i64 i, .slice none 0 0] w fun e w' => ∃ zo zc, e = .returned (.slice zo R.length zc) ∧ OB w w' zo zc R := fun w h => by
    rw [← hR, mth_nil]
    exact gsum_T i _ [] w h (.inl ⟨rfl, rfl⟩) (fun _ h => by cases h) (by simp)
  have hb : ∀ v ∈ R, v < 256 := by rw [← hR, mth_nil]; exact sm_lt i _
  rw [hR]
  have HG := hide (And.intro hsum (And.intro hr hb))
  clear hsum hr hb hR hp
  simp only [List.length_nil]
  go_enter Tryd.func68, Tryd.ntmps68
  go_wp2_with fail
  refine ((unhide HG).1 w (unhide HG).2.1).mono ?_
  rintro e w1 ⟨zo, zc, rfl, hO⟩
  have hbk : Bk (.slice zo R.length zc) (fun g => g < N0 ∨ w.heap.size ≤ g) := fun g o n c e => by
    simp only [Value.slice.injEq] at e
    obtain ⟨rfl, _⟩ := e
    exact .inr (World.ownsRow.lt hO.own g rfl).1
  have H1 := hide (And.intro (hO.sl (unhide HG).2.2) (And.intro hO.fr hbk))
  clear hbk
  clear hO
  go_wp2_with fail
  go_ret
  exact ⟨zo, zc, rfl, (unhide H1).1, (unhide H1).2.1, (unhide H1).2.2⟩
set_option maxRecDepth 100000 in
theorem ofQ_one (N0 : Nat) (i : Int) (p : List Nat) (x : Value) (vs : List Value) (w : World) (hp : Pcs w x vs [p]) (hq : ∀ u ∈ vs, Bk u (fun g => g < N0)) : OfQ N0 i [p] x w := by
  unfold OfQ
  obtain ⟨xo, xc, rfl⟩ := hp.form
  obtain ⟨g, o, v, rfl, hcell, _⟩ := hp.cell (Fr.refl _ _) 0 (by simp)
  have hvl : 0 < vs.length := by rw [hp.len]; simp
  have hsl : Sl w v p ∧ v ∈ vs := by
    have h0 := hp.at_
    rcases h0 with ⟨e, rfl⟩ | ⟨a, c, e, rfl⟩ | ⟨g', o', c, e, _, hc⟩
    · simp at hvl
    · simp at hvl
    · simp only [Value.slice.injEq, Option.some.injEq, Addr.mk.injEq, and_true] at e
      obtain ⟨⟨rfl, rfl⟩, _⟩ := e
      have h1 := hc 0 _ (List.getElem?_eq_getElem hvl)
      rw [h1] at hcell
      have h2 := Option.some.inj hcell
      exact ⟨hp.sl 0 v p (by rw [List.getElem?_eq_getElem hvl, h2]) rfl, by rw [← h2]; exact List.getElem_mem hvl⟩
  rw [mth_one]
  have hbq := hq v hsl.2
  replace hsl := hsl.1
  obtain ⟨vo, vc, rfl⟩ := hsl.form
  rw [Nat.add_zero] at hcell
  have H := hide (And.intro hsl hbq)
  clear hsl hp hvl hbq hq
  simp only [List.length_singleton]
  generalize p.length = P at *
  go_enter Tryd.func68, Tryd.ntmps68
  go_wp2_with fail
  go_ret
  exact ⟨vo, vc, rfl, (unhide H).1, Fr.refl _ _, fun g o n c e => .inl ((unhide H).2 g o n c e)⟩
set_option maxRecDepth 100000 in
set_option maxHeartbeats 1000000 in
theorem ofQ_any (N0 : Nat) (i : Int) (ps : List (List Nat)) (x : Value) (vs : List Value) (w : World) (hl8 : ps.length ≤ 8000000) (hr : GR w) (hp : Pcs w x vs ps) (hcx : Cp x) (hB : ∀ p ∈ ps, p.length ≤ 4000000) (hq : ∀ u ∈ vs, Bk u (fun g => g < N0)) : OfQ N0 i ps x w := by
  by_cases h2 : ps.length < 2
  · match ps, h2 with
    | [], _ => exact ofQ_nil N0 i x vs w hr hp
    | [p], _ => exact ofQ_one N0 i p x vs w hp hq
  · clear hq
    obtain ⟨xo, xc, rfl⟩ := hp.form
    obtain ⟨g, o, v, rfl, -⟩ := hp.cell (Fr.refl _ _) 0 (by omega)
    have hk1 := hf_lt ps.length (by omega)
    have hk2 := hf_pos ps.length
    have hle : vs.length = ps.length := hp.len
    have hcapx : ps.length ≤ xc := hcx _ _ _ rfl
    have cp1 : Cp (.slice (some ⟨g, o, none⟩) (hf ps.length) xc) := fun _ _ _ e => by cases e; omega
    have cp2 : Cp (.slice (some ⟨g, o + hf ps.length, none⟩) (ps.length - hf ps.length) (xc - hf ps.length)) := fun _ _ _ e => by cases e; omega
    have hmt := mth_two i ps (by omega)
    have hP1 := hp.take (hf ps.length) (by omega)
    have hP2 := hp.drop (hf ps.length) hk1
    have hB1 : ∀ p ∈ ps.take (hf ps.length), p.length ≤ 4000000 := fun p h => hB p (List.mem_of_mem_take h)
    have hB2 : ∀ p ∈ ps.drop (hf ps.length), p.length ≤ 4000000 := fun p h => hB p (List.mem_of_mem_drop h)
    have hl1 : (ps.take (hf ps.length)).length = hf ps.length := by rw [List.length_take]; omega
    have hl2 : (ps.drop (hf ps.length)).length = ps.length - hf ps.length := by rw [List.length_drop]
    have c1 : ∀ w', Fr (fun _ => False) w w' → OfSays i (ps.take (hf ps.length)) (.slice (some ⟨g, o, none⟩) (hf ps.length) xc) w' := fun w' hfr => of_any i _ _ _ _ w' (Nat.le_refl _) (by omega) (hr.fr0 hfr) (hP1.fr0 hfr) cp1 hB1
    have c2 : ∀ w', Fr (fun _ => False) w w' → OfSays i (ps.drop (hf ps.length)) (.slice (some ⟨g, o + hf ps.length, none⟩) (ps.length - hf ps.length) (xc - hf ps.length)) w' := fun w' hfr => of_any i _ _ _ _ w' (Nat.le_refl _) (by omega) (hr.fr0 hfr) (hP2.fr0 hfr) cp2 hB2
    have m1 := mth_lt i _ (ps.take (hf ps.length)) (Nat.le_refl _) hP1.byt
    have m2 := mth_lt i _ (ps.drop (hf ps.length)) (Nat.le_refl _) hP2.byt
    have n1 := mth_len i 4000000 (by decide) _ hB1
    have n2 := mth_len i 4000000 (by decide) _ hB2
    have hha := half_any ps.length w (by omega) (by omega)
    unfold OfSays at c1 c2
    unfold OfQ
    rw [hmt]
    generalize mth i (ps.take (hf ps.length)) = M1 at *
    generalize mth i (ps.drop (hf ps.length)) = M2 at *
    obtain ⟨R, hR⟩ : ∃ R, nd i M1 M2 = R := ⟨_, rfl⟩
    rw [hR]
    have hbR : ∀ v ∈ R, v < 256 := by rw [← hR]; exact nd_lt i _ _
    have hnode : ∀ x y w', GR w' → Src w' x M1 → Src w' y M2 → Calls Tryd.prog 91 #[.int .i64 i, x, y] w' fun e w'' => ∃ yo yc, e = .returned (.slice yo R.length yc) ∧ OB w' w'' yo yc R := fun x y w' h1 h3 h4 => by
      rw [← hR]; exact gnode_any i x y M1 M2 w' h1 h3 h4 m1 m2 n1 n2
    have HG := hide (And.intro hr (And.intro hP1 (And.intro hP2 (And.intro c1 (And.intro c2 (And.intro hnode (And.intro hbR hha)))))))
    clear hr hP1 hP2 c1 c2 hnode hbR hha m1 m2 n1 n2 hmt hR hB hB1 hB2 hp hl1 hl2 cp1 cp2 hcx
    generalize hf ps.length = K at *
    have q1 : (K : Int) ≤ (ps.length : Int) := by omega
    have q2 : (K : Int) ≤ (xc : Int) := by omega
    have q3 : ((ps.length : Int) == 0) = false := beq_false_of_ne (by omega)
    have q4 : ((ps.length : Int) == 1) = false := beq_false_of_ne (by omega)
    generalize ps.length = N at *
    go_enter Tryd.func68, Tryd.ntmps68
    go_wp2_with fail
    refine (unhide HG).2.2.2.2.2.2.2.mono ?_
    rintro e w0 ⟨rfl, rfl⟩
    go_wp2_with fail
    have T1 : True := trivial
    have q5 : ¬ xc = K := by omega
    have q6 : ¬ K = xc := by omega
    go_region_held3 (fun _ => True) (trivial) (first
      | (go_at_call 68; clear T1; refine ((unhide HG).2.2.2.1 _ ((Fr.refl _ _).drew)).mono ?_; rintro e wA ⟨yA, cA, rfl, sA, fA⟩)
      | (go_at_call 68; refine ((unhide HG).2.2.2.2.1 _ (((Fr.refl _ _).drew).trans fA (fun _ _ h => h))).mono ?_; rintro e wB ⟨yB, cB, rfl, sB, fB⟩)
      | (go_at_call 91; refine ((unhide HG).2.2.2.2.2.1 _ _ wB (((unhide HG).1.fr0 (((Fr.refl _ _).drew).trans fA (fun _ _ h => h))).fr0 fB) (sA.s.fr0 fB) sB.s).mono ?_; rintro e wC ⟨zo, zc, rfl, oC⟩))
    have hFC : Fr (fun _ => False) w0 wC := ((((Fr.refl (fun _ => False) w0).drew).trans fA (fun _ _ h => h)).trans fB (fun _ _ h => h)).trans oC.fr (fun _ _ h => h)
    have hbk : Bk (.slice zo R.length zc) (fun g => g < N0 ∨ w0.heap.size ≤ g) := fun g o n c e => by
      simp only [Value.slice.injEq] at e
      obtain ⟨rfl, _⟩ := e
      have h1 := (World.ownsRow.lt oC.own g rfl).1
      have h2 : w0.heap.size ≤ wB.heap.size := ((((Fr.refl (fun _ => False) w0).drew).trans fA (fun _ _ h => h)).trans fB (fun _ _ h => h)).size
      exact .inr (by omega)
    have HE := hide (And.intro (oC.sl (unhide HG).2.2.2.2.2.2.1) (And.intro hFC hbk))
    clear hFC hbk
    go_wp2_with fail
    go_ret
    exact ⟨zo, zc, rfl, (unhide HE).1, (unhide HE).2.1, (unhide HE).2.2⟩
end Go.Proofs.YthccbfgjekdiiaaDoor

namespace Go.Proofs.YthccbfgjekdiiaaDoor
open Go.RowKit

theorem OS.base {w wA wr : World} {xo : Option Addr} {cp : Nat} {vs : List Value} (h : OS wA wr xo cp vs) (hf : Fr (fun _ => False) w wA) : OS w wr xo cp vs := by
  refine ⟨⟨h.own.1, ?_⟩, hf.trans h.fr (fun _ _ h => h)⟩
  rcases h.own.2 with h0 | ⟨g, cap, cur, e1, e2, e3⟩
  · exact .inl h0
  · exact .inr ⟨g, cap, cur, e1, Nat.le_trans hf.size e2, e3⟩
theorem LV.base {w wA wr : World} {ao : Option Addr} {cp : Nat} {us : List Value} {ls : List (List Nat)} (h : LV wA wr ao cp us ls) (hf : Fr (fun _ => False) w wA) : LV w wr ao cp us ls := ⟨h.own.base hf, h.len, h.sl⟩
theorem LV.fr0 {w wr wq : World} {ao : Option Addr} {cp : Nat} {us : List Value} {ls : List (List Nat)} (h : LV w wr ao cp us ls) (hf : Fr (fun _ => False) wr wq) : LV w wq ao cp us ls :=
  ⟨h.own.fr0 hf, h.len, fun j u l hu hl => ⟨(h.sl j u l hu hl).1.fr0 hf, (h.sl j u l hu hl).2.imp id (fun hh g o n c e => ⟨Nat.lt_of_lt_of_le (hh g o n c e).1 hf.size, (hh g o n c e).2⟩)⟩⟩
theorem LV.lit {w w1 : World} (hF0 : Fr (fun _ => False) w w1) {yo : Option Addr} {yc : Nat} {l : List Nat} (hs : Sl w1 (.slice yo l.length yc) l) (W : World) (hW : w1.alloc (.cells #[.slice yo l.length yc] 25) = W) : LV w W (some ⟨w1.heap.size, 0, none⟩) 1 [.slice yo l.length yc] [l] := by
  have hF : Fr (fun _ => False) w1 W := by rw [← hW]; exact (Fr.refl _ _).alloc _
  refine ⟨⟨?_, hF0.trans hF (fun _ _ h => h)⟩, rfl, fun j v p hv hp => ?_⟩
  · have := World.ownsRow_lit (e := 25) (size := 1) w1 #[.slice yo l.length yc] 1 (Nat.le_refl _) (by simp only [maxLen]; omega) rfl
    rw [hW] at this
    refine ⟨this.1, ?_⟩
    rcases this.2 with h0 | ⟨g, cap, cur, e1, e2, e3⟩
    · exact .inl h0
    · exact .inr ⟨g, cap, cur, e1, Nat.le_trans hF0.size e2, e3⟩
  · match j with
    | 0 =>
      simp at hv hp
      subst hv hp
      refine ⟨hs.fr0 hF, hs.lt.imp id (fun hh g o n c e => ⟨Nat.lt_of_lt_of_le (hh g o n c e) hF.size, fun g' hg' e2 => ?_⟩)⟩
      have h1 := hh g o n c e
      simp only [Value.ownBlock, Option.some.injEq] at hg'
      omega
    | j + 1 => simp at hv
/-- One more hash, that lay there. -/
theorem LV.stepS {w wr : World} {ao : Option Addr} {cp : Nat} {us : List Value} {ls : List (List Nat)} (h : LV w wr ao cp us ls) (l : List Nat) (yo : Option Addr) (yc : Nat) (hs : Sl wr (.slice yo l.length yc) l) (hq : l = [] ∨ Bk (.slice yo l.length yc) (fun g => ∀ g', (Value.slice ao us.length cp).ownBlock = some g' → ¬ g = g')) (hn : us.length < 16000000) :
    ∃ ao' cp' w2, (Builtin.append_ #[22, 22] 22 #[.slice ao us.length cp, .slice (some ⟨wr.heap.size, 0, none⟩) 1 1]).run Tryd.prog (wr.alloc (.cells #[.slice yo l.length yc] 25)) = .ok (.slice ao' (us.length + 1) cp') w2 ∧ LV w w2 ao' cp' (us ++ [.slice yo l.length yc]) (ls ++ [l]) ∧ Fr (fun k => (Value.slice ao us.length cp).ownBlock = some k) wr w2 ∧ ∀ g', (Value.slice ao' (us.length + 1) cp').ownBlock = some g' → (Value.slice ao us.length cp).ownBlock = some g' ∨ wr.heap.size ≤ g' := by
  obtain ⟨ao', cp', w2, hr, hOS, hgrow, hat⟩ := h.own.app1 yo l.length yc hn
  have hF : Fr (fun k => (Value.slice ao us.length cp).ownBlock = some k) wr w2 := ((Fr.refl _ _).alloc _).grown hgrow (fun g hg => .inl hg)
  have hsz2 : wr.heap.size ≤ w2.heap.size := hF.size
  have hnew0 : ∀ g', (Value.slice ao' (us.length + 1) cp').ownBlock = some g' → (Value.slice ao us.length cp).ownBlock = some g' ∨ wr.heap.size < g' := fun g' hg => by
    rcases hat with h1 | h1
    · rw [h1] at hg; exact .inl hg
    · rw [h1] at hg
      simp only [Option.some.injEq] at hg
      simp at hg
      exact .inr (by omega)
  have hnew : ∀ g', (Value.slice ao' (us ++ [Value.slice yo l.length yc]).length cp').ownBlock = some g' → (Value.slice ao us.length cp).ownBlock = some g' ∨ wr.heap.size < g' := fun g' hg => hnew0 g' (by rw [List.length_append] at hg; exact hg)
  refine ⟨ao', cp', w2, hr, ⟨hOS, by rw [List.length_append, List.length_append, h.len]; rfl, fun j u p hu hp => ?_⟩, hF, fun g' hg => (hnew0 g' hg).imp id Nat.le_of_lt⟩
  by_cases hj : j < us.length
  · rw [List.getElem?_append_left hj] at hu
    rw [List.getElem?_append_left (by rw [← h.len]; exact hj)] at hp
    obtain ⟨h1, h2⟩ := h.sl j u p hu hp
    refine ⟨h1.frD hF (h2.imp id (fun hh g o n c e hg => (hh g o n c e).2 g hg rfl)), h2.imp id (fun hh g o n c e => ⟨by have := (hh g o n c e).1; omega, fun g' hg' e2 => ?_⟩)⟩
    rcases hnew g' hg' with h3 | h3
    · exact (hh g o n c e).2 g' h3 e2
    · have := (hh g o n c e).1; omega
  · have hje : j = us.length := by
      have := (List.getElem?_eq_some_iff.1 hu).1
      rw [List.length_append, List.length_singleton] at this
      omega
    subst hje
    rw [List.getElem?_append_right (Nat.le_refl _), Nat.sub_self] at hu
    rw [List.getElem?_append_right (by rw [h.len]; exact Nat.le_refl _), h.len, Nat.sub_self] at hp
    simp only [List.getElem?_cons_zero, Option.some.injEq] at hu hp
    subst hu hp
    refine ⟨hs.frD hF (hq.imp id (fun hq g o n c e hg => hq g o n c e g hg rfl)), ?_⟩
    rcases hq with hq | hq
    · exact .inl hq
    · refine hs.lt.imp id (fun hh g o n c e => ⟨Nat.lt_of_lt_of_le (hh g o n c e) hsz2, fun g' hg' e2 => ?_⟩)
      rcases hnew g' hg' with h3 | h3
      · exact hq g o n c e g' h3 e2
      · have := hh g o n c e; omega
/-- A hash of a list, while another list grew. -/
theorem LV.nthD {wA wB wr : World} {bo : Option Addr} {bc : Nat} {us : List Value} {ls : List (List Nat)} {S : Nat → Prop} (h : LV wA wB bo bc us ls) (hF : Fr S wB wr) (hS : ∀ g, S g → g < wA.heap.size) (hSe : ∀ u ∈ us, Bk u (fun g => ¬ S g)) (k : Nat) (hk : k < ls.length) :
    ∃ g yo yc, bo = some ⟨g, 0, none⟩ ∧ wr.cell? ⟨g, k, none⟩ = some (.slice yo ls[k].length yc) ∧ .slice yo ls[k].length yc ∈ us ∧ Sl wr (.slice yo ls[k].length yc) ls[k] ∧ (ls[k] = [] ∨ Bk (.slice yo ls[k].length yc) (fun g => g < wB.heap.size)) := by
  have hku : k < us.length := by rw [h.len]; exact hk
  have hsl := (h.sl k us[k] ls[k] (List.getElem?_eq_getElem hku) (List.getElem?_eq_getElem hk)).1
  obtain ⟨yo, yc, e⟩ := hsl.form
  have hlt := hsl.lt
  have hmem : us[k] ∈ us := List.getElem_mem hku
  have hsl2 := hsl.frD hF (.inr (fun g o m c e' => hSe us[k] hmem g o m c e'))
  rcases h.own.own.2 with ⟨_, e0⟩ | ⟨g, cap, cur, eo, _⟩
  · omega
  · simp only [Value.slice.injEq] at eo
    obtain ⟨rfl, -, rfl⟩ := eo
    obtain ⟨hb, hl⟩ := h.own.own.lt g rfl
    have hc := h.own.own.cellAt k (by omega)
    rw [List.getElem?_eq_getElem hku, e] at hc
    rw [e] at hmem hsl2 hlt
    exact ⟨g, yo, yc, rfl, (hF.cell (p := ⟨g, k, none⟩) hl (fun hs => by have := hS g hs; omega)).trans hc, hmem, hsl2, hlt⟩
/-- The hashes for places, as the document gathers them. -/
def mnyG (i : Int) (ps : List (List Nat)) (zs : List Int) : List (List Nat) :=
  if zs = [] then [mth i ps]
  else if _h : ps.length < 2 then []
  else mnyG i (ps.take (hf ps.length)) (pa ((hf ps.length : Nat) : Int) zs) ++ mnyG i (ps.drop (hf ps.length)) (pb ((hf ps.length : Nat) : Int) zs)
termination_by ps.length
decreasing_by
  · rw [List.length_take]; have := hf_lt ps.length (by omega); omega
  · rw [List.length_drop]; have := hf_pos ps.length; omega
theorem mnyG_nil (i : Int) (ps : List (List Nat)) : mnyG i ps [] = [mth i ps] := by rw [mnyG, if_pos rfl]
theorem mnyG_one {i : Int} {ps : List (List Nat)} {zs : List Int} (hz : zs ≠ []) (h : ps.length < 2) : mnyG i ps zs = [] := by rw [mnyG, if_neg hz, dif_pos h]
theorem mnyG_two {i : Int} {ps : List (List Nat)} {zs : List Int} (hz : zs ≠ []) (h : 2 ≤ ps.length) : mnyG i ps zs = mnyG i (ps.take (hf ps.length)) (pa ((hf ps.length : Nat) : Int) zs) ++ mnyG i (ps.drop (hf ps.length)) (pb ((hf ps.length : Nat) : Int) zs) := by
  conv => lhs; rw [mnyG, if_neg hz, dif_neg (by omega)]
theorem mnyG_lt (i : Int) (k : Nat) : ∀ (ps : List (List Nat)) (zs : List Int), ps.length ≤ k → 1 ≤ ps.length → (mnyG i ps zs).length ≤ ps.length := by
  induction k with
  | zero => intro ps zs h h1; omega
  | succ k ih =>
    intro ps zs h h1
    by_cases hz : zs = []
    · rw [hz, mnyG_nil]; simpa using h1
    · by_cases h2 : ps.length < 2
      · rw [mnyG_one hz h2]; simp
      · have h3 := hf_lt ps.length (by omega)
        have h4 := hf_pos ps.length
        have l1 : (ps.take (hf ps.length)).length = hf ps.length := by rw [List.length_take]; omega
        have l2 : (ps.drop (hf ps.length)).length = ps.length - hf ps.length := by rw [List.length_drop]
        rw [mnyG_two hz (by omega), List.length_append]
        have i1 := ih (ps.take (hf ps.length)) (pa ((hf ps.length : Nat) : Int) zs) (by omega) (by omega)
        have i2 := ih (ps.drop (hf ps.length)) (pb ((hf ps.length : Nat) : Int) zs) (by omega) (by omega)
        omega
theorem mnyG_le (i : Int) (ps : List (List Nat)) (zs : List Int) : (mnyG i ps zs).length ≤ ps.length + 1 := by
  by_cases h : 1 ≤ ps.length
  · have := mnyG_lt i _ ps zs (Nat.le_refl _) h; omega
  · by_cases hz : zs = []
    · rw [hz, mnyG_nil]; simp
    · rw [mnyG_one hz (by omega)]; simp
end Go.Proofs.YthccbfgjekdiiaaDoor

namespace Go.Proofs.YthccbfgjekdiiaaDoor
open Go.RowKit

def ManyQ (N0 : Nat) (wi : Int) (ps : List (List Nat)) (zs : List Int) (x y : Value) (w : World) : Prop :=
  Calls Tryd.prog 77 #[.int .i64 wi, x, y] w fun e w' => ∃ ao cp us, e = .returned (.slice ao us.length cp) ∧ LV w w' ao cp us (mnyG wi ps zs) ∧ ∀ u ∈ us, Bk u (fun g => g < N0 ∨ w.heap.size ≤ g)
set_option maxRecDepth 100000 in
set_option maxHeartbeats 1000000 in
theorem manyQ_nil (N0 : Nat) (wi : Int) (ps : List (List Nat)) (x y : Value) (vs : List Value) (w : World) (hl8 : ps.length ≤ 8000000) (hr : GR w) (hp : Pcs w x vs ps) (hcx : Cp x) (hB : ∀ p ∈ ps, p.length ≤ 4000000) (hq : ∀ u ∈ vs, Bk u (fun g => g < N0)) (hy : Ints w y []) : ManyQ N0 wi ps [] x y w := by
  have hof := ofQ_any N0 wi ps x vs w hl8 hr hp hcx hB hq
  unfold ManyQ
  unfold OfQ at hof
  rw [mnyG_nil]
  obtain ⟨xo, xc, rfl⟩ := hp.form
  obtain ⟨yo, yc, rfl⟩ := hy.form
  generalize mth wi ps = M at *
  have HG := hide hof
  clear hof hr hp hB hq hy hcx hl8
  generalize ps.length = N at *
  simp only [List.length_nil]
  go_enter Tryd.func77, Tryd.ntmps77
  go_wp2_with fail
  refine (unhide HG).mono ?_
  rintro e w1 ⟨zo, zc, rfl, hS, hF, hK⟩
  obtain ⟨W, hW⟩ : ∃ W, w1.alloc (.cells #[.slice zo M.length zc] 25) = W := ⟨_, rfl⟩
  have H1 := hide (And.intro (LV.lit hF hS W hW) (And.intro hK hW))
  clear hS hF hK hW
  go_wp2_with fail
  go_ret
  have hW := (unhide H1).2.2
  rw [hW]
  exact ⟨_, _, _, rfl, (unhide H1).1, fun u hu => by simp at hu; subst hu; exact (unhide H1).2.1⟩
set_option maxRecDepth 100000 in
set_option maxHeartbeats 1000000 in
theorem manyQ_one (N0 : Nat) (wi : Int) (ps : List (List Nat)) (zs : List Int) (x y : Value) (vs : List Value) (w : World) (hp : Pcs w x vs ps) (hy : Ints w y zs) (hz : zs ≠ []) (h1 : ps.length = 1) : ManyQ N0 wi ps zs x y w := by
  unfold ManyQ
  rw [mnyG_one hz (by omega)]
  obtain ⟨xo, xc, rfl⟩ := hp.form
  obtain ⟨yo, yc, rfl⟩ := hy.form
  have h0 : 0 < zs.length := List.length_pos_iff.2 hz
  have q0 : ((zs.length : Int) == 0) = false := beq_false_of_ne (by omega)
  have q1 : ¬ zs.length = 0 := by omega
  have q2 : ¬ zs = [] := hz
  clear hp hy
  rw [h1]
  clear h1
  generalize zs.length = Z at *
  go_enter Tryd.func77, Tryd.ntmps77
  go_wp2_with fail
  go_ret
  exact ⟨none, 0, [], rfl, LV.nil _, fun u hu => by cases hu⟩
set_option maxRecDepth 100000 in
set_option maxHeartbeats 4000000 in
/-- The document's ManyOf. -/
theorem manyQ_any (N0 : Nat) (wi : Int) (n : Nat) : ∀ (ps : List (List Nat)) (zs : List Int) (x y : Value) (vs : List Value) (w : World), ps.length ≤ n → ps.length ≤ 8000000 - 1 → GR w → Pcs w x vs ps → Cp x → (∀ p ∈ ps, p.length ≤ 4000000) → Ints w y zs → zs.length ≤ 8000000 → (∀ z ∈ zs, 0 ≤ z ∧ z ≤ 16000000) → (zs ≠ [] → 1 ≤ ps.length) → N0 ≤ w.heap.size → (∀ u ∈ vs, Bk u (fun g => g < N0)) → ManyQ N0 wi ps zs x y w := by
  induction n with
  | zero =>
    intro ps zs x y vs w hl hl8 hr hp hcx hB hy hzl hzb hz1 hN0 hq
    have e : zs = [] := Classical.byContradiction fun h => by have := hz1 h; omega
    subst e
    exact manyQ_nil N0 wi ps x y vs w (by omega) hr hp hcx hB hq hy
  | succ n ih =>
    intro ps zs x y vs w hl hl8 hr hp hcx hB hy hzl hzb hz1 hN0 hq
    by_cases hz : zs = []
    · subst hz
      exact manyQ_nil N0 wi ps x y vs w (by omega) hr hp hcx hB hq hy
    · have hp1 := hz1 hz
      by_cases h1 : ps.length = 1
      · exact manyQ_one N0 wi ps zs x y vs w hp hy hz h1
      · obtain ⟨xo, xc, rfl⟩ := hp.form
        obtain ⟨yo, yc, rfl⟩ := hy.form
        obtain ⟨g, o, v, rfl, -⟩ := hp.cell (Fr.refl _ _) 0 (by omega)
        have hk1 := hf_lt ps.length (by omega)
        have hk2 := hf_pos ps.length
        have hle : vs.length = ps.length := hp.len
        have hcapx : ps.length ≤ xc := hcx _ _ _ rfl
        have cp1 : Cp (.slice (some ⟨g, o, none⟩) (hf ps.length) xc) := fun _ _ _ e => by cases e; omega
        have cp2 : Cp (.slice (some ⟨g, o + hf ps.length, none⟩) (ps.length - hf ps.length) (xc - hf ps.length)) := fun _ _ _ e => by cases e; omega
        have hP1 := hp.take (hf ps.length) (by omega)
        have hP2 := hp.drop (hf ps.length) hk1
        have hB1 : ∀ p ∈ ps.take (hf ps.length), p.length ≤ 4000000 := fun p h => hB p (List.mem_of_mem_take h)
        have hB2 : ∀ p ∈ ps.drop (hf ps.length), p.length ≤ 4000000 := fun p h => hB p (List.mem_of_mem_drop h)
        have hl1 : (ps.take (hf ps.length)).length = hf ps.length := by rw [List.length_take]; omega
        have hl2 : (ps.drop (hf ps.length)).length = ps.length - hf ps.length := by rw [List.length_drop]
        have hla := pa_le ((hf ps.length : Nat) : Int) zs
        have hlb := pb_le ((hf ps.length : Nat) : Int) zs
        have hza : ∀ z ∈ pa ((hf ps.length : Nat) : Int) zs, 0 ≤ z ∧ z ≤ 16000000 := fun z h => hzb z (List.mem_filter.1 h).1
        have hzc : ∀ z ∈ pb ((hf ps.length : Nat) : Int) zs, 0 ≤ z ∧ z ≤ 16000000 := fun z h => by
          obtain ⟨z', h', rfl⟩ := List.mem_map.1 h
          have h2 := hzb z' (List.mem_filter.1 h').1
          have h3 := (List.mem_filter.1 h').2
          simp at h3
          omega
        have hha := half_any ps.length w (by omega) (by omega)
        have hpt := parted_any _ zs ((hf ps.length : Nat) : Int) w hy (by omega) (by omega) (fun z hz => by have := hzb z hz; omega)
        have c1 : ∀ w' a, Fr (fun _ => False) w w' → Ints w' a (pa ((hf ps.length : Nat) : Int) zs) → ManyQ N0 wi (ps.take (hf ps.length)) (pa ((hf ps.length : Nat) : Int) zs) (.slice (some ⟨g, o, none⟩) (hf ps.length) xc) a w' := fun w' a hfr ha => ih _ _ _ _ _ w' (by omega) (by omega) (hr.fr0 hfr) (hP1.fr0 hfr) cp1 hB1 ha (by omega) hza (fun _ => by omega) (Nat.le_trans hN0 hfr.size) (fun u hu => hq u (List.mem_of_mem_take hu))
        have c2 : ∀ w' b, Fr (fun _ => False) w w' → Ints w' b (pb ((hf ps.length : Nat) : Int) zs) → ManyQ N0 wi (ps.drop (hf ps.length)) (pb ((hf ps.length : Nat) : Int) zs) (.slice (some ⟨g, o + hf ps.length, none⟩) (ps.length - hf ps.length) (xc - hf ps.length)) b w' := fun w' b hfr hb => ih _ _ _ _ _ w' (by omega) (by omega) (hr.fr0 hfr) (hP2.fr0 hfr) cp2 hB2 hb (by omega) hzc (fun _ => by omega) (Nat.le_trans hN0 hfr.size) (fun u hu => hq u (List.mem_of_mem_drop hu))
        have m1 := mnyG_le wi (ps.take (hf ps.length)) (pa ((hf ps.length : Nat) : Int) zs)
        have m2 := mnyG_le wi (ps.drop (hf ps.length)) (pb ((hf ps.length : Nat) : Int) zs)
        have fa : ∀ w' a, Ints w' a (pa ((hf ps.length : Nat) : Int) zs) → ∃ ao ac, a = .slice ao (pa ((hf ps.length : Nat) : Int) zs).length ac := fun w' a h => h.form
        have fb : ∀ w' a, Ints w' a (pb ((hf ps.length : Nat) : Int) zs) → ∃ ao ac, a = .slice ao (pb ((hf ps.length : Nat) : Int) zs).length ac := fun w' a h => h.form
        unfold ManyQ at c1 c2 ⊢
        rw [mnyG_two hz (by omega)]
        generalize mnyG wi (ps.take (hf ps.length)) (pa ((hf ps.length : Nat) : Int) zs) = A1 at *
        generalize mnyG wi (ps.drop (hf ps.length)) (pb ((hf ps.length : Nat) : Int) zs) = A2 at *
        have m3 : A1.length ≤ 8000000 ∧ A2.length ≤ 8000000 := by omega
        have h0 : 0 < zs.length := List.length_pos_iff.2 hz
        have q0 : ((zs.length : Int) == 0) = false := beq_false_of_ne (by omega)
        have q1 : ¬ zs.length = 0 := by omega
        have q2 : ¬ zs = [] := hz
        have HG := hide (And.intro hha (And.intro hpt (And.intro c1 (And.intro c2 (And.intro m3 (And.intro hN0 (And.intro fa fb)))))))
        clear hr hP1 hP2 c1 c2 hha hpt hB hB1 hB2 hp hl1 hl2 ih cp1 cp2 hcx m1 m2 m3 hla hlb hza hzc hzb hz1 hq hy hle fa fb
        generalize (pa ((hf ps.length : Nat) : Int) zs).length = LA at *
        generalize (pb ((hf ps.length : Nat) : Int) zs).length = LB at *
        generalize hK : hf ps.length = K at *
        have q3 : (K : Int) ≤ (ps.length : Int) := by omega
        have q4 : (K : Int) ≤ (xc : Int) := by omega
        have q5 : ¬ xc = K := by omega
        have q6 : ¬ K = xc := by omega
        have q7 : ((ps.length : Int) == 1) = false := beq_false_of_ne (by omega)
        have q8 : ¬ ps.length = 1 := by omega
        clear hK
        generalize ps.length = N at *
        generalize zs.length = Z at *
        go_enter Tryd.func77, Tryd.ntmps77
        go_wp2_with fail
        refine (unhide HG).1.mono ?_
        rintro e w0 ⟨rfl, rfl⟩
        go_wp2_with fail
        refine (unhide HG).2.1.mono ?_
        rintro e w1 ⟨a, b, rfl, hIa, hIb, hF⟩
        obtain ⟨a0, ac, rfl⟩ := (unhide HG).2.2.2.2.2.2.1 _ _ hIa
        obtain ⟨b0, bc, rfl⟩ := (unhide HG).2.2.2.2.2.2.2 _ _ hIb
        have H1 := hide (And.intro hIa (And.intro hIb hF))
        clear hIa hIb hF
        go_wp2_with fail
        refine ((unhide HG).2.2.1 w1 _ (unhide H1).2.2 (unhide H1).1).mono ?_
        rintro e w2 ⟨ao, cp, us, rfl, hV, hQ⟩
        have H2 := hide (And.intro (hV.base (unhide H1).2.2) (And.intro hV.own.fr (And.intro hQ hV.len)))
        clear hV hQ
        go_wp2_with fail
        refine ((unhide HG).2.2.2.1 w2 _ ((unhide H1).2.2.trans (unhide H2).2.1 (fun _ _ h => h)) ((unhide H1).2.1.fr0 (unhide H2).2.1)).mono ?_
        rintro e w3 ⟨bo, bcp, ts, rfl, hV, hQ⟩
        have htl : ts.length = A2.length := hV.len
        rw [htl]
        have H3 := hide (And.intro hV (And.intro hQ htl))
        clear hV hQ htl
        go_wp2_with fail
        go_loopw [10, 12] (fun ov iv wr => ∃ (k : Nat) (ro : Option Addr) (rc : Nat) (rs : List Value), k ≤ A2.length ∧ iv = .int .i64 (k : Nat) ∧ ov = .slice ro rs.length rc ∧ LV w0 wr ro rc rs (A1 ++ A2.take k) ∧ Fr (fun j => (Value.slice ao us.length cp).ownBlock = some j) w3 wr ∧ (∀ g', (Value.slice ro rs.length rc).ownBlock = some g' → (Value.slice ao us.length cp).ownBlock = some g' ∨ w3.heap.size ≤ g') ∧ ∀ u ∈ rs, Bk u (fun g => g < N0 ∨ w0.heap.size ≤ g)) (fun _ iv _ => A2.length - (intOf iv).toNat)
        case atStart => exact ⟨0, ao, cp, us, Nat.zero_le _, rfl, rfl, by simpa using (unhide H2).1.fr0 (unhide H3).1.own.fr, Fr.refl _ _, fun g h => .inl h, fun u hu g o n c e => ((unhide H2).2.2.1 u hu g o n c e).imp id (fun h => Nat.le_trans (unhide H1).2.2.size h)⟩
        case round =>
          obtain ⟨k, ro, rc, rs, hk, rfl, rfl, hV, hF, hO, hQ⟩ := hrel
          have hm := (unhide HG).2.2.2.2.1
          have hrl : rs.length = A1.length + k := by rw [hV.len, List.length_append, List.length_take]; omega
          by_cases hlt : k < A2.length
          · have hlt' : (k : Int) < (A2.length : Int) := by omega
            have hown : ∀ g', (Value.slice ao us.length cp).ownBlock = some g' → w0.heap.size ≤ g' ∧ g' < w2.heap.size := fun g' hg => (unhide H2).1.own.own.lt g' hg
            have hN0 := (unhide HG).2.2.2.2.2.1
            have h02 : w0.heap.size ≤ w2.heap.size := (unhide H2).1.own.fr.size
            obtain ⟨g2, yo2, yc2, rfl, hcell, hmem, hsl, hl3⟩ := (unhide H3).1.nthD hF (fun g hg => (hown g hg).2) (fun u hu g o n c e hS => by
              have h1 := hown g hS
              rcases (unhide H3).2.1 u hu g o n c e with h2 | h2 <;> omega) k hlt
            have hbk := (unhide H3).2.1 _ hmem
            have hqq : A2[k] = [] ∨ Bk (.slice yo2 A2[k].length yc2) (fun g => ∀ g', (Value.slice ro rs.length rc).ownBlock = some g' → ¬ g = g') := hl3.imp id (fun h g o n c e g' hg' eg => by
              rcases hO g' hg' with h1 | h1
              · have h3 := hown g' h1
                rcases hbk g o n c e with h2 | h2 <;> omega
              · have := h g o n c e; omega)
            obtain ⟨ro', rc', w5, hr, hV5, hF5, hO5⟩ := hV.stepS A2[k] yo2 yc2 hsl hqq (by omega)
            have e1 : A1 ++ A2.take k ++ [A2[k]] = A1 ++ A2.take (k + 1) := by
              rw [List.append_assoc, List.take_add_one, List.getElem?_eq_getElem hlt]; rfl
            rw [e1] at hV5
            have h3r : w3.heap.size ≤ wr.heap.size := hF.size
            have hF6 : Fr (fun j => (Value.slice ao us.length cp).ownBlock = some j) w3 w5 := hF.trans hF5 (fun j hj hT => (hO j hT).resolve_right (by omega))
            have hO6 : ∀ g', (Value.slice ro' (rs ++ [Value.slice yo2 A2[k].length yc2]).length rc').ownBlock = some g' → (Value.slice ao us.length cp).ownBlock = some g' ∨ w3.heap.size ≤ g' := fun g' hg' => by
              rw [List.length_append] at hg'
              rcases hO5 g' hg' with h | h
              · exact hO g' h
              · exact .inr (by omega)
            have hQ6 : ∀ u ∈ rs ++ [Value.slice yo2 A2[k].length yc2], Bk u (fun g => g < N0 ∨ w0.heap.size ≤ g) := fun u hu => by
              rcases List.mem_append.1 hu with hu | hu
              · exact hQ u hu
              · simp at hu
                subst hu
                exact fun g o n c e => (hbk g o n c e).imp id (fun h => by omega)
            have hcell2 : wr.cell? ⟨g2, 0 + k, none⟩ = some (.slice yo2 A2[k].length yc2) := by rw [Nat.zero_add]; exact hcell
            have HR := hide hr
            have HV := hide (And.intro hV5 (And.intro hF6 (And.intro hO6 hQ6)))
            clear hr hV5 hF5 hO5 hF6 hO6 hQ6 hV hF hO hQ hqq hbk hl3 hsl hmem e1 hown
            have w1' : IntKind.i64.wrap ((k : Int) + 1) = (k : Int) + 1 := by rw [IntKind.wrap_i64]; omega
            generalize A2[k].length = EL at *
            generalize A2.length = NB at *
            go_wp2_with (at_builtin; refine wpList_app rfl (.tmp 50) (.tmp 55) 22 22 rfl _ _ _ rfl rfl (unhide HR) ?_)
            exact ⟨⟨k + 1, ro', rc', _, by omega, by go_num, by first | (rw [List.length_append]; rfl) | (rw [List.length_append, hrl]; rfl), (unhide HV).1, (unhide HV).2.1, (unhide HV).2.2.1, (unhide HV).2.2.2⟩, by simp [intOf]; omega⟩
          · have hkN : k = A2.length := by omega
            have hlt' : ¬ (k : Int) < (A2.length : Int) := by omega
            rw [List.take_of_length_le (by omega)] at hV
            have HV := hide (And.intro hV hQ)
            clear hV hQ hkN hO hF hrl
            generalize A2.length = NB at *
            go_wp2_with fail
            go_ret
            exact ⟨ro, rc, rs, rfl, (unhide HV).1, (unhide HV).2⟩
end Go.Proofs.YthccbfgjekdiiaaDoor

namespace Go.Proofs.YthccbfgjekdiiaaDoor
open Go.RowKit

theorem filt (t : Int) : ∀ zs : List Int, zs.Pairwise (· < ·) → zs.filter (fun z => decide (z < t)) = zs.take (zs.countP (· < t)) ∧ zs.filter (fun z => !decide (z < t)) = zs.drop (zs.countP (· < t)) := by
  intro zs
  induction zs with
  | nil => intro _; simp
  | cons a r ih =>
    intro h
    rw [List.pairwise_cons] at h
    obtain ⟨h1, h2⟩ := h
    obtain ⟨i1, i2⟩ := ih h2
    by_cases ha : a < t
    · rw [List.countP_cons_of_pos (by simpa using ha), List.filter_cons_of_pos (by simpa using ha), List.filter_cons_of_neg (by simpa using ha), List.take_succ_cons, List.drop_succ_cons, i1, i2]
      exact ⟨rfl, rfl⟩
    · have hr : ∀ z ∈ r, ¬ z < t := fun z hz => by have := h1 z hz; omega
      have hc : r.countP (· < t) = 0 := List.countP_eq_zero.2 (fun z hz => by simpa using hr z hz)
      rw [hc] at i1 i2
      rw [List.countP_cons_of_neg (by simpa using ha), List.filter_cons_of_neg (by simpa using ha), List.filter_cons_of_pos (by simpa using ha), hc, i1, i2]
      exact ⟨rfl, rfl⟩
theorem pa_map (f : Int) (k : Int) (zs : List Int) : pa k (zs.map (· - f)) = (zs.filter (fun z => decide (z < f + k))).map (· - f) := by
  rw [pa, List.filter_map]
  congr 1
  apply List.filter_congr
  intro z _
  simp only [Function.comp]
  congr 1
  exact propext ⟨fun h => by omega, fun h => by omega⟩
theorem pb_map (f : Int) (k : Int) (zs : List Int) : pb k (zs.map (· - f)) = (zs.filter (fun z => !decide (z < f + k))).map (· - (f + k)) := by
  rw [pb, List.filter_map, List.map_map]
  have e : (zs.filter ((fun z => !decide (z < k)) ∘ fun x => x - f)) = zs.filter (fun z => !decide (z < f + k)) := by
    apply List.filter_congr
    intro z _
    simp only [Function.comp]
    congr 2
    exact propext ⟨fun h => by omega, fun h => by omega⟩
  rw [e]
  apply List.map_congr_left
  intro z _
  simp only [Function.comp]
  omega
theorem mnyG_eq (wi : Nat) (L : List (List Nat)) (m : Nat) : ∀ (f n : Nat) (zs : List Int), n ≤ m → f + n ≤ L.length → zs.Pairwise (· < ·) → mnyG wi (blk L f n) (zs.map (· - (f : Int))) = mny wi L f n zs := by
  induction m with
  | zero =>
    intro f n zs h hL hs
    by_cases hz : zs = []
    · subst hz; rw [mny_nil]; exact mnyG_nil _ _
    · rw [mny_one hz (by omega), mnyG_one (by simpa using hz) (by rw [blk_len L f n hL]; omega)]
  | succ m ih =>
    intro f n zs h hL hs
    by_cases hz : zs = []
    · subst hz; rw [mny_nil]; exact mnyG_nil _ _
    · have hlen := blk_len L f n hL
      by_cases h2 : n < 2
      · rw [mny_one hz h2, mnyG_one (by simpa using hz) (by rw [hlen]; omega)]
      · have h3 := hf_lt n (by omega)
        have h4 := hf_pos n
        rw [mny_two hz (by omega), mnyG_two (by simpa using hz) (by omega), hlen, blk_take _ _ _ _ (by omega), blk_drop, pa_map, pb_map]
        have e : (f : Int) + ((hf n : Nat) : Int) = ((f + hf n : Nat) : Int) := by omega
        rw [e]
        obtain ⟨e1, e2⟩ := filt ((f + hf n : Nat) : Int) zs hs
        rw [e1, e2, ih f (hf n) _ (by omega) (by omega) (hs.sublist (List.take_sublist _ _)), ih (f + hf n) (n - hf n) _ (by omega) (by omega) (hs.sublist (List.drop_sublist _ _))]
theorem mnyG_top (wi : Nat) (L : List (List Nat)) (zs : List Int) (hs : zs.Pairwise (· < ·)) : mnyG wi L zs = mny wi L 0 L.length zs := by
  have := mnyG_eq wi L L.length 0 L.length zs (Nat.le_refl _) (by omega) hs
  rw [blk_all] at this
  rw [← this]
  congr 1
  simp
theorem mny_wid (wi : Nat) (hw1 : 1 ≤ wi) (hw32 : wi ≤ 32) (L : List (List Nat)) (hL : ∀ p ∈ L, p.length = wi) (m : Nat) : ∀ f n zs, n ≤ m → ∀ p ∈ mny wi L f n zs, p.length = wi := by
  induction m with
  | zero =>
    intro f n zs h p hp
    by_cases hz : zs = []
    · rw [hz, mny_nil] at hp; simp at hp; subst hp; exact mth_wid wi hw1 hw32 _ (fun p hp => hL p (blk_mem _ _ _ p hp))
    · rw [mny_one hz (by omega)] at hp; cases hp
  | succ m ih =>
    intro f n zs h p hp
    by_cases hz : zs = []
    · rw [hz, mny_nil] at hp; simp at hp; subst hp; exact mth_wid wi hw1 hw32 _ (fun p hp => hL p (blk_mem _ _ _ p hp))
    · by_cases h2 : n < 2
      · rw [mny_one hz h2] at hp; cases hp
      · have h3 := hf_lt n (by omega)
        have h4 := hf_pos n
        rw [mny_two hz (by omega)] at hp
        rcases List.mem_append.1 hp with hp | hp
        · exact ih _ _ _ (by omega) p hp
        · exact ih _ _ _ (by omega) p hp
set_option maxRecDepth 100000 in
set_option maxHeartbeats 1000000 in
theorem gmany_in (wi : Nat) (hw1 : 1 ≤ wi) (hw32 : wi ≤ 32) (x y : Value) (vs : List Value) (es : List (List Nat)) (zs : List Int) (w : World) (hr : GR w) (hp : Pcs w x vs es) (hB : ∀ e ∈ es, e.length ≤ 4000000) (hn : es.length ≤ 4000000) (hy : Ints w y zs) (hzl : zs.length ≤ 4000000) (hri : rsF es.length 0 zs = true) :
    Calls Tryd.prog 47 #[.int .i64 wi, x, y] w fun e w' => ∃ yo yc us, e = .returned (.tuple #[.slice yo (mny wi (es.map (lf wi)) 0 es.length zs).length yc, .int .i64 0]) ∧ Pcs w' (.slice yo (mny wi (es.map (lf wi)) 0 es.length zs).length yc) us (mny wi (es.map (lf wi)) 0 es.length zs) ∧ Fr (fun _ => False) w w' := by
  have hlv := gleaves_C wi x vs es w hr hp hB (by omega)
  have hll : (es.map (lf (wi : Int))).length = es.length := List.length_map _
  obtain ⟨s1, s2⟩ := rsF_ok es.length zs 0 hri
  have hgr := grising_any y zs es.length w hy (by omega) (fun z hz => by have := s2 z hz; omega)
  rw [hri] at hgr
  have hin : ∀ w' (x : Value) us, GR w' → Pcs w' x us (es.map (lf wi)) → Cp x → Ints w' y zs → Calls Tryd.prog 77 #[.int .i64 wi, x, y] w' fun e w'' => ∃ yo yc us, e = .returned (.slice yo (mny wi (es.map (lf wi)) 0 es.length zs).length yc) ∧ Pcs w'' (.slice yo (mny wi (es.map (lf wi)) 0 es.length zs).length yc) us (mny wi (es.map (lf wi)) 0 es.length zs) ∧ Fr (fun _ => False) w' w'' := fun w' x us h1 h2 h3 h4 => by
    have hq : ∀ u ∈ us, Bk u (fun g => g < w'.heap.size) := fun u hu => by
      obtain ⟨j, hj, rfl⟩ := List.getElem_of_mem hu
      have hj2 : j < (es.map (lf (wi : Int))).length := by rw [← h2.len]; exact hj
      rcases (h2.src j us[j] _ (List.getElem?_eq_getElem hj) (List.getElem?_eq_getElem hj2)).2.2 with h | h
      · have := map_lf_len wi hw1 hw32 es _ (List.getElem_mem hj2)
        rw [h] at this
        simp at this
        omega
      · exact h
    have := manyQ_any w'.heap.size wi _ (es.map (lf wi)) zs x y us w' (Nat.le_refl _) (by omega) h1 h2 h3 (fun p hp => by have := map_lf_len wi hw1 hw32 es p hp; omega) h4 (by omega) (fun z hz => by have := s2 z hz; omega) (fun hz => by
      rcases zs with _ | ⟨a, r⟩
      · exact absurd rfl hz
      · have := s2 a (by simp); omega) (Nat.le_refl _) hq
    unfold ManyQ at this
    rw [mnyG_top wi _ zs s1, hll] at this
    refine this.mono ?_
    rintro e w'' ⟨ao, cp, us, rfl, hV, _⟩
    have hpc := hV.pcs
    rw [hV.len] at hpc ⊢
    exact ⟨ao, cp, us, rfl, hpc, hV.own.fr⟩
  generalize mny wi (es.map (lf wi)) 0 es.length zs = V at *
  obtain ⟨xo, xc, rfl⟩ := hp.form
  obtain ⟨yo, yc, rfl⟩ := hy.form
  have hri2 := hide hy
  have hlv2 := fun w' (hf : Fr (fun _ => False) w w') => gleaves_C wi _ vs es w' (hr.fr0 hf) (hp.fr0 hf) hB (by omega)
  have HC := hide (And.intro hlv2 (And.intro hin (And.intro hr hgr)))
  have hj : 1 ≤ (wi : Int) ∧ (wi : Int) ≤ 32 := by omega
  have HJ := hide hj
  clear hlv hlv2 hin hr hp hB hn hj hgr hy hzl hri s1 s2
  generalize es.length = N at *
  generalize hZ : zs.length = Z at *
  go_enter Tryd.func47, Tryd.ntmps47
  go_wp2_with fail
  refine (may_yes wi _ (unhide HJ).1 (unhide HJ).2).mono ?_
  rintro e w0 ⟨rfl, rfl⟩
  go_wp2_with fail
  refine (unhide HC).2.2.2.mono ?_
  rintro e w1 ⟨rfl, hF⟩
  have H0 := hide hF
  clear hF
  go_wp2_with fail
  refine ((unhide HC).1 w1 (unhide H0)).mono ?_
  rintro e w2 ⟨ao, cp, us, rfl, hP, hF, hC⟩
  have H1 := hide (And.intro hP (And.intro ((unhide H0).trans hF (fun _ _ h => h)) hC))
  clear hP hF hC
  go_wp2_with fail
  refine ((unhide HC).2.1 w2 _ us ((unhide HC).2.2.1.fr0 (unhide H1).2.1) (unhide H1).1 (unhide H1).2.2 ((unhide hri2).fr0 (unhide H1).2.1)).mono ?_
  rintro e w3 ⟨yo, yc, us2, rfl, hP, hF⟩
  have H2 := hide (And.intro hP ((unhide H1).2.1.trans hF (fun _ _ h => h)))
  clear hP hF
  go_wp2_with fail
  go_returns
  first | exact ⟨yo, yc, us2, rfl, (unhide H2).1, (unhide H2).2⟩ | exact ⟨yo, yc, rfl, ⟨us2, (unhide H2).1⟩, (unhide H2).2⟩
set_option maxRecDepth 100000 in
set_option maxHeartbeats 1000000 in
theorem gmany_no (j : Int) (x y : Value) (vs : List Value) (es : List (List Nat)) (zs : List Int) (w : World) (hp : Pcs w x vs es) (hy : Ints w y zs) (hl : zs.length ≤ 4000000) (hb : ∀ z ∈ zs, -9223372036854775808 ≤ z) (h : (j < 1 ∨ 32 < j) ∨ rsF es.length 0 zs = false) :
    Calls Tryd.prog 47 #[.int .i64 j, x, y] w fun e w' => e = .returned (.tuple #[.slice none 0 0, .int .i64 1]) ∧ Fr (fun _ => False) w w' := by
  have hgr := grising_any y zs es.length w hy (by omega) hb
  obtain ⟨xo, xc, rfl⟩ := hp.form
  obtain ⟨yo, yc, rfl⟩ := hy.form
  clear hp hy hl hb
  by_cases hj : j < 1 ∨ 32 < j
  · clear h hgr
    generalize es.length = N at *
    generalize zs.length = Z at *
    go_enter Tryd.func47, Tryd.ntmps47
    go_wp2_with fail
    refine (may_no j _ hj).mono ?_
    rintro e w0 ⟨rfl, rfl⟩
    go_wp2_with fail
    go_returns
    exact ⟨rfl, Fr.refl _ _⟩
  · have HJ := hide (show 1 ≤ j ∧ j ≤ 32 by omega)
    rw [h.resolve_left hj] at hgr
    have HG := hide hgr
    clear h hj hgr
    generalize es.length = N at *
    generalize zs.length = Z at *
    go_enter Tryd.func47, Tryd.ntmps47
    go_wp2_with fail
    refine (may_yes j _ (unhide HJ).1 (unhide HJ).2).mono ?_
    rintro e w0 ⟨rfl, rfl⟩
    go_wp2_with fail
    refine (unhide HG).mono ?_
    rintro e w1 ⟨rfl, hF⟩
    have H0 := hide hF
    clear hF
    go_wp2_with fail
    go_returns
    exact ⟨rfl, unhide H0⟩
/-- What Many tells, whatever it is asked. -/
def okM (j : Int) (es : List (List Nat)) (zs : List Int) : Prop := 1 ≤ j ∧ j ≤ 32 ∧ rsF es.length 0 zs = true
instance (j : Int) (es : List (List Nat)) (zs : List Int) : Decidable (okM j es zs) := inferInstanceAs (Decidable (_ ∧ _))
def plM (j : Int) (es : List (List Nat)) (zs : List Int) : List (List Nat) := if okM j es zs then mny j.toNat (es.map (lf j)) 0 es.length zs else []
def pcM (j : Int) (es : List (List Nat)) (zs : List Int) : Int := if okM j es zs then 0 else 1
theorem plM_ok (j : Int) (es : List (List Nat)) (zs : List Int) : (∀ p ∈ plM j es zs, p.length ≤ 1000) ∧ (plM j es zs).length ≤ es.length + 1 := by
  rw [plM]
  split
  · rename_i h
    obtain ⟨h1, h2, h3⟩ := h
    obtain ⟨wi, rfl⟩ : ∃ k : Nat, j = (k : Int) := ⟨j.toNat, by omega⟩
    refine ⟨fun p hp => ?_, mny_le _ _ _ _ _⟩
    have := mny_wid wi (by omega) (by omega) _ (map_lf_len wi (by omega) (by omega) es) _ _ _ _ (Nat.le_refl _) p hp
    omega
  · exact ⟨fun p hp => (by cases hp), Nat.zero_le _⟩
theorem gmanyU (j : Int) (x y : Value) (vs : List Value) (es : List (List Nat)) (zs : List Int) (w : World) (hr : GR w) (hp : Pcs w x vs es) (hB : ∀ e ∈ es, e.length ≤ 4000000) (hn : es.length ≤ 4000000) (hy : Ints w y zs) (hl : zs.length ≤ 4000000) (hb : ∀ z ∈ zs, -9223372036854775808 ≤ z) :
    Calls Tryd.prog 47 #[.int .i64 j, x, y] w fun e w' => ∃ yo yc us, e = .returned (.tuple #[.slice yo (plM j es zs).length yc, .int .i64 (pcM j es zs)]) ∧ Pcs w' (.slice yo (plM j es zs).length yc) us (plM j es zs) ∧ Fr (fun _ => False) w w' := by
  by_cases h : okM j es zs
  · rw [pcM, plM, if_pos h, if_pos h]
    obtain ⟨h1, h2, h3⟩ := h
    obtain ⟨wi, rfl⟩ : ∃ k : Nat, j = (k : Int) := ⟨j.toNat, by omega⟩
    exact gmany_in wi (by omega) (by omega) x y vs es zs w hr hp hB hn hy hl h3
  · rw [pcM, plM, if_neg h, if_neg h]
    refine (gmany_no j x y vs es zs w hp hy hl hb (by
      unfold okM at h
      by_cases hj : j < 1 ∨ 32 < j
      · exact .inl hj
      · right
        cases hc : rsF es.length 0 zs
        · rfl
        · exact absurd ⟨by omega, by omega, hc⟩ h)).mono ?_
    rintro e w' ⟨rfl, hF⟩
    exact ⟨none, 0, [], rfl, pcs_nil _, hF⟩
theorem mmanyU (j : Int) (x y : Value) (vs : List Value) (es : List (List Nat)) (zs : List Int) (w : World) (hg : GS w) (ht : GT w) (hp : Pcs w x vs es) (hB : ∀ e ∈ es, e.length ≤ 16000000) (hn : es.length ≤ 8000000) (hy : Ints w y zs) (hl : zs.length ≤ 4000000) (hb : ∀ z ∈ zs, -9223372036854775808 ≤ z) :
    Calls Tryd.prog 13 #[.int .i64 j, x, y] w fun e w' => ∃ ao cp us, e = .returned (.tuple #[.slice ao us.length cp, .int .i64 (pcM j es zs)]) ∧ OL w w' ao cp us (plM j es zs) := by
  by_cases h : okM j es zs
  · rw [pcM, plM, if_pos h, if_pos h]
    obtain ⟨h1, h2, h3⟩ := h
    obtain ⟨wi, rfl⟩ : ∃ k : Nat, j = (k : Int) := ⟨j.toNat, by omega⟩
    exact mmany_in wi (by omega) (by omega) x y vs es zs w hg ht hp hB hn hy (by omega) h3
  · rw [pcM, plM, if_neg h, if_neg h]
    refine (mmany_no j x y vs es zs w hg hp hB hn hy (by omega) hb (by
      unfold okM at h
      by_cases hj : j < 1 ∨ 32 < j
      · exact .inl hj
      · right
        cases hc : rsF es.length 0 zs
        · rfl
        · exact absurd ⟨by omega, by omega, hc⟩ h)).mono ?_
    rintro e w' ⟨rfl, hF⟩
    exact ⟨none, 0, [], rfl, (OL.nil w).fr0 hF⟩
end Go.Proofs.YthccbfgjekdiiaaDoor

namespace Go.Proofs.YthccbfgjekdiiaaDoor
open Go.RowKit

theorem OB.fr0 {w wr wq : World} {xo : Option Addr} {cp : Nat} {l : List Nat} (h : OB w wr xo cp l) (hf : Fr (fun _ => False) wr wq) : OB w wq xo cp l := ⟨h.ow.fr0 hf, h.fr.trans hf (fun _ _ h => h)⟩
/-- One hash ahead of hashes that were made behind it. -/
theorem OL.front {w w1 w2 W : World} {yo bo : Option Addr} {yc bc wi : Nat} {us : List Value} {qs : List (List Nat)} {l : List Nat} (hO : OB w w1 yo yc l) (k : OL w1 w2 bo bc us qs) (hb : ∀ v ∈ l, v < 256) (hl : l.length = wi) (hW : w2.alloc (.cells #[.slice yo wi yc] 25) = W) (hn : us.length < 16000000) :
    ∃ ao' cp' w3, (Builtin.append_ #[22, 22] 22 #[.slice (some ⟨w2.heap.size, 0, none⟩) 1 1, .slice bo us.length bc]).run Tryd.prog W = .ok (.slice ao' (1 + us.length) cp') w3 ∧ OL w w3 ao' cp' ([.slice yo wi yc] ++ us) ([l] ++ qs) := by
  have hF : Fr (fun _ => False) w2 W := by rw [← hW]; exact (Fr.refl _ _).alloc _
  have hA := ol_lit1 (hO.fr0 k.own.fr) hb wi hl W hW
  have hB := (k.fr0 hF).base hO.fr
  refine hA.add _ us qs hB.ss hB.len hB.row hB.apart (fun v hv u hu g hg hg' => ?_) hB.byt (by simp; omega)
  simp at hv
  subst hv
  have h2 := (k.inner_lt u hu g hg').1
  have h3 := (World.ownsRow.lt hO.own g (by rw [hl]; exact hg)).2
  omega
/-- The roots of the whole trees. -/
def pks (wi : Nat) (L : List (List Nat)) (f n : Nat) : List (List Nat) :=
  if _h : oc n = 1 ∨ n < 2 then [mth wi (blk L f n)]
  else mth wi (blk L f (hf n)) :: pks wi L (f + hf n) (n - hf n)
termination_by n
decreasing_by
  have := hf_pos n; omega
theorem pks_one {wi : Nat} {L : List (List Nat)} {f n : Nat} (h : oc n = 1) : pks wi L f n = [mth wi (blk L f n)] := by rw [pks, dif_pos (.inl h)]
theorem pks_two {wi : Nat} {L : List (List Nat)} {f n : Nat} (h : ¬ oc n = 1) (h2 : 2 ≤ n) : pks wi L f n = mth wi (blk L f (hf n)) :: pks wi L (f + hf n) (n - hf n) := by
  conv => lhs; rw [pks, dif_neg (by omega)]
theorem pks_le (wi : Nat) (L : List (List Nat)) (k : Nat) : ∀ f n, n ≤ k → (pks wi L f n).length ≤ n + 1 := by
  induction k with
  | zero => intro f n h; rw [pks, dif_pos (by omega)]; simp
  | succ k ih =>
    intro f n h
    by_cases h1 : oc n = 1 ∨ n < 2
    · rw [pks, dif_pos h1]; simp
    · have h3 := hf_lt n (by omega)
      have h4 := hf_pos n
      rw [pks_two (by omega) (by omega)]
      have := ih (f + hf n) (n - hf n) (by omega)
      simp; omega
def PeaksSays (tb wi : Nat) (L : List (List Nat)) (f n : Nat) (w : World) : Prop :=
  Calls Tryd.prog 73 #[pv (.pointer (some ⟨tb, 0, none⟩)) f n] w fun e w' => ∃ ao cp vs, e = .returned (.slice ao vs.length cp) ∧ OL w w' ao cp vs (pks wi L f n)
set_option maxRecDepth 100000 in
set_option maxHeartbeats 2000000 in
theorem peaks_any (tb wi : Nat) (hw1 : 1 ≤ wi) (hw32 : wi ≤ 32) (L : List (List Nat)) (k : Nat) : ∀ (f n : Nat) (w : World), n ≤ k → 1 ≤ n → Tk w tb wi L → Al f n → f + n ≤ L.length → PeaksSays tb wi L f n w := by
  induction k with
  | zero => intro f n w h h1; omega
  | succ k ih =>
    intro f n w hk h1 hT hA hL
    have hle := hT.len
    have hwh := fun w' => whole_any (some ⟨tb, 0, none⟩) f n w' (by omega)
    by_cases hoc : oc n = 1
    · rw [decide_eq_true hoc] at hwh
      have hroot := fun w' (hf : Fr (fun _ => False) w w') => root_any tb wi hw1 hw32 L _ f n w' (Nat.le_refl _) (hT.fr0 hf) hA hL
      have hMw := hT.mw hw1 hw32 f n
      have hMb := hT.mb f n
      unfold PeaksSays
      unfold RootSays at hroot
      rw [pks_one hoc]
      generalize mth wi (blk L f n) = M at *
      have HC := hide (And.intro hwh (And.intro hroot (And.intro hMw hMb)))
      clear hwh hroot hMw hMb hT hA hL ih hoc hk h1 hle
      unfold pv at *
      go_enter Tryd.func73, Tryd.ntmps73
      go_wp2_with fail
      refine ((unhide HC).1 _).mono ?_
      rintro e wA ⟨rfl, hFA⟩
      obtain ⟨b0, b1, b2, hFw⟩ := box3 hFA
      have HFA := hide hFw
      clear hFA hFw
      generalize w.heap.size = P at *
      go_wp2_with fail
      refine ((unhide HC).2.1 _ (unhide HFA)).mono ?_
      rintro e w1 ⟨yo, yc, rfl, hO⟩
      obtain ⟨W, hW⟩ : ∃ W, w1.alloc (.cells #[.slice yo wi yc] 25) = W := ⟨_, rfl⟩
      have hL1 := (ol_lit1 hO (unhide HC).2.2.2 wi (unhide HC).2.2.1 W hW).base (unhide HFA)
      have H1 := hide hL1
      clear hL1 hO
      go_wp2_with fail
      go_ret
      exact ⟨_, 1, _, rfl, unhide H1⟩
    · rw [decide_eq_false hoc] at hwh
      have h3 : 3 ≤ n := by
        have e1 : n ≠ 1 := fun e => hoc (by rw [e]; exact oc_pow 0 (by decide))
        have e2 : n ≠ 2 := fun e => hoc (by rw [e]; exact oc_pow 1 (by decide))
        omega
      have hlt := hf_lt n (by omega)
      have hpos := hf_pos n
      obtain ⟨hA1, hA2⟩ := hA.halves (by omega)
      have hpt := fun w' => parts_any (some ⟨tb, 0, none⟩) f n w' (by omega) (by omega)
      have hroot := fun w' (hf' : Fr (fun _ => False) w w') => root_any tb wi hw1 hw32 L _ f (hf n) w' (Nat.le_refl _) (hT.fr0 hf') hA1 (by omega)
      have hrec := fun w' (hf' : Fr (fun _ => False) w w') => ih (f + hf n) (n - hf n) w' (by omega) (by omega) (hT.fr0 hf') hA2 (by omega)
      have hMw := hT.mw hw1 hw32 f (hf n)
      have hMb := hT.mb f (hf n)
      have hpl := pks_le wi L _ (f + hf n) (n - hf n) (Nat.le_refl _)
      have hpl2 : (pks wi L (f + hf n) (n - hf n)).length < 16000000 := by omega
      unfold PeaksSays at *
      unfold RootSays at hroot
      rw [pks_two hoc (by omega)]
      generalize mth wi (blk L f (hf n)) = M at *
      generalize pks wi L (f + hf n) (n - hf n) = PS at *
      generalize f + hf n = F2 at *
      generalize n - hf n = N2 at *
      generalize hf n = K at *
      have HC := hide (And.intro hwh (And.intro hpt (And.intro hroot (And.intro hrec (And.intro hMw (And.intro hMb hpl2))))))
      clear hwh hpt hroot hrec hMw hMb hpl hpl2 hT hA hL ih hoc hk h1 hle hA1 hA2 h3 hlt hpos
      unfold pv at *
      go_enter Tryd.func73, Tryd.ntmps73
      go_wp2_with fail
      refine ((unhide HC).1 _).mono ?_
      rintro e wA ⟨rfl, hFA⟩
      obtain ⟨b0, b1, b2, hFw⟩ := box3 hFA
      have HFA := hide hFw
      clear hFA hFw
      generalize w.heap.size = P at *
      go_wp2_with fail
      refine ((unhide HC).2.1 _).mono ?_
      rintro e wB ⟨rfl, hFB⟩
      have HFB := hide ((unhide HFA).trans hFB (fun _ _ h => h))
      clear hFB b0 b1 b2 HFA
      go_wp2_with fail
      obtain ⟨W, hW⟩ : ∃ W, (wB.alloc (.cells #[.pointer (some ⟨tb, 0, none⟩), .int .i64 f, .int .i64 K] 79)).alloc (.cells #[.pointer (some ⟨tb, 0, none⟩), .int .i64 F2, .int .i64 N2] 79) = W := ⟨_, rfl⟩
      rw [hW]
      obtain ⟨x0, x1, x2, y0, y1, y2, hFW⟩ := two3 wB _ _ _ _ _ _ _ W hW
      have HFW := hide ((unhide HFB).trans hFW (fun _ _ h => h))
      clear hW hFW
      generalize wB.heap.size = Z at *
      have hS : ∀ w', Fr (fun _ => False) W w' → w'.cell? ⟨Z, 0, none⟩ = some (.pointer (some ⟨tb, 0, none⟩)) ∧ w'.cell? ⟨Z, 1, none⟩ = some (.int .i64 f) ∧ w'.cell? ⟨Z, 2, none⟩ = some (.int .i64 K) ∧ w'.cell? ⟨Z + 1, 0, none⟩ = some (.pointer (some ⟨tb, 0, none⟩)) ∧ w'.cell? ⟨Z + 1, 1, none⟩ = some (.int .i64 F2) ∧ w'.cell? ⟨Z + 1, 2, none⟩ = some (.int .i64 N2) := fun w' hf =>
        ⟨(hf.cell (lt_of_cell x0) (fun h => h)).trans x0, (hf.cell (lt_of_cell x1) (fun h => h)).trans x1, (hf.cell (lt_of_cell x2) (fun h => h)).trans x2, (hf.cell (lt_of_cell y0) (fun h => h)).trans y0, (hf.cell (lt_of_cell y1) (fun h => h)).trans y1, (hf.cell (lt_of_cell y2) (fun h => h)).trans y2⟩
      have HS := hide hS
      clear hS
      go_region_held3 (fun w' => w'.cell? ⟨Z, 0, none⟩ = some (.pointer (some ⟨tb, 0, none⟩)) ∧ w'.cell? ⟨Z, 1, none⟩ = some (.int .i64 f) ∧ w'.cell? ⟨Z, 2, none⟩ = some (.int .i64 K) ∧ w'.cell? ⟨Z + 1, 0, none⟩ = some (.pointer (some ⟨tb, 0, none⟩)) ∧ w'.cell? ⟨Z + 1, 1, none⟩ = some (.int .i64 F2) ∧ w'.cell? ⟨Z + 1, 2, none⟩ = some (.int .i64 N2))
        (first | assumption | exact (unhide HS) _ (Fr.refl _ _).drew | exact (unhide HS) _ fE | exact (unhide HS) _ (fD.alloc _) | exact (unhide HS) _ fD | exact (unhide HS) _ (fC.alloc _) | exact (unhide HS) _ fC)
        (first
          | (go_at_call 50; refine ((unhide HC).2.2.1 _ (by exact (unhide HFW).drew)).mono ?_; rintro e wC ⟨zo, zc, rfl, oC⟩; have fC : Fr (fun _ => False) W wC := (Fr.refl _ _).drew.trans oC.fr (fun _ _ h => h))
          | (go_at_call 73; refine ((unhide HC).2.2.2.1 _ (by first | exact (unhide HFW).trans fC (fun _ _ h => h) | exact ((unhide HFW).trans fC (fun _ _ h => h)).alloc _)).mono ?_; rintro e wD ⟨bo, bc, us, rfl, oD⟩; have fD : Fr (fun _ => False) W wD := by first | exact fC.trans oD.own.fr (fun _ _ h => h) | exact (fC.alloc _).trans oD.own.fr (fun _ _ h => h))
          | (refine Exists.elim ((ol_lit1 oC (unhide HC).2.2.2.2.2.1 wi (unhide HC).2.2.2.2.1 _ rfl).cat oD (by rw [oD.len]; have := (unhide HC).2.2.2.2.2.2; simp; omega)) fun ao2 h => Exists.elim h fun cp2 h => Exists.elim h fun wE h => ?_; have hr2 := h.1; have hO2 := h.2; clear h; have fE : Fr (fun _ => False) W wE := (Fr.refl _ _).drew.trans hO2.own.fr (fun _ _ h => h); refine step_app rfl (.tmp 17) (.tmp 19) 22 22 rfl _ _ _ (by simp [Act.eval]) (by simp [Act.eval]) hr2 ?_)
          | (refine Exists.elim (OL.front oC oD (unhide HC).2.2.2.2.2.1 (unhide HC).2.2.2.2.1 rfl (by rw [oD.len]; exact (unhide HC).2.2.2.2.2.2)) fun ao2 h => Exists.elim h fun cp2 h => Exists.elim h fun wE h => ?_; have hr2 := h.1; have hO2 := h.2; clear h; have fE : Fr (fun _ => False) W wE := (Fr.refl _ _).drew.trans hO2.own.fr (fun _ _ h => h); refine step_app rfl (.tmp 17) (.tmp 19) 22 22 rfl _ _ _ (by simp [Act.eval]) (by simp [Act.eval]) hr2 ?_))
      all_goals
        have HE := hide (hO2.base ((unhide HFW).drew))
        clear oC oD hO2 hr2 fC fD fE
        go_wp2_with fail
        go_ret
        first | exact ⟨ao2, cp2, _, by rw [List.length_append]; rfl, unhide HE⟩ | exact ⟨ao2, cp2, _, by simp, unhide HE⟩
set_option maxRecDepth 100000 in
set_option maxHeartbeats 1000000 in
/-- Tree.Peaks. -/
theorem tpeaks_in (tb wi : Nat) (hw1 : 1 ≤ wi) (hw32 : wi ≤ 32) (L : List (List Nat)) (w : World) (hT : Tk w tb wi L) (h0 : 0 < L.length) :
    Calls Tryd.prog 43 #[.pointer (some ⟨tb, 0, none⟩)] w fun e w' => ∃ ao cp vs, e = .returned (.slice ao vs.length cp) ∧ OL w w' ao cp vs (pks wi L 0 L.length) := by
  obtain ⟨c0, c1, htb⟩ := hT.c0
  have hhas : Calls Tryd.prog 48 #[.pointer (some ⟨tb, 0, none⟩), .int .i64 L.length] w fun e w' => e = .returned (.bool true) ∧ w' = w := by
    have := has_any tb L.length wi L.length w c0 c1
    rw [decide_eq_true (by omega)] at this
    exact this
  have hpk := fun w' (hf : Fr (fun _ => False) w w') => peaks_any tb wi hw1 hw32 L _ 0 L.length w' (Nat.le_refl _) h0 (hT.fr0 hf) (al_zero _) (by omega)
  unfold PeaksSays at hpk
  have HG := hide (And.intro hhas hpk)
  have q1 : ¬ L.length = 0 := by omega
  have q2 : ((L.length : Int) == 0) = false := beq_false_of_ne (by omega)
  clear hhas hpk hT htb c0
  generalize pks wi L 0 L.length = PS at *
  have q3 : ¬ L = [] := fun h => q1 (by rw [h]; rfl)
  generalize L.length = N at *
  go_enter Tryd.func43, Tryd.ntmps43
  go_wp2_with fail
  refine (unhide HG).1.mono ?_
  rintro e w0 ⟨rfl, rfl⟩
  go_wp2_with fail
  refine (first_any _ _ _).mono ?_
  rintro e w1 ⟨rfl, hF1⟩
  have H1 := hide hF1
  clear hF1
  go_wp2_with fail
  refine ((unhide HG).2 w1 (unhide H1)).mono ?_
  rintro e w2 ⟨ao, cp, vs, rfl, hO⟩
  have H2 := hide (hO.base (unhide H1))
  clear hO
  go_wp2_with fail
  go_ret
  exact ⟨ao, cp, vs, rfl, unhide H2⟩
set_option maxRecDepth 100000 in
set_option maxHeartbeats 1000000 in
theorem tpeaks_no (tb n : Nat) (wi : Int) (w : World) (c0 : w.cell? ⟨tb, 0, none⟩ = some (.int .i64 wi)) (c1 : w.cell? ⟨tb, 1, none⟩ = some (.int .i64 n)) (h : ¬ (1 ≤ wi ∧ wi ≤ 32) ∨ n = 0) :
    Calls Tryd.prog 43 #[.pointer (some ⟨tb, 0, none⟩)] w fun e w' => e = .returned (.slice none 0 0) ∧ w' = w := by
  have hhas := has_any tb n wi n w c0 c1
  by_cases hh : 1 ≤ wi ∧ wi ≤ 32
  · rw [decide_eq_true (by omega)] at hhas
    have h0 : n = 0 := by
      rcases h with h | h
      · exact absurd hh h
      · exact h
    subst h0
    have e0 : ((0 : Nat) : Int) = 0 := rfl
    simp only [e0] at hhas c1
    have HG := hide hhas
    clear hhas h hh c0 e0
    go_enter Tryd.func43, Tryd.ntmps43
    go_wp2_with fail
    refine (unhide HG).mono ?_
    rintro e w0 ⟨rfl, rfl⟩
    go_wp2_with fail
    go_ret
    exact ⟨rfl, rfl⟩
  · rw [decide_eq_false (by omega)] at hhas
    have HG := hide hhas
    clear hhas h hh c0
    go_enter Tryd.func43, Tryd.ntmps43
    go_wp2_with fail
    refine (unhide HG).mono ?_
    rintro e w0 ⟨rfl, rfl⟩
    go_wp2_with fail
    go_ret
    exact ⟨rfl, rfl⟩
end Go.Proofs.YthccbfgjekdiiaaDoor

namespace Go.Proofs.YthccbfgjekdiiaaDoor
open Go.RowKit

theorem blk_tk (L : List (List Nat)) (n f k : Nat) (h : f + k ≤ n) : blk (L.take n) f k = blk L f k := by
  rw [blk, blk, List.drop_take, List.take_take]
  congr 1
  omega
theorem bes_tk (wi : Nat) (L : List (List Nat)) (n m : Nat) : ∀ f k tf tn, k ≤ m → f + k ≤ n → bes wi (L.take n) f k tf tn = bes wi L f k tf tn := by
  induction m with
  | zero => intro f k tf tn h _; rw [bes, dif_pos (by omega), bes, dif_pos (by omega)]
  | succ m ih =>
    intro f k tf tn h hn
    by_cases e : (f = tf ∧ k = tn) ∨ k < 2
    · rw [bes, dif_pos e, bes, dif_pos e]
    · have h3 := hf_lt k (by omega)
      have h4 := hf_pos k
      by_cases hl : tf < f + hf k
      · rw [bes_l (by omega) (by omega) hl, bes_l (by omega) (by omega) hl, ih _ _ _ _ (by omega) (by omega), blk_tk _ _ _ _ (by omega)]
      · rw [bes_r (by omega) (by omega) hl, bes_r (by omega) (by omega) hl, ih _ _ _ _ (by omega) (by omega), blk_tk _ _ _ _ (by omega)]
theorem prf_tk (wi : Nat) (L : List (List Nat)) (n m : Nat) (hm : m ≤ n) : prf wi (L.take n) n m = prf wi L n m := by
  unfold prf
  by_cases h0 : m = 0
  · rw [if_pos h0, if_pos h0]
  · obtain ⟨_, h2, h3, _⟩ := endF_ok n 0 n m (Nat.le_refl _) (by omega) (by omega)
    rw [if_neg h0, if_neg h0, bes_tk wi L n n _ _ _ _ (Nat.le_refl _) (by omega), blk_tk _ _ _ _ (by omega)]
theorem mny_tk (wi : Nat) (L : List (List Nat)) (n m : Nat) : ∀ f k zs, k ≤ m → f + k ≤ n → mny wi (L.take n) f k zs = mny wi L f k zs := by
  induction m with
  | zero =>
    intro f k zs h hn
    by_cases hz : zs = []
    · subst hz; rw [mny_nil, mny_nil, blk_tk _ _ _ _ hn]
    · rw [mny_one hz (by omega), mny_one hz (by omega)]
  | succ m ih =>
    intro f k zs h hn
    by_cases hz : zs = []
    · subst hz; rw [mny_nil, mny_nil, blk_tk _ _ _ _ hn]
    · by_cases h2 : k < 2
      · rw [mny_one hz h2, mny_one hz h2]
      · have h3 := hf_lt k (by omega)
        have h4 := hf_pos k
        rw [mny_two hz (by omega), mny_two hz (by omega), ih _ _ _ (by omega) (by omega), ih _ _ _ (by omega) (by omega)]
/-- A tree and the entries that it has taken so far, behind a pointer. -/
structure TS (w0 w : World) (j : Int) (tb eb : Nat) (dO : Option Addr) (dc : Nat) (us : List Value) (es : List (List Nat)) : Prop where
  box : w.cell? ⟨eb, 0, none⟩ = some (.slice dO es.length dc)
  bfz : w.frozen? ⟨eb, 0, none⟩ = false
  pcs : Pcs w (.slice dO es.length dc) us es
  cap : es.length ≤ dc
  fr : Fr (fun _ => False) w0 w
  ebs : w0.heap.size ≤ eb
  dn : ∀ g o, dO = some ⟨g, o, none⟩ → w0.heap.size ≤ g ∧ ¬ g = eb
  tree : ∃ base xo cp vs rs, TrAt w base tb j es.length xo cp vs rs ∧ w0.heap.size ≤ base ∧ (1 ≤ j ∧ j ≤ 32 → RowsOf j.toNat (es.map (lf j)) 0 rs) ∧ ¬ TOwn tb xo vs eb ∧ ∀ g o, dO = some ⟨g, o, none⟩ → ¬ TOwn tb xo vs g
  gs : GS w
  gr : GR w
  gt : GT w
  len : ∀ e ∈ es, e.length ≤ 4000000
  num : es.length ≤ 400
  oldb : ∀ (i : Nat) u p, us[i]? = some u → es[i]? = some p → p = [] ∨ Bk u (fun g => g < w0.heap.size)
theorem frozen_fr {S : Nat → Prop} {w w' : World} (hf : Fr S w w') (a : Addr) (h : a.block < w.heap.size) (hs : ¬ S a.block) : w'.frozen? a = w.frozen? a := by
  unfold World.frozen?
  rw [hf.block _ h hs]
theorem TS.fr0 {w0 w w' : World} {j : Int} {tb eb : Nat} {dO : Option Addr} {dc : Nat} {us : List Value} {es : List (List Nat)} (h : TS w0 w j tb eb dO dc us es) (hf : Fr (fun _ => False) w w') : TS w0 w' j tb eb dO dc us es := by
  obtain ⟨base, xo, cp, vs, rs, t1, t2, t3, t4, t5⟩ := h.tree
  have hlt := lt_of_cell h.box
  exact ⟨(hf.cell hlt (fun h => h)).trans h.box, (frozen_fr hf _ hlt (fun h => h)).trans h.bfz, h.pcs.fr0 hf, h.cap, h.fr.trans hf (fun _ _ h => h), h.ebs, h.dn, ⟨base, xo, cp, vs, rs, t1.fr hf (fun _ _ h => h), t2, t3, t4, t5⟩, h.gs.fr0 hf, h.gr.fr0 hf, h.gt.fr0 hf, h.len, h.num, h.oldb⟩
theorem TS.tk {w0 w : World} {wi tb eb : Nat} {dO : Option Addr} {dc : Nat} {us : List Value} {es : List (List Nat)} (h : TS w0 w (wi : Int) tb eb dO dc us es) (hw1 : 1 ≤ wi) (hw32 : wi ≤ 32) : Tk w tb wi (es.map (lf wi)) := by
  obtain ⟨base, xo, cp, vs, rs, t1, _, t3, _⟩ := h.tree
  have hl : (es.map (lf (wi : Int))).length = es.length := List.length_map _
  have hr := t3 (by omega)
  rw [Int.toNat_natCast] at hr
  exact ⟨⟨base, xo, cp, vs, rs, by rw [hl]; exact t1, hr⟩, h.gs, h.gt, map_lf_len wi hw1 hw32 es, fun p hp => by
    obtain ⟨e, _, rfl⟩ := List.mem_map.1 hp
    exact lf_lt _ _, by rw [hl]; have := h.num; omega⟩
theorem TS.cs {w0 w : World} {j : Int} {tb eb : Nat} {dO : Option Addr} {dc : Nat} {us : List Value} {es : List (List Nat)} (h : TS w0 w j tb eb dO dc us es) : w.cell? ⟨tb, 0, none⟩ = some (.int .i64 j) ∧ w.cell? ⟨tb, 1, none⟩ = some (.int .i64 es.length) := by
  obtain ⟨base, xo, cp, vs, rs, t1, _⟩ := h.tree
  exact ⟨t1.cells.1, t1.cells.2.1⟩
/-- The entries that a step asks for. -/
def smE (j k : Int) (es : List (List Nat)) : List (List Nat) := if (1 ≤ j ∧ j ≤ 32) ∧ 0 ≤ k ∧ k ≤ es.length then es.take k.toNat else []
theorem smE_in {j k : Int} {es : List (List Nat)} (h : (1 ≤ j ∧ j ≤ 32) ∧ 0 ≤ k ∧ k ≤ es.length) : smE j k es = es.take k.toNat := by rw [smE, if_pos h]
theorem smE_no {j k : Int} {es : List (List Nat)} (h : ¬ ((1 ≤ j ∧ j ≤ 32) ∧ 0 ≤ k ∧ k ≤ es.length)) : smE j k es = [] := by rw [smE, if_neg h]
/-- Tree.Path, whatever it is asked. -/
theorem tpathU {w0 w : World} {j : Int} {tb eb : Nat} {dO : Option Addr} {dc : Nat} {us : List Value} {es : List (List Nat)} (h : TS w0 w j tb eb dO dc us es) (i k : Int) :
    Calls Tryd.prog 34 #[.pointer (some ⟨tb, 0, none⟩), .int .i64 i, .int .i64 k] w fun e w' => ∃ ao cp vs, e = .returned (.tuple #[.slice ao vs.length cp, .int .i64 (pcP j i (smE j k es))]) ∧ OL w w' ao cp vs (plP j i (smE j k es)) := by
  by_cases hin : (1 ≤ j ∧ j ≤ 32) ∧ 0 ≤ k ∧ k ≤ es.length
  · rw [smE_in hin]
    obtain ⟨wi, rfl⟩ : ∃ wi : Nat, j = (wi : Int) := ⟨j.toNat, by omega⟩
    obtain ⟨K, rfl⟩ : ∃ K : Nat, k = (K : Int) := ⟨k.toNat, by omega⟩
    rw [Int.toNat_natCast]
    have hlt : (es.take K).length = K := by rw [List.length_take]; omega
    have hlm : (es.map (lf (wi : Int))).length = es.length := List.length_map _
    by_cases h : okP wi i (es.take K)
    · rw [pcP, plP, if_pos h, if_pos h, Int.toNat_natCast]
      obtain ⟨_, _, h3, h4⟩ := h
      obtain ⟨I, rfl⟩ : ∃ I : Nat, i = (I : Int) := ⟨i.toNat, by omega⟩
      rw [Int.toNat_natCast]
      have := tpath_in tb wi (by omega) (by omega) _ I K w (TS.tk ‹_› (by omega) (by omega)) (by omega) (by omega)
      have hb := bes_pth wi (es.map (lf wi)) K 0 K I (Nat.le_refl _) (by omega) (by omega) (by omega)
      have hbk : blk (es.map (lf (wi : Int))) 0 K = (es.take K).map (lf wi) := by rw [blk, List.drop_zero, List.map_take]
      rw [hbk, Nat.sub_zero] at hb
      rw [hb] at this
      exact this
    · rw [pcP, plP, if_neg h, if_neg h]
      refine (tpath_no tb es.length wi i K w (TS.cs ‹_›).1 (TS.cs ‹_›).2 (.inr (by unfold okP at h; omega))).mono ?_
      rintro e w' ⟨rfl, rfl⟩
      exact ⟨none, 0, [], rfl, OL.nil _⟩
  · rw [smE_no hin]
    have hno : ¬ okP j i [] := fun hh => by have := hh.2.2.1; have := hh.2.2.2; simp at this; omega
    rw [pcP, plP, if_neg hno, if_neg hno]
    refine (tpath_no tb es.length j i k w h.cs.1 h.cs.2 (.inl (by omega))).mono ?_
    rintro e w' ⟨rfl, rfl⟩
    exact ⟨none, 0, [], rfl, OL.nil _⟩
/-- Tree.Proof. -/
theorem tproofI {w0 w : World} {j : Int} {tb eb : Nat} {dO : Option Addr} {dc : Nat} {us : List Value} {es : List (List Nat)} (h : TS w0 w j tb eb dO dc us es) (i k : Int) (hin : (1 ≤ j ∧ j ≤ 32) ∧ 0 ≤ k ∧ k ≤ es.length) :
    Calls Tryd.prog 25 #[.pointer (some ⟨tb, 0, none⟩), .int .i64 i, .int .i64 k] w fun e w' => ∃ ao cp vs, e = .returned (.tuple #[.slice ao vs.length cp, .int .i64 (pcQ j i (es.take k.toNat))]) ∧ OL w w' ao cp vs (plQ j i (es.take k.toNat)) := by
  obtain ⟨wi, rfl⟩ : ∃ wi : Nat, j = (wi : Int) := ⟨j.toNat, by omega⟩
  obtain ⟨K, rfl⟩ : ∃ K : Nat, k = (K : Int) := ⟨k.toNat, by omega⟩
  rw [Int.toNat_natCast]
  have hlt : (es.take K).length = K := by rw [List.length_take]; omega
  have hlm : (es.map (lf (wi : Int))).length = es.length := List.length_map _
  by_cases hq : okQ wi i (es.take K)
  · rw [pcQ, plQ, if_pos hq, if_pos hq, Int.toNat_natCast, hlt]
    obtain ⟨_, _, h3, h4⟩ := hq
    obtain ⟨I, rfl⟩ : ∃ I : Nat, i = (I : Int) := ⟨i.toNat, by omega⟩
    rw [Int.toNat_natCast]
    have := tproof_in tb wi (by omega) (by omega) _ I K w (h.tk (by omega) (by omega)) (by omega) (by omega)
    rw [List.map_take, prf_tk wi _ K I (by omega)]
    exact this
  · rw [pcQ, plQ, if_neg hq, if_neg hq]
    refine (tproof_no tb es.length wi i K w h.cs.1 h.cs.2 (.inr (by unfold okQ at hq; omega))).mono ?_
    rintro e w' ⟨rfl, rfl⟩
    exact ⟨none, 0, [], rfl, OL.nil _⟩
/-- Tree.Many. -/
theorem tmanyI {w0 w : World} {j : Int} {tb eb : Nat} {dO : Option Addr} {dc : Nat} {us : List Value} {es : List (List Nat)} (h : TS w0 w j tb eb dO dc us es) (k : Int) (hin : (1 ≤ j ∧ j ≤ 32) ∧ 0 ≤ k ∧ k ≤ es.length) (y : Value) (zs : List Int) (hy : Ints w y zs) (hl : zs.length ≤ 4000000) (hb : ∀ z ∈ zs, -9223372036854775808 ≤ z) :
    Calls Tryd.prog 37 #[.pointer (some ⟨tb, 0, none⟩), y, .int .i64 k] w fun e w' => ∃ ao cp vs, e = .returned (.tuple #[.slice ao vs.length cp, .int .i64 (pcM j (es.take k.toNat) zs)]) ∧ OL w w' ao cp vs (plM j (es.take k.toNat) zs) := by
  obtain ⟨wi, rfl⟩ : ∃ wi : Nat, j = (wi : Int) := ⟨j.toNat, by omega⟩
  obtain ⟨K, rfl⟩ : ∃ K : Nat, k = (K : Int) := ⟨k.toNat, by omega⟩
  rw [Int.toNat_natCast]
  have hlt : (es.take K).length = K := by rw [List.length_take]; omega
  have hlm : (es.map (lf (wi : Int))).length = es.length := List.length_map _
  have hnum := h.num
  by_cases hq : okM wi (es.take K) zs
  · rw [pcM, plM, if_pos hq, if_pos hq, Int.toNat_natCast, hlt]
    obtain ⟨_, _, h3⟩ := hq
    rw [hlt] at h3
    have := tmany_in tb wi (by omega) (by omega) _ K y zs w (h.tk (by omega) (by omega)) (by omega) hy (by omega) h3
    rw [List.map_take, mny_tk wi _ K K 0 K zs (Nat.le_refl _) (by omega)]
    exact this
  · rw [pcM, plM, if_neg hq, if_neg hq]
    have hrs : rsF (K : Int) 0 zs = false := by
      rcases hh : rsF (K : Int) 0 zs with _ | _
      · rfl
      · exact absurd ⟨by omega, by omega, by rw [hlt]; exact hh⟩ hq
    refine (tmany_no tb es.length wi K y zs w h.cs.1 h.cs.2 hy (by omega) hb (by omega) (.inr hrs)).mono ?_
    rintro e w' ⟨rfl, rfl⟩
    exact ⟨none, 0, [], rfl, OL.nil _⟩
end Go.Proofs.YthccbfgjekdiiaaDoor

namespace Go.Proofs.YthccbfgjekdiiaaDoor
open Go.RowKit

def X5 (w : World) (b : Nat) (c0 c1 c2 c3 c4 : Value) : Prop := w.cell? ⟨b, 0, none⟩ = some c0 ∧ w.cell? ⟨b, 1, none⟩ = some c1 ∧ w.cell? ⟨b, 2, none⟩ = some c2 ∧ w.cell? ⟨b, 3, none⟩ = some c3 ∧ w.cell? ⟨b, 4, none⟩ = some c4
theorem X5.fr0 {w w' : World} {b : Nat} {c0 c1 c2 c3 c4 : Value} (h : X5 w b c0 c1 c2 c3 c4) (hf : Fr (fun _ => False) w w') : X5 w' b c0 c1 c2 c3 c4 := by
  obtain ⟨h0, h1, h2, h3, h4⟩ := h
  exact ⟨(hf.cell (lt_of_cell h0) (fun h => h)).trans h0, (hf.cell (lt_of_cell h1) (fun h => h)).trans h1, (hf.cell (lt_of_cell h2) (fun h => h)).trans h2, (hf.cell (lt_of_cell h3) (fun h => h)).trans h3, (hf.cell (lt_of_cell h4) (fun h => h)).trans h4⟩
theorem box5s (w : World) (a b c d e : Value) (ty : Nat) (W : World) (hW : w.alloc (.cells #[a, b, c, d, e] ty) = W) : X5 W w.heap.size a b c d e ∧ Fr (fun _ => False) w W := by
  subst hW
  exact ⟨⟨World.cell?_alloc_at _ _ _ _ rfl, World.cell?_alloc_at _ _ _ _ rfl, World.cell?_alloc_at _ _ _ _ rfl, World.cell?_alloc_at _ _ _ _ rfl, World.cell?_alloc_at _ _ _ _ rfl⟩, (Fr.refl _ _).alloc _⟩
end Go.Proofs.YthccbfgjekdiiaaDoor

namespace Go.Proofs.YthccbfgjekdiiaaDoor
open Go.RowKit

set_option maxRecDepth 100000 in
set_option maxHeartbeats 1000000 in
theorem grow_p_in (wi K dg : Nat) (hw1 : 1 ≤ wi) (hw32 : wi ≤ 32) (I : Int) (tb eb : Nat) (dc : Nat) (us : List Value) (es : List (List Nat)) (w0 w : World) (h : TS w0 w wi tb eb (some ⟨dg, 0, none⟩) dc us es) (hK : K ≤ es.length) (eo po : Option Addr) (EN ec PN pc : Nat) :
    Calls Tryd.prog 16 #[.int .i64 wi, .pointer (some ⟨tb, 0, none⟩), .pointer (some ⟨eb, 0, none⟩), .agg #[.int .i64 4, .int .i64 I, .int .i64 K, .slice eo EN ec, .slice po PN pc]] w fun e w' => e = .returned (.bool true) ∧ Fr (fun _ => False) w w' := by
  have hnum := h.num
  have hcap := h.cap
  have hF1 : Fr (fun _ => False) w (w.alloc (.cells #[.int .i64 4, .int .i64 I, .int .i64 K, .slice eo EN ec, .slice po PN pc] 43)) := (Fr.refl _ _).alloc _
  have hX := fun w' (hf : Fr (fun _ => False) (w.alloc (.cells #[.int .i64 4, .int .i64 I, .int .i64 K, .slice eo EN ec, .slice po PN pc] 43)) w') => (box5s w _ _ _ _ _ _ _ rfl).1.fr0 hf
  unfold X5 at hX
  have hbx : (w.alloc (.cells #[.int .i64 4, .int .i64 I, .int .i64 K, .slice eo EN ec, .slice po PN pc] 43)).cell? ⟨eb, 0, none⟩ = some (.slice (some ⟨dg, 0, none⟩) es.length dc) := (h.fr0 hF1).box
  have hmay := fun w' => may_yes wi w' (by omega) (by omega)
  have hwant := fun w' (hf : Fr (fun _ => False) w w') => gpathU wi I (.slice (some ⟨dg, 0, none⟩) K dc) (us.take K) (es.take K) w' (h.gr.fr0 hf) ((h.fr0 hf).pcs.take K hK) (fun e he => h.len e (List.mem_of_mem_take he)) (by rw [List.length_take]; omega)
  have hget := fun w' (hf : Fr (fun _ => False) w w') => tpathU (h.fr0 hf) I K
  rw [smE_in (by omega), Int.toNat_natCast] at hget
  have hok := plP_ok wi I (es.take K)
  generalize plP wi I (es.take K) = PS at *
  generalize pcP wi I (es.take K) = C at *
  have hPl : PS.length ≤ 8000000 := Nat.le_trans hok.2 (by rw [List.length_take]; omega)
  have HC := hide (And.intro hX (And.intro hmay (And.intro hwant (And.intro hget (And.intro hok.1 hPl)))))
  clear hX hmay hwant hget hok hPl
  have q0 : (0 : Int) ≤ (K : Int) := by omega
  have q1 : (K : Int) ≤ (es.length : Int) := by omega
  have q2 : (K : Int) ≤ (dc : Int) := by omega
  clear h
  generalize es.length = N at *
  go_enter Tryd.func16, Tryd.ntmps16
  go_wp2_with fail
  refine ((unhide HC).2.1 _).mono ?_
  rintro e wA ⟨rfl, rfl⟩
  go_wp2_with fail
  refine ((unhide HC).2.2.1 _ hF1).mono ?_
  rintro e w1 ⟨yo, yc, ts, rfl, hP1, hf1⟩
  obtain ⟨k0, k1, k2, k3, k4⟩ := (unhide HC).1 _ hf1
  have H1 := hide (And.intro hP1 (hF1.trans hf1 (fun _ _ h => h)))
  have HB1 := hide hf1
  clear hP1 hf1 hbx hF1
  generalize hPN : PS.length = PL at *
  have HPN := hide hPN
  clear hPN
  go_wp2_with fail
  refine ((unhide HC).2.2.2.1 _ (unhide H1).2).mono ?_
  rintro e w2 ⟨ao, cp, vs, rfl, hO2⟩
  obtain ⟨k0', k1', k2', k3', k4'⟩ := (unhide HC).1 _ ((unhide HB1).trans hO2.own.fr (fun _ _ h => h))
  have H2 := hide hO2
  clear hO2 k0 k1 k2 k3 k4
  go_wp2_with fail
  refine ((unhide HC).2.2.2.1 _ ((unhide H1).2.trans (unhide H2).own.fr (fun _ _ h => h))).mono ?_
  rintro e w3 ⟨bo, bc, us3, rfl, hO3⟩
  have H3 := hide hO3
  clear hO3 k0' k1' k2' k3' k4'
  go_wp2_with fail
  refine (held_T (unhide H2) (unhide H3) (unhide H1).1 C (unhide HC).2.2.2.2.1 (by rw [unhide HPN]; exact (unhide HC).2.2.2.2.2)).mono ?_
  rintro e w4 ⟨rfl, hF4⟩
  have H4 := hide ((unhide H1).2.trans hF4 (fun _ _ h => h))
  clear hF4
  go_wp2_with fail
  go_ret
  exact ⟨rfl, unhide H4⟩
set_option maxRecDepth 100000 in
set_option maxHeartbeats 1000000 in
theorem grow_p_in0 (wi : Nat) (hw1 : 1 ≤ wi) (hw32 : wi ≤ 32) (I : Int) (tb eb : Nat) (us : List Value) (w0 w : World) (h : TS w0 w wi tb eb none 0 us ([] : List (List Nat)))  (eo po : Option Addr) (EN ec PN pc : Nat) :
    Calls Tryd.prog 16 #[.int .i64 wi, .pointer (some ⟨tb, 0, none⟩), .pointer (some ⟨eb, 0, none⟩), .agg #[.int .i64 4, .int .i64 I, .int .i64 0, .slice eo EN ec, .slice po PN pc]] w fun e w' => e = .returned (.bool true) ∧ Fr (fun _ => False) w w' := by
  have hnum := h.num
  have hcap := h.cap
  have hF1 : Fr (fun _ => False) w (w.alloc (.cells #[.int .i64 4, .int .i64 I, .int .i64 0, .slice eo EN ec, .slice po PN pc] 43)) := (Fr.refl _ _).alloc _
  have hX := fun w' (hf : Fr (fun _ => False) (w.alloc (.cells #[.int .i64 4, .int .i64 I, .int .i64 0, .slice eo EN ec, .slice po PN pc] 43)) w') => (box5s w _ _ _ _ _ _ _ rfl).1.fr0 hf
  unfold X5 at hX
  have hbx : (w.alloc (.cells #[.int .i64 4, .int .i64 I, .int .i64 0, .slice eo EN ec, .slice po PN pc] 43)).cell? ⟨eb, 0, none⟩ = some (.slice none 0 0) := (h.fr0 hF1).box
  have hmay := fun w' => may_yes wi w' (by omega) (by omega)
  have hwant := fun w' (hf : Fr (fun _ => False) w w') => gpathU wi I (.slice none 0 0) [] [] w' (h.gr.fr0 hf) (pcs_nil _) (fun _ he => by cases he) (by simp)
  have hget := fun w' (hf : Fr (fun _ => False) w w') => tpathU (h.fr0 hf) I 0
  rw [(show smE wi 0 [] = [] by rw [smE]; split <;> rfl)] at hget
  have hok := plP_ok wi I []
  generalize plP wi I [] = PS at *
  generalize pcP wi I [] = C at *
  have hPl : PS.length ≤ 8000000 := Nat.le_trans hok.2 (by simp)
  have HC := hide (And.intro hX (And.intro hmay (And.intro hwant (And.intro hget (And.intro hok.1 hPl)))))
  clear hX hmay hwant hget hok hPl
  clear h
  go_enter Tryd.func16, Tryd.ntmps16
  go_wp2_with fail
  refine ((unhide HC).2.1 _).mono ?_
  rintro e wA ⟨rfl, rfl⟩
  go_wp2_with fail
  refine ((unhide HC).2.2.1 _ hF1).mono ?_
  rintro e w1 ⟨yo, yc, ts, rfl, hP1, hf1⟩
  obtain ⟨k0, k1, k2, k3, k4⟩ := (unhide HC).1 _ hf1
  have H1 := hide (And.intro hP1 (hF1.trans hf1 (fun _ _ h => h)))
  have HB1 := hide hf1
  clear hP1 hf1 hbx hF1
  generalize hPN : PS.length = PL at *
  have HPN := hide hPN
  clear hPN
  go_wp2_with fail
  refine ((unhide HC).2.2.2.1 _ (unhide H1).2).mono ?_
  rintro e w2 ⟨ao, cp, vs, rfl, hO2⟩
  obtain ⟨k0', k1', k2', k3', k4'⟩ := (unhide HC).1 _ ((unhide HB1).trans hO2.own.fr (fun _ _ h => h))
  have H2 := hide hO2
  clear hO2 k0 k1 k2 k3 k4
  go_wp2_with fail
  refine ((unhide HC).2.2.2.1 _ ((unhide H1).2.trans (unhide H2).own.fr (fun _ _ h => h))).mono ?_
  rintro e w3 ⟨bo, bc, us3, rfl, hO3⟩
  have H3 := hide hO3
  clear hO3 k0' k1' k2' k3' k4'
  go_wp2_with fail
  refine (held_T (unhide H2) (unhide H3) (unhide H1).1 C (unhide HC).2.2.2.2.1 (by rw [unhide HPN]; exact (unhide HC).2.2.2.2.2)).mono ?_
  rintro e w4 ⟨rfl, hF4⟩
  have H4 := hide ((unhide H1).2.trans hF4 (fun _ _ h => h))
  clear hF4
  go_wp2_with fail
  go_ret
  exact ⟨rfl, unhide H4⟩
set_option maxRecDepth 100000 in
set_option maxHeartbeats 1000000 in
theorem grow_p_nm (j k : Int) (hj : ¬ (1 ≤ j ∧ j ≤ 32)) (I : Int) (tb eb : Nat) (dO : Option Addr) (dc : Nat) (us : List Value) (es : List (List Nat)) (w0 w : World) (h : TS w0 w j tb eb dO dc us es)  (eo po : Option Addr) (EN ec PN pc : Nat) :
    Calls Tryd.prog 16 #[.int .i64 j, .pointer (some ⟨tb, 0, none⟩), .pointer (some ⟨eb, 0, none⟩), .agg #[.int .i64 4, .int .i64 I, .int .i64 k, .slice eo EN ec, .slice po PN pc]] w fun e w' => e = .returned (.bool true) ∧ Fr (fun _ => False) w w' := by
  have hnum := h.num
  have hcap := h.cap
  have hF1 : Fr (fun _ => False) w (w.alloc (.cells #[.int .i64 4, .int .i64 I, .int .i64 k, .slice eo EN ec, .slice po PN pc] 43)) := (Fr.refl _ _).alloc _
  have hX := fun w' (hf : Fr (fun _ => False) (w.alloc (.cells #[.int .i64 4, .int .i64 I, .int .i64 k, .slice eo EN ec, .slice po PN pc] 43)) w') => (box5s w _ _ _ _ _ _ _ rfl).1.fr0 hf
  unfold X5 at hX
  have hbx : (w.alloc (.cells #[.int .i64 4, .int .i64 I, .int .i64 k, .slice eo EN ec, .slice po PN pc] 43)).cell? ⟨eb, 0, none⟩ = some (.slice dO es.length dc) := (h.fr0 hF1).box
  have hmay := fun w' => may_no j w' (by omega)
  have hwant := fun w' (hf : Fr (fun _ => False) w w') => gpathU j I (.slice none 0 0) [] [] w' (h.gr.fr0 hf) (pcs_nil _) (fun _ he => by cases he) (by simp)
  have hget := fun w' (hf : Fr (fun _ => False) w w') => tpathU (h.fr0 hf) I k
  rw [smE_no (by omega)] at hget
  have hok := plP_ok j I []
  generalize plP j I [] = PS at *
  generalize pcP j I [] = C at *
  have hPl : PS.length ≤ 8000000 := Nat.le_trans hok.2 (by simp)
  have HC := hide (And.intro hX (And.intro hmay (And.intro hwant (And.intro hget (And.intro hok.1 hPl)))))
  clear hX hmay hwant hget hok hPl
  clear h
  generalize es.length = N at *
  go_enter Tryd.func16, Tryd.ntmps16
  go_wp2_with fail
  refine ((unhide HC).2.1 _).mono ?_
  rintro e wA ⟨rfl, rfl⟩
  go_wp2_with fail
  refine ((unhide HC).2.2.1 _ hF1).mono ?_
  rintro e w1 ⟨yo, yc, ts, rfl, hP1, hf1⟩
  obtain ⟨k0, k1, k2, k3, k4⟩ := (unhide HC).1 _ hf1
  have H1 := hide (And.intro hP1 (hF1.trans hf1 (fun _ _ h => h)))
  have HB1 := hide hf1
  clear hP1 hf1 hbx hF1
  generalize hPN : PS.length = PL at *
  have HPN := hide hPN
  clear hPN
  go_wp2_with fail
  refine ((unhide HC).2.2.2.1 _ (unhide H1).2).mono ?_
  rintro e w2 ⟨ao, cp, vs, rfl, hO2⟩
  obtain ⟨k0', k1', k2', k3', k4'⟩ := (unhide HC).1 _ ((unhide HB1).trans hO2.own.fr (fun _ _ h => h))
  have H2 := hide hO2
  clear hO2 k0 k1 k2 k3 k4
  go_wp2_with fail
  refine ((unhide HC).2.2.2.1 _ ((unhide H1).2.trans (unhide H2).own.fr (fun _ _ h => h))).mono ?_
  rintro e w3 ⟨bo, bc, us3, rfl, hO3⟩
  have H3 := hide hO3
  clear hO3 k0' k1' k2' k3' k4'
  go_wp2_with fail
  refine (held_T (unhide H2) (unhide H3) (unhide H1).1 C (unhide HC).2.2.2.2.1 (by rw [unhide HPN]; exact (unhide HC).2.2.2.2.2)).mono ?_
  rintro e w4 ⟨rfl, hF4⟩
  have H4 := hide ((unhide H1).2.trans hF4 (fun _ _ h => h))
  clear hF4
  go_wp2_with fail
  go_ret
  exact ⟨rfl, unhide H4⟩
set_option maxRecDepth 100000 in
set_option maxHeartbeats 1000000 in
theorem grow_p_lo (wi : Nat) (k : Int) (hw1 : 1 ≤ wi) (hw32 : wi ≤ 32) (hk : k < 0) (I : Int) (tb eb : Nat) (dO : Option Addr) (dc : Nat) (us : List Value) (es : List (List Nat)) (w0 w : World) (h : TS w0 w wi tb eb dO dc us es)  (eo po : Option Addr) (EN ec PN pc : Nat) :
    Calls Tryd.prog 16 #[.int .i64 wi, .pointer (some ⟨tb, 0, none⟩), .pointer (some ⟨eb, 0, none⟩), .agg #[.int .i64 4, .int .i64 I, .int .i64 k, .slice eo EN ec, .slice po PN pc]] w fun e w' => e = .returned (.bool true) ∧ Fr (fun _ => False) w w' := by
  have hnum := h.num
  have hcap := h.cap
  have hF1 : Fr (fun _ => False) w (w.alloc (.cells #[.int .i64 4, .int .i64 I, .int .i64 k, .slice eo EN ec, .slice po PN pc] 43)) := (Fr.refl _ _).alloc _
  have hX := fun w' (hf : Fr (fun _ => False) (w.alloc (.cells #[.int .i64 4, .int .i64 I, .int .i64 k, .slice eo EN ec, .slice po PN pc] 43)) w') => (box5s w _ _ _ _ _ _ _ rfl).1.fr0 hf
  unfold X5 at hX
  have hbx : (w.alloc (.cells #[.int .i64 4, .int .i64 I, .int .i64 k, .slice eo EN ec, .slice po PN pc] 43)).cell? ⟨eb, 0, none⟩ = some (.slice dO es.length dc) := (h.fr0 hF1).box
  have hmay := fun w' => may_yes wi w' (by omega) (by omega)
  have hwant := fun w' (hf : Fr (fun _ => False) w w') => gpathU wi I (.slice none 0 0) [] [] w' (h.gr.fr0 hf) (pcs_nil _) (fun _ he => by cases he) (by simp)
  have hget := fun w' (hf : Fr (fun _ => False) w w') => tpathU (h.fr0 hf) I k
  rw [smE_no (by omega)] at hget
  have hok := plP_ok wi I []
  generalize plP wi I [] = PS at *
  generalize pcP wi I [] = C at *
  have hPl : PS.length ≤ 8000000 := Nat.le_trans hok.2 (by simp)
  have HC := hide (And.intro hX (And.intro hmay (And.intro hwant (And.intro hget (And.intro hok.1 hPl)))))
  clear hX hmay hwant hget hok hPl
  clear h
  generalize es.length = N at *
  go_enter Tryd.func16, Tryd.ntmps16
  go_wp2_with fail
  refine ((unhide HC).2.1 _).mono ?_
  rintro e wA ⟨rfl, rfl⟩
  go_wp2_with fail
  refine ((unhide HC).2.2.1 _ hF1).mono ?_
  rintro e w1 ⟨yo, yc, ts, rfl, hP1, hf1⟩
  obtain ⟨k0, k1, k2, k3, k4⟩ := (unhide HC).1 _ hf1
  have H1 := hide (And.intro hP1 (hF1.trans hf1 (fun _ _ h => h)))
  have HB1 := hide hf1
  clear hP1 hf1 hbx hF1
  generalize hPN : PS.length = PL at *
  have HPN := hide hPN
  clear hPN
  go_wp2_with fail
  refine ((unhide HC).2.2.2.1 _ (unhide H1).2).mono ?_
  rintro e w2 ⟨ao, cp, vs, rfl, hO2⟩
  obtain ⟨k0', k1', k2', k3', k4'⟩ := (unhide HC).1 _ ((unhide HB1).trans hO2.own.fr (fun _ _ h => h))
  have H2 := hide hO2
  clear hO2 k0 k1 k2 k3 k4
  go_wp2_with fail
  refine ((unhide HC).2.2.2.1 _ ((unhide H1).2.trans (unhide H2).own.fr (fun _ _ h => h))).mono ?_
  rintro e w3 ⟨bo, bc, us3, rfl, hO3⟩
  have H3 := hide hO3
  clear hO3 k0' k1' k2' k3' k4'
  go_wp2_with fail
  refine (held_T (unhide H2) (unhide H3) (unhide H1).1 C (unhide HC).2.2.2.2.1 (by rw [unhide HPN]; exact (unhide HC).2.2.2.2.2)).mono ?_
  rintro e w4 ⟨rfl, hF4⟩
  have H4 := hide ((unhide H1).2.trans hF4 (fun _ _ h => h))
  clear hF4
  go_wp2_with fail
  go_ret
  exact ⟨rfl, unhide H4⟩
set_option maxRecDepth 100000 in
set_option maxHeartbeats 1000000 in
theorem grow_p_hi (wi : Nat) (k : Int) (hw1 : 1 ≤ wi) (hw32 : wi ≤ 32) (I : Int) (tb eb : Nat) (dO : Option Addr) (dc : Nat) (us : List Value) (es : List (List Nat)) (w0 w : World) (h : TS w0 w wi tb eb dO dc us es) (hk : (es.length : Int) < k) (eo po : Option Addr) (EN ec PN pc : Nat) :
    Calls Tryd.prog 16 #[.int .i64 wi, .pointer (some ⟨tb, 0, none⟩), .pointer (some ⟨eb, 0, none⟩), .agg #[.int .i64 4, .int .i64 I, .int .i64 k, .slice eo EN ec, .slice po PN pc]] w fun e w' => e = .returned (.bool true) ∧ Fr (fun _ => False) w w' := by
  have hnum := h.num
  have hcap := h.cap
  have hF1 : Fr (fun _ => False) w (w.alloc (.cells #[.int .i64 4, .int .i64 I, .int .i64 k, .slice eo EN ec, .slice po PN pc] 43)) := (Fr.refl _ _).alloc _
  have hX := fun w' (hf : Fr (fun _ => False) (w.alloc (.cells #[.int .i64 4, .int .i64 I, .int .i64 k, .slice eo EN ec, .slice po PN pc] 43)) w') => (box5s w _ _ _ _ _ _ _ rfl).1.fr0 hf
  unfold X5 at hX
  have hbx : (w.alloc (.cells #[.int .i64 4, .int .i64 I, .int .i64 k, .slice eo EN ec, .slice po PN pc] 43)).cell? ⟨eb, 0, none⟩ = some (.slice dO es.length dc) := (h.fr0 hF1).box
  have hmay := fun w' => may_yes wi w' (by omega) (by omega)
  have hwant := fun w' (hf : Fr (fun _ => False) w w') => gpathU wi I (.slice none 0 0) [] [] w' (h.gr.fr0 hf) (pcs_nil _) (fun _ he => by cases he) (by simp)
  have hget := fun w' (hf : Fr (fun _ => False) w w') => tpathU (h.fr0 hf) I k
  rw [smE_no (by omega)] at hget
  have hok := plP_ok wi I []
  generalize plP wi I [] = PS at *
  generalize pcP wi I [] = C at *
  have hPl : PS.length ≤ 8000000 := Nat.le_trans hok.2 (by simp)
  have HC := hide (And.intro hX (And.intro hmay (And.intro hwant (And.intro hget (And.intro hok.1 hPl)))))
  clear hX hmay hwant hget hok hPl
  have q0 : ¬ k < 0 := by omega
  have q1 : ¬ k ≤ (es.length : Int) := by omega
  have q3 : decide (k ≤ (es.length : Int)) = false := decide_eq_false q1
  clear h
  generalize es.length = N at *
  go_enter Tryd.func16, Tryd.ntmps16
  go_wp2_with fail
  refine ((unhide HC).2.1 _).mono ?_
  rintro e wA ⟨rfl, rfl⟩
  go_wp2_with fail
  refine ((unhide HC).2.2.1 _ hF1).mono ?_
  rintro e w1 ⟨yo, yc, ts, rfl, hP1, hf1⟩
  obtain ⟨k0, k1, k2, k3, k4⟩ := (unhide HC).1 _ hf1
  have H1 := hide (And.intro hP1 (hF1.trans hf1 (fun _ _ h => h)))
  have HB1 := hide hf1
  clear hP1 hf1 hbx hF1
  generalize hPN : PS.length = PL at *
  have HPN := hide hPN
  clear hPN
  go_wp2_with fail
  refine ((unhide HC).2.2.2.1 _ (unhide H1).2).mono ?_
  rintro e w2 ⟨ao, cp, vs, rfl, hO2⟩
  obtain ⟨k0', k1', k2', k3', k4'⟩ := (unhide HC).1 _ ((unhide HB1).trans hO2.own.fr (fun _ _ h => h))
  have H2 := hide hO2
  clear hO2 k0 k1 k2 k3 k4
  go_wp2_with fail
  refine ((unhide HC).2.2.2.1 _ ((unhide H1).2.trans (unhide H2).own.fr (fun _ _ h => h))).mono ?_
  rintro e w3 ⟨bo, bc, us3, rfl, hO3⟩
  have H3 := hide hO3
  clear hO3 k0' k1' k2' k3' k4'
  go_wp2_with fail
  refine (held_T (unhide H2) (unhide H3) (unhide H1).1 C (unhide HC).2.2.2.2.1 (by rw [unhide HPN]; exact (unhide HC).2.2.2.2.2)).mono ?_
  rintro e w4 ⟨rfl, hF4⟩
  have H4 := hide ((unhide H1).2.trans hF4 (fun _ _ h => h))
  clear hF4
  go_wp2_with fail
  go_ret
  exact ⟨rfl, unhide H4⟩
end Go.Proofs.YthccbfgjekdiiaaDoor

