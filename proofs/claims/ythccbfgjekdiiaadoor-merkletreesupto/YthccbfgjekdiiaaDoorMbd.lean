import Derived.Test.YthccbfgjekdiiaaDoorMbc
namespace Go.Proofs.YthccbfgjekdiiaaDoor
open Go.RowKit

/-- A tree in memory: its rows of roots, each in bytes of its own. -/
structure TrAt (w : World) (base tb : Nat) (wi : Int) (n : Nat) (xo : Option Addr) (cp : Nat) (vs : List Value) (rs : List (List Nat)) : Prop where
  lo : base ≤ tb
  obj : w.heap[tb]? = some (.cells #[.int .i64 wi, .int .i64 n, .slice xo vs.length cp] 72 (0, 0))
  own : w.ownsRow base 25 1 (.slice xo vs.length cp) vs.length vs
  len : vs.length = rs.length
  row : ∀ (h : Nat) v r, vs[h]? = some v → rs[h]? = some r → ∃ ao c, v = .slice ao r.length c ∧ Ow w base ao c r
  apart : ∀ (h h' : Nat) v v' g g', h ≠ h' → vs[h]? = some v → vs[h']? = some v' → v.ownBlock = some g → v'.ownBlock = some g' → g ≠ g'
  byt : ∀ r ∈ rs, ∀ v ∈ r, v < 256
/-- The blocks that a tree has. -/
def TOwn (tb : Nat) (xo : Option Addr) (vs : List Value) (k : Nat) : Prop := k = tb ∨ (∃ o, xo = some ⟨k, o, none⟩) ∨ ∃ v ∈ vs, v.ownBlock = some k
theorem TrAt.cells {w : World} {base tb : Nat} {wi : Int} {n : Nat} {xo : Option Addr} {cp : Nat} {vs : List Value} {rs : List (List Nat)} (h : TrAt w base tb wi n xo cp vs rs) :
    w.cell? ⟨tb, 0, none⟩ = some (.int .i64 wi) ∧ w.cell? ⟨tb, 1, none⟩ = some (.int .i64 n) ∧ w.cell? ⟨tb, 2, none⟩ = some (.slice xo vs.length cp) ∧ (∀ j, w.frozen? ⟨tb, j, none⟩ = false) ∧ tb < w.heap.size := by
  have ho := h.obj
  refine ⟨?_, ?_, ?_, fun j => ?_, (Array.getElem?_eq_some_iff.1 ho).1⟩
  · simp [World.cell?, ho]
  · simp [World.cell?, ho]
  · simp [World.cell?, ho]
  · simp [World.frozen?, ho]
/-- The whole's block is no other. -/
theorem TrAt.ne {w : World} {base tb : Nat} {wi : Int} {n : Nat} {xo : Option Addr} {cp : Nat} {vs : List Value} {rs : List (List Nat)} (h : TrAt w base tb wi n xo cp vs rs) :
    (∀ g o, xo = some ⟨g, o, none⟩ → g ≠ tb) ∧ (∀ v ∈ vs, ∀ g, v.ownBlock = some g → g ≠ tb ∧ ∀ g' o, xo = some ⟨g', o, none⟩ → g ≠ g') := by
  have ho := h.obj
  have hx : ∀ g o, xo = some ⟨g, o, none⟩ → ∃ cur, w.heap[g]? = some (.cells cur 25 (0, 0)) := by
    rintro g o rfl
    rcases h.own.2 with ⟨e, _⟩ | ⟨g', cap, cur, e, _, hg, _⟩
    · simp at e
    · simp only [Value.slice.injEq, Option.some.injEq, Addr.mk.injEq] at e
      rw [e.1.1]
      exact ⟨cur, hg⟩
  have hr : ∀ v ∈ vs, ∀ g, v.ownBlock = some g → ∃ cur, w.heap[g]? = some (.cells cur 5 (0, 0)) := by
    intro v hv g hg
    obtain ⟨j, hj, rfl⟩ := List.getElem_of_mem hv
    obtain ⟨ao, c, e, hO⟩ := h.row j vs[j] (rs[j]'(by have := h.len; omega)) (List.getElem?_eq_getElem hj) (List.getElem?_eq_getElem _)
    rcases hO.2 with ⟨e', _⟩ | ⟨g', cap, cur, e', _, hg', _⟩
    · rw [e, e'] at hg; cases hg
    · rw [e, e'] at hg
      simp only [Value.ownBlock, Option.some.injEq] at hg
      exact ⟨cur, by rw [← hg]; exact hg'⟩
  refine ⟨fun g o hg e => ?_, fun v hv g hg => ⟨fun e => ?_, fun g' o hg' e => ?_⟩⟩
  · obtain ⟨cur, hc⟩ := hx g o hg
    rw [e, ho] at hc
    simp at hc
  · obtain ⟨cur, hc⟩ := hr v hv g hg
    rw [e, ho] at hc
    simp at hc
  · obtain ⟨cur, hc⟩ := hr v hv g hg
    obtain ⟨cur', hc'⟩ := hx g' o hg'
    rw [e, hc'] at hc
    simp at hc
set_option maxRecDepth 100000 in
/-- merkle.New. -/
theorem mnew_any (i : Int) (w : World) : Calls Tryd.prog 15 #[.int .i64 i] w fun e w' => e = .returned (.pointer (some ⟨w.heap.size, 0, none⟩)) ∧ TrAt w' w.heap.size w.heap.size i 0 none 0 [] [] ∧ Fr (fun _ => False) w w' := by
  go_enter Tryd.func15, Tryd.ntmps15
  go_wp2_with fail
  go_ret
  refine ⟨rfl, ⟨Nat.le_refl _, ?_, World.ownsRow_nil _ _ _ _, rfl, fun h v r hv => by simp at hv, fun h h' v v' g g' _ hv => by simp at hv, fun r hr => by simp at hr⟩, (Fr.refl _ _).alloc _⟩
  show (w.heap.push _)[w.heap.size]? = _
  exact Array.getElem?_push_size
set_option maxRecDepth 100000 in
theorem maybe_any (i : Int) (w : World) : Calls Tryd.prog 26 #[.int .i64 i] w fun e w' => e = .returned (.bool (decide (1 ≤ i ∧ i ≤ 32))) ∧ w' = w := by
  obtain ⟨B, hB⟩ : ∃ B, decide (1 ≤ i ∧ i ≤ 32) = B := ⟨_, rfl⟩
  rw [hB]
  have HB := hide hB
  clear hB
  go_enter Tryd.func26, Tryd.ntmps26
  by_cases h1 : 1 ≤ i
  · by_cases h2 : i ≤ 32
    · go_wp2_with fail
      go_ret
      have hb : B = true := by rw [← unhide HB]; exact decide_eq_true (by omega)
      exact ⟨by rw [hb]; rfl, rfl⟩
    · go_wp2_with fail
      go_ret
      have hb : B = false := by rw [← unhide HB]; exact decide_eq_false (by omega)
      exact ⟨by rw [hb]; rfl, rfl⟩
  · go_wp2_with fail
    go_ret
    have hb : B = false := by rw [← unhide HB]; exact decide_eq_false (by omega)
    exact ⟨by rw [hb]; rfl, rfl⟩
set_option maxRecDepth 100000 in
set_option maxHeartbeats 1000000 in
/-- Tree.kept: the root of the jth 2^h entries, where it lies. -/
theorem kept_any (tb wb wc g h j wi H L cp J : Nat) (w : World) (c0 : w.cell? ⟨tb, 0, none⟩ = some (.int .i64 wi)) (c2 : w.cell? ⟨tb, 2, none⟩ = some (.slice (some ⟨wb, 0, none⟩) H wc))
    (ch : w.cell? ⟨wb, h, none⟩ = some (.slice (some ⟨g, 0, none⟩) L cp)) (hh : h < H) (hJ : j * wi = J) (hL : J + wi ≤ L) (hc : L ≤ cp) (hcap : L < 4611686018427387904) (hj : j < 4611686018427387904) (hwi : 1 ≤ wi) :
    Calls Tryd.prog 80 #[.pointer (some ⟨tb, 0, none⟩), .int .i64 h, .int .i64 j] w fun e w' => e = .returned (.slice (some ⟨g, J, none⟩) wi (cp - J)) ∧ ∃ q, w' = w.drewN q := by
  have hJi : (j : Int) * (wi : Int) = (J : Int) := by rw [← hJ]; simp
  have w1 : IntKind.i64.wrap ((j : Int) * (wi : Int)) = (J : Int) := by rw [hJi, IntKind.wrap_i64]; omega
  have w2 : IntKind.i64.wrap ((j : Int) + 1) = (j : Int) + 1 := by rw [IntKind.wrap_i64]; omega
  have hJ2 : ((j : Int) + 1) * (wi : Int) = ((J + wi : Nat) : Int) := by rw [Int.add_mul, hJi]; omega
  have w3 : IntKind.i64.wrap (((j : Int) + 1) * (wi : Int)) = ((J + wi : Nat) : Int) := by rw [hJ2, IntKind.wrap_i64]; omega
  have hhi : (h : Int) < (H : Int) := by omega
  have hne : ¬ cp = J := by omega
  clear hJi hJ2
  go_enter Tryd.func80, Tryd.ntmps80
  go_wp2_with fail
  go_quiet (fail)
  go_wp2_with fail
  go_ret
  refine ⟨?_, _, rfl⟩
  show Ending.returned (Value.slice (some ⟨g, J, none⟩) (J + wi - J) (cp - J)) = _
  rw [Nat.add_sub_cancel_left]
set_option maxRecDepth 100000 in
/-- Tree.has. -/
theorem has_any (tb n : Nat) (wi k : Int) (w : World) (c0 : w.cell? ⟨tb, 0, none⟩ = some (.int .i64 wi)) (c1 : w.cell? ⟨tb, 1, none⟩ = some (.int .i64 n)) :
    Calls Tryd.prog 48 #[.pointer (some ⟨tb, 0, none⟩), .int .i64 k] w fun e w' => e = .returned (.bool (decide (1 ≤ wi ∧ wi ≤ 32 ∧ 0 ≤ k ∧ k ≤ n))) ∧ w' = w := by
  obtain ⟨B, hB⟩ : ∃ B, decide (1 ≤ wi ∧ wi ≤ 32 ∧ 0 ≤ k ∧ k ≤ n) = B := ⟨_, rfl⟩
  rw [hB]
  have HB := hide hB
  clear hB
  go_enter Tryd.func48, Tryd.ntmps48
  by_cases h1 : 1 ≤ wi ∧ wi ≤ 32
  · have H1 := hide h1
    clear h1
    by_cases h2 : 0 ≤ k
    · by_cases h3 : k ≤ n
      · go_wp2_with (go_at_call 26; refine (maybe_any wi _).mono ?_; rintro e w' ⟨rfl, hw'⟩; rw [hw', decide_eq_true (unhide H1)])
        go_ret
        have hb : B = true := by rw [← unhide HB]; exact decide_eq_true (by have := unhide H1; omega)
        exact ⟨by rw [hb]; rfl, rfl⟩
      · go_wp2_with (go_at_call 26; refine (maybe_any wi _).mono ?_; rintro e w' ⟨rfl, hw'⟩; rw [hw', decide_eq_true (unhide H1)])
        go_ret
        have hb : B = false := by rw [← unhide HB]; exact decide_eq_false (by omega)
        exact ⟨by rw [hb]; exact congrArg (fun b => Ending.returned (Value.bool b)) (decide_eq_false (by omega)), rfl⟩
    · go_wp2_with (go_at_call 26; refine (maybe_any wi _).mono ?_; rintro e w' ⟨rfl, hw'⟩; rw [hw', decide_eq_true (unhide H1)])
      go_ret
      have hb : B = false := by rw [← unhide HB]; exact decide_eq_false (by omega)
      exact ⟨by rw [hb]; rfl, rfl⟩
  · have H1 := hide h1
    clear h1
    go_wp2_with (go_at_call 26; refine (maybe_any wi _).mono ?_; rintro e w' ⟨rfl, hw'⟩; rw [hw', decide_eq_false (unhide H1)])
    go_ret
    have hb : B = false := by rw [← unhide HB]; exact decide_eq_false (by have := unhide H1; omega)
    exact ⟨by rw [hb]; rfl, rfl⟩
set_option maxRecDepth 100000 in
/-- Tree.first. -/
theorem first_any (t : Option Addr) (k : Nat) (w : World) : Calls Tryd.prog 49 #[.pointer t, .int .i64 k] w fun e w' => e = .returned (pv (.pointer t) 0 k) ∧ Fr (fun _ => False) w w' := by
  unfold pv
  go_enter Tryd.func49, Tryd.ntmps49
  go_wp2_with fail
  go_returns
  exact ⟨rfl, (Fr.refl _ _).alloc _⟩
end Go.Proofs.YthccbfgjekdiiaaDoor
