import Derived.Test.YtjokmlnghpnlbaaDoorPk1
import Derived.Laws.StructEq
namespace Go.Proofs.YtjokmlnghpnlbaaDoor
open Go.RowKit

set_option maxRecDepth 100000 in
theorem troot_in (tb wi : Nat) (hw1 : 1 ≤ wi) (hw32 : wi ≤ 32) (L : List (List Nat)) (n : Nat) (w : World) (hT : Tk w tb wi L) (hn : n ≤ L.length) :
    Calls Tryd.prog 44 #[.pointer (some ⟨tb, 0, none⟩), .int .i64 n] w fun e w' => ∃ yo yc, e = .returned (.tuple #[.slice yo wi yc, .int .i64 0]) ∧ OB w w' yo yc (mth wi (blk L 0 n)) := by
  obtain ⟨c0, c1, htb⟩ := hT.c0
  have hhas : Calls Tryd.prog 69 #[.pointer (some ⟨tb, 0, none⟩), .int .i64 n] w fun e w' => e = .returned (.bool true) ∧ w' = w := by
    have := has_any tb L.length wi n w c0 c1
    rw [decide_eq_true (by omega)] at this
    exact this
  have hroot : ∀ w', Fr (fun _ => False) w w' → RootSays tb wi L 0 n w' := fun w' hf => root_any tb wi hw1 hw32 L n 0 n w' (Nat.le_refl _) (hT.fr0 hf) (al_zero n) (by omega)
  unfold RootSays at hroot
  have HG := hide (And.intro hhas hroot)
  clear hhas hroot hT c0 c1 htb
  go_enter Tryd.func44, Tryd.ntmps44
  go_wp2_with fail
  refine (unhide HG).1.mono ?_
  rintro e w0 ⟨rfl, rfl⟩
  go_wp2_with fail
  refine (first_any _ _ _).mono ?_
  rintro e w1 ⟨rfl, hF1⟩
  have H1 := hide hF1
  clear hF1
  go_wp2_with fail
  refine ((unhide HG).2 w1 (unhide H1)).mono ?_
  rintro e w2 ⟨yo, yc, rfl, hO⟩
  have H2 := hide (hO.base' (unhide H1))
  clear hO
  go_wp2_with fail
  go_returns
  exact ⟨yo, yc, rfl, unhide H2⟩
set_option maxRecDepth 100000 in
theorem troot_no (tb n : Nat) (wi k : Int) (w : World) (c0 : w.cell? ⟨tb, 0, none⟩ = some (.int .i64 wi)) (c1 : w.cell? ⟨tb, 1, none⟩ = some (.int .i64 n)) (h : ¬ (1 ≤ wi ∧ wi ≤ 32 ∧ 0 ≤ k ∧ k ≤ n)) :
    Calls Tryd.prog 44 #[.pointer (some ⟨tb, 0, none⟩), .int .i64 k] w fun e w' => e = .returned (.tuple #[.slice none 0 0, .int .i64 1]) ∧ w' = w := by
  have hhas : Calls Tryd.prog 69 #[.pointer (some ⟨tb, 0, none⟩), .int .i64 k] w fun e w' => e = .returned (.bool false) ∧ w' = w := by
    have := has_any tb n wi k w c0 c1
    rw [decide_eq_false h] at this
    exact this
  have HG := hide hhas
  clear hhas h c0 c1
  go_enter Tryd.func44, Tryd.ntmps44
  go_wp2_with fail
  refine (unhide HG).mono ?_
  rintro e w0 ⟨rfl, rfl⟩
  go_wp2_with fail
  go_returns
  exact ⟨rfl, rfl⟩
/-- A tree of entries. -/
theorem tk_of {w w' : World} {tb wi : Nat} (hw1 : 1 ≤ wi) (hw32 : wi ≤ 32) {es : List (List Nat)} {base : Nat} {xo : Option Addr} {cp : Nat} {vs : List Value} {rs : List (List Nat)} (hT : TrAt w' base tb wi es.length xo cp vs rs) (hR : RowsOf wi (es.map (lf wi)) 0 rs) (hg : GS w) (ht : GT w) (hf : Fr (fun _ => False) w w') (hn : es.length ≤ 8000000) : Tk w' tb wi (es.map (lf wi)) :=
  ⟨⟨base, xo, cp, vs, rs, by rw [List.length_map]; exact hT, hR⟩, hg.fr0 hf, ht.fr0 hf, map_lf_len wi hw1 hw32 es, fun p hp => by
    obtain ⟨e, _, rfl⟩ := List.mem_map.1 hp
    exact lf_lt _ _, by rw [List.length_map]; exact hn⟩
theorem dep_le (m : Nat) : ∀ f n tf tn, n ≤ m → dep f n tf tn ≤ n := by
  induction m with
  | zero => intro f n tf tn h; rw [dep, dif_pos (by omega)]; exact Nat.zero_le _
  | succ m ih =>
    intro f n tf tn h
    by_cases e : (f = tf ∧ n = tn) ∨ n < 2
    · rw [dep, dif_pos e]; exact Nat.zero_le _
    · have hlt := hf_lt n (by omega)
      have hp := hf_pos n
      by_cases hl : tf < f + hf n
      · rw [dep_l (by omega) (by omega) hl]
        have := ih f (hf n) tf tn (by omega)
        omega
      · rw [dep_r (by omega) (by omega) hl]
        have := ih (f + hf n) (n - hf n) tf tn (by omega)
        omega
end Go.Proofs.YtjokmlnghpnlbaaDoor

namespace Go.Proofs.YtjokmlnghpnlbaaDoor
open Go.RowKit

theorem Tryd.guard_span : Tryd.prog.eqGuardType Tryd.prog.depth 92 = false := by kernel_rfl
theorem Tryd.held_span : Tryd.prog.stoodInHeld 92 = false := by kernel_rfl
theorem Tryd.fields_span : Tryd.prog.underlying 92 = some (.struct (Tryd.prog.fieldsOf 92)) := by kernel_rfl
/-- Are two spans the same? -/
theorem eq_span (f n g m : Nat) (w : World) : (binOp .eql 92 (.agg #[.int .i64 f, .int .i64 n]) (.agg #[.int .i64 g, .int .i64 m])).run Tryd.prog w = .ok (.bool (decide (f = g ∧ n = m))) w := by
  rw [run_eql_struct, show (10000 : Nat) = 9999 + 1 from rfl, run_equalIn_agg _ 9999 _ _ _ Tryd.fields_span Tryd.held_span]
  have ig : ((f : Int) == (g : Int)) = decide (f = g) := by
    by_cases h : f = g
    · simp [h]
    · simp [h]; omega
  have im : ((n : Int) == (m : Int)) = decide (n = m) := by
    by_cases h : n = m
    · simp [h]
    · simp [h]; omega
  simp [Program.fieldsOf, Tryd.underlying92, Op.eqFields, go_sem, ig, im]
  by_cases h1 : f = g
  · by_cases h2 : n = m
    · simp [h1, h2]
    · simp [h1, h2]
  · simp [h1]
theorem two2 (w : World) (a0 a1 b0 b1 : Value) (ty : Nat) (W : World) (hW : (w.alloc (.cells #[a0, a1] ty)).alloc (.cells #[b0, b1] ty) = W) :
    W.cell? ⟨w.heap.size, 0, none⟩ = some a0 ∧ W.cell? ⟨w.heap.size, 1, none⟩ = some a1 ∧ W.cell? ⟨w.heap.size + 1, 0, none⟩ = some b0 ∧ W.cell? ⟨w.heap.size + 1, 1, none⟩ = some b1 ∧ Fr (fun _ => False) w W := by
  subst hW
  have e1 : w.heap.size + 1 = (w.alloc (.cells #[a0, a1] ty)).heap.size := by simp
  have A : ∀ j : Nat, ((w.alloc (.cells #[a0, a1] ty)).alloc (.cells #[b0, b1] ty)).cell? ⟨w.heap.size, j, none⟩ = (#[a0, a1] : Array Value)[j]? := fun j => by
    rw [World.cell?_alloc_past _ _ _ (by simp), World.cell?_alloc_at _ _ _ _ rfl]
  have B : ∀ j : Nat, ((w.alloc (.cells #[a0, a1] ty)).alloc (.cells #[b0, b1] ty)).cell? ⟨w.heap.size + 1, j, none⟩ = (#[b0, b1] : Array Value)[j]? := fun j => by
    rw [e1, World.cell?_alloc_at _ _ _ _ rfl]
  exact ⟨A 0, A 1, B 0, B 1, ((Fr.refl _ _).alloc _).alloc _⟩
def DepSays (f n tf tn : Nat) (w : World) : Prop := Calls Tryd.prog 93 #[sv f n, sv tf tn] w fun e w' => e = .returned (.int .i64 (dep f n tf tn : Nat)) ∧ Fr (fun _ => False) w w'
set_option maxRecDepth 100000 in
set_option maxHeartbeats 1000000 in
theorem depth_any (m : Nat) : ∀ (f n tf tn : Nat) (w : World), n ≤ m → f + n < 9223372036854775808 → Rch f n tf tn → DepSays f n tf tn w := by
  induction m with
  | zero =>
    intro f n tf tn w hm hb hr
    by_cases e : f = tf ∧ n = tn
    · obtain ⟨rfl, rfl⟩ := e
      unfold DepSays sv
      rw [dep_eq]
      have eqs := fun w => eq_span f n f n w
      simp only [decide_true, and_self] at eqs
      have eg := Tryd.guard_span
      go_enter Tryd.func93, Tryd.ntmps93
      go_wp2_with fail
      go_ret
      exact ⟨rfl, ((Fr.refl _ _).alloc _).alloc _⟩
    · have := (rch_ne hr e).1; omega
  | succ m ih =>
    intro f n tf tn w hm hb hr
    by_cases e : f = tf ∧ n = tn
    · obtain ⟨rfl, rfl⟩ := e
      unfold DepSays sv
      rw [dep_eq]
      have eqs := fun w => eq_span f n f n w
      simp only [decide_true, and_self] at eqs
      have eg := Tryd.guard_span
      go_enter Tryd.func93, Tryd.ntmps93
      go_wp2_with fail
      go_ret
      exact ⟨rfl, ((Fr.refl _ _).alloc _).alloc _⟩
    · obtain ⟨h2, r1, r2⟩ := rch_ne hr e
      have hlt := hf_lt n h2
      have hp := hf_pos n
      have eqs := fun w => eq_span f n tf tn w
      rw [decide_eq_false e] at eqs
      have eg := Tryd.guard_span
      have hhv := fun w => halves_any f n w hb h2
      have hbf := fun w => before_any tf tn (f + hf n) (n - hf n) w
      by_cases hl : tf < f + hf n
      · rw [decide_eq_true hl] at hbf
        have hrec := fun w => ih f (hf n) tf tn w (by omega) (by omega) (r1 hl)
        have hdl := dep_le _ f (hf n) tf tn (Nat.le_refl _)
        unfold DepSays at hrec ⊢
        rw [dep_l h2 e hl]
        generalize dep f (hf n) tf tn = D at *
        have w1 : IntKind.i64.wrap (1 + (D : Int)) = 1 + (D : Int) := by rw [IntKind.wrap_i64]; omega
        have hD : ((D + 1 : Nat) : Int) = 1 + (D : Int) := by omega
        rw [hD]
        clear hD hdl
        generalize f + hf n = F2 at *
        generalize n - hf n = N2 at *
        generalize hf n = K at *
        have HC := hide (And.intro hhv (And.intro hbf hrec))
        clear hhv hbf hrec r1 r2 hr ih hlt hp hl hb hm h2 e
        unfold sv at HC ⊢
        go_enter Tryd.func93, Tryd.ntmps93
        go_wp2_with fail
        obtain ⟨W0, hW0⟩ : ∃ W0, (w.alloc (.cells #[.int .i64 f, .int .i64 n] 92)).alloc (.cells #[.int .i64 tf, .int .i64 tn] 92) = W0 := ⟨_, rfl⟩
        rw [hW0]
        obtain ⟨-, -, b0, b1, hF0⟩ := two2 w _ _ _ _ _ W0 hW0
        refine ((unhide HC).1 _).mono ?_
        rintro e' wA ⟨rfl, hFA⟩
        have c0 := (hFA.cell (lt_of_cell b0) (fun h => h)).trans b0
        have c1 := (hFA.cell (lt_of_cell b1) (fun h => h)).trans b1
        have HF := hide (hF0.trans hFA (fun _ _ h => h))
        clear hFA hF0 b0 b1 hW0
        generalize w.heap.size + 1 = PB at *
        have l0 : PB < wA.heap.size := lt_of_cell c0
        have l1 : PB < wA.heap.size + 1 := Nat.lt_succ_of_lt l0
        go_wp2_with fail
        obtain ⟨W1, hW1⟩ : ∃ W1, (wA.alloc (.cells #[.int .i64 f, .int .i64 K] 92)).alloc (.cells #[.int .i64 F2, .int .i64 N2] 92) = W1 := ⟨_, rfl⟩
        rw [hW1]
        obtain ⟨x0, x1, y0, y1, hF1⟩ := two2 wA _ _ _ _ _ W1 hW1
        refine ((unhide HC).2.1 _).mono ?_
        rintro e' wB ⟨rfl, hFB⟩
        have hF1B := hF1.trans hFB (fun _ _ h => h)
        have d0 := (hF1B.cell (lt_of_cell c0) (fun h => h)).trans c0
        have d1 := (hF1B.cell (lt_of_cell c1) (fun h => h)).trans c1
        have z0 := (hFB.cell (lt_of_cell x0) (fun h => h)).trans x0
        have z1 := (hFB.cell (lt_of_cell x1) (fun h => h)).trans x1
        have HF2 := hide ((unhide HF).trans hF1B (fun _ _ h => h))
        clear hF1 hFB hF1B hW1 x0 x1 y0 y1 c0 c1 HF
        generalize wA.heap.size = Z at *
        go_wp2_with fail
        refine ((unhide HC).2.2 _).mono ?_
        rintro e' wC ⟨rfl, hFC⟩
        have HF3 := hide ((unhide HF2).trans hFC (fun _ _ h => h))
        clear hFC
        go_wp2_with fail
        go_ret
        exact ⟨rfl, unhide HF3⟩
      · rw [decide_eq_false hl] at hbf
        have hrec := fun w => ih (f + hf n) (n - hf n) tf tn w (by omega) (by omega) (r2 hl)
        have hdl := dep_le _ (f + hf n) (n - hf n) tf tn (Nat.le_refl _)
        unfold DepSays at hrec ⊢
        rw [dep_r h2 e hl]
        generalize dep (f + hf n) (n - hf n) tf tn = D at *
        have w1 : IntKind.i64.wrap (1 + (D : Int)) = 1 + (D : Int) := by rw [IntKind.wrap_i64]; omega
        have hD : ((D + 1 : Nat) : Int) = 1 + (D : Int) := by omega
        rw [hD]
        clear hD hdl
        generalize f + hf n = F2 at *
        generalize n - hf n = N2 at *
        generalize hf n = K at *
        have HC := hide (And.intro hhv (And.intro hbf hrec))
        clear hhv hbf hrec r1 r2 hr ih hlt hp hl hb hm h2 e
        unfold sv at HC ⊢
        go_enter Tryd.func93, Tryd.ntmps93
        go_wp2_with fail
        obtain ⟨W0, hW0⟩ : ∃ W0, (w.alloc (.cells #[.int .i64 f, .int .i64 n] 92)).alloc (.cells #[.int .i64 tf, .int .i64 tn] 92) = W0 := ⟨_, rfl⟩
        rw [hW0]
        obtain ⟨-, -, b0, b1, hF0⟩ := two2 w _ _ _ _ _ W0 hW0
        refine ((unhide HC).1 _).mono ?_
        rintro e' wA ⟨rfl, hFA⟩
        have c0 := (hFA.cell (lt_of_cell b0) (fun h => h)).trans b0
        have c1 := (hFA.cell (lt_of_cell b1) (fun h => h)).trans b1
        have HF := hide (hF0.trans hFA (fun _ _ h => h))
        clear hFA hF0 b0 b1 hW0
        generalize w.heap.size + 1 = PB at *
        have l0 : PB < wA.heap.size := lt_of_cell c0
        have l1 : PB < wA.heap.size + 1 := Nat.lt_succ_of_lt l0
        go_wp2_with fail
        obtain ⟨W1, hW1⟩ : ∃ W1, (wA.alloc (.cells #[.int .i64 f, .int .i64 K] 92)).alloc (.cells #[.int .i64 F2, .int .i64 N2] 92) = W1 := ⟨_, rfl⟩
        rw [hW1]
        obtain ⟨x0, x1, y0, y1, hF1⟩ := two2 wA _ _ _ _ _ W1 hW1
        refine ((unhide HC).2.1 _).mono ?_
        rintro e' wB ⟨rfl, hFB⟩
        have hF1B := hF1.trans hFB (fun _ _ h => h)
        have d0 := (hF1B.cell (lt_of_cell c0) (fun h => h)).trans c0
        have d1 := (hF1B.cell (lt_of_cell c1) (fun h => h)).trans c1
        have z0 := (hFB.cell (lt_of_cell y0) (fun h => h)).trans y0
        have z1 := (hFB.cell (lt_of_cell y1) (fun h => h)).trans y1
        have HF2 := hide ((unhide HF).trans hF1B (fun _ _ h => h))
        clear hF1 hFB hF1B hW1 x0 x1 y0 y1 c0 c1 HF
        generalize wA.heap.size + 1 = Z at *
        go_wp2_with fail
        refine ((unhide HC).2.2 _).mono ?_
        rintro e' wC ⟨rfl, hFC⟩
        have HF3 := hide ((unhide HF2).trans hFC (fun _ _ h => h))
        clear hFC
        go_wp2_with fail
        go_ret
        exact ⟨rfl, unhide HF3⟩
end Go.Proofs.YtjokmlnghpnlbaaDoor

namespace Go.Proofs.YtjokmlnghpnlbaaDoor
open Go.RowKit

/-- A claim. -/
def cv (wi tf tn : Nat) (rv x : Value) : Value := .agg #[.int .i64 wi, .int .i64 tf, .int .i64 tn, rv, x]
theorem box52 (w : World) (a0 a1 a2 a3 a4 b0 b1 : Value) (ta tb : Nat) (W : World) (hW : (w.alloc (.cells #[a0, a1, a2, a3, a4] ta)).alloc (.cells #[b0, b1] tb) = W) :
    (W.cell? ⟨w.heap.size, 0, none⟩ = some a0 ∧ W.cell? ⟨w.heap.size, 1, none⟩ = some a1 ∧ W.cell? ⟨w.heap.size, 2, none⟩ = some a2 ∧ W.cell? ⟨w.heap.size, 3, none⟩ = some a3 ∧ W.cell? ⟨w.heap.size, 4, none⟩ = some a4) ∧ W.cell? ⟨w.heap.size + 1, 0, none⟩ = some b0 ∧ W.cell? ⟨w.heap.size + 1, 1, none⟩ = some b1 ∧ Fr (fun _ => False) w W := by
  subst hW
  have e1 : w.heap.size + 1 = (w.alloc (.cells #[a0, a1, a2, a3, a4] ta)).heap.size := by simp
  have A : ∀ j : Nat, ((w.alloc (.cells #[a0, a1, a2, a3, a4] ta)).alloc (.cells #[b0, b1] tb)).cell? ⟨w.heap.size, j, none⟩ = (#[a0, a1, a2, a3, a4] : Array Value)[j]? := fun j => by
    rw [World.cell?_alloc_past _ _ _ (by simp), World.cell?_alloc_at _ _ _ _ rfl]
  have B : ∀ j : Nat, ((w.alloc (.cells #[a0, a1, a2, a3, a4] ta)).alloc (.cells #[b0, b1] tb)).cell? ⟨w.heap.size + 1, j, none⟩ = (#[b0, b1] : Array Value)[j]? := fun j => by
    rw [e1, World.cell?_alloc_at _ _ _ _ rfl]
  exact ⟨⟨A 0, A 1, A 2, A 3, A 4⟩, B 0, B 1, ((Fr.refl _ _).alloc _).alloc _⟩
theorem box5 (w : World) (a0 a1 a2 a3 a4 : Value) (ta : Nat) (W : World) (hW : w.alloc (.cells #[a0, a1, a2, a3, a4] ta) = W) :
    (W.cell? ⟨w.heap.size, 0, none⟩ = some a0 ∧ W.cell? ⟨w.heap.size, 1, none⟩ = some a1 ∧ W.cell? ⟨w.heap.size, 2, none⟩ = some a2 ∧ W.cell? ⟨w.heap.size, 3, none⟩ = some a3 ∧ W.cell? ⟨w.heap.size, 4, none⟩ = some a4) ∧ Fr (fun _ => False) w W := by
  subst hW
  have A : ∀ j : Nat, (w.alloc (.cells #[a0, a1, a2, a3, a4] ta)).cell? ⟨w.heap.size, j, none⟩ = (#[a0, a1, a2, a3, a4] : Array Value)[j]? := fun j => by
    rw [World.cell?_alloc_at _ _ _ _ rfl]
  exact ⟨⟨A 0, A 1, A 2, A 3, A 4⟩, (Fr.refl _ _).alloc _⟩
set_option maxRecDepth 100000 in
set_option maxHeartbeats 1000000 in
theorem inner_any (wi tf tn N xc g o : Nat) (ro : Option Addr) (rn rc : Nat) (v : Value) (w : World) (hc : w.cell? ⟨g, o + N, none⟩ = some v) (hcp : N + 1 ≤ xc) (hN : N < 9223372036854775807) (hv : ∃ a n c, v = .slice a n c) :
    Calls Tryd.prog 100 #[cv wi tf tn (.slice ro rn rc) (.slice (some ⟨g, o, none⟩) (N + 1) xc)] w fun e w' => e = .returned (.tuple #[cv wi tf tn (.slice ro rn rc) (.slice (some ⟨g, o, none⟩) N xc), v]) ∧ Fr (fun _ => False) w w' := by
  obtain ⟨a, n, c, rfl⟩ := hv
  unfold cv
  have w1 : IntKind.i64.wrap ((N : Int) + 1 - 1) = (N : Int) := by rw [IntKind.wrap_i64]; omega
  have hgl : g < w.heap.size := lt_of_cell hc
  have hgl1 : g < w.heap.size + 1 := Nat.lt_succ_of_lt hgl
  have q1 : (N : Int) < (N : Int) + 1 := by omega
  have q2 : (N : Int) ≤ (xc : Int) := by omega
  go_enter Tryd.func100, Tryd.ntmps100
  go_wp2_with fail
  go_returns
  exact ⟨rfl, ((Fr.refl _ _).alloc _).alloc _⟩
set_option maxRecDepth 100000 in
set_option maxHeartbeats 1000000 in
theorem sides_l (wi tf tn f n N xc g o : Nat) (ro : Option Addr) (rn rc : Nat) (v : Value) (w : World) (hc : w.cell? ⟨g, o + N, none⟩ = some v) (hcp : N + 1 ≤ xc) (hN : N < 9223372036854775807) (hv : ∃ a n c, v = .slice a n c) (h2 : 2 ≤ n) (hb : f + n < 9223372036854775808) (hl : tf < f + hf n) (M : List Nat)
    (ht : ∀ w', Fr (fun _ => False) w w' → Calls Tryd.prog 79 #[cv wi tf tn (.slice ro rn rc) (.slice (some ⟨g, o, none⟩) N xc), sv f (hf n)] w' fun e w'' => ∃ uo un uc, e = .returned (.slice uo un uc) ∧ Sl w'' (.slice uo un uc) M ∧ Fr (fun _ => False) w' w'') :
    Calls Tryd.prog 94 #[cv wi tf tn (.slice ro rn rc) (.slice (some ⟨g, o, none⟩) (N + 1) xc), sv f n] w fun e w' => ∃ uo un uc, e = .returned (.tuple #[.slice uo un uc, v]) ∧ Sl w' (.slice uo un uc) M ∧ Fr (fun _ => False) w w' := by
  obtain ⟨va, vn, vc, rfl⟩ := hv
  have hin := fun (w' : World) (hf : Fr (fun _ => False) w w') => inner_any wi tf tn N xc g o ro rn rc (.slice va vn vc) w' ((hf.cell (lt_of_cell hc) (fun h => h)).trans hc) hcp hN ⟨_, _, _, rfl⟩
  have hhv := fun w => halves_any f n w hb h2
  have hbf := fun w => before_any tf tn (f + hf n) (n - hf n) w
  rw [decide_eq_true hl] at hbf
  clear hl hc hcp hN hb h2
  generalize f + hf n = F2 at *
  generalize n - hf n = N2 at *
  generalize hf n = K at *
  have HC := hide (And.intro hhv (And.intro hbf (And.intro hin ht)))
  clear hhv hbf hin ht
  unfold sv cv at *
  go_enter Tryd.func94, Tryd.ntmps94
  go_wp2_with fail
  obtain ⟨W0, hW0⟩ : ∃ W0, (w.alloc (.cells #[.int .i64 wi, .int .i64 tf, .int .i64 tn, .slice ro rn rc, .slice (some ⟨g, o, none⟩) (N + 1) xc] 99)).alloc (.cells #[.int .i64 f, .int .i64 n] 92) = W0 := ⟨_, rfl⟩
  rw [hW0]
  obtain ⟨⟨a0, a1, a2, a3, a4⟩, -, -, hF0⟩ := box52 w _ _ _ _ _ _ _ _ _ W0 hW0
  refine ((unhide HC).1 _).mono ?_
  rintro e' wA ⟨rfl, hFA⟩
  have b0 := (hFA.cell (lt_of_cell a0) (fun h => h)).trans a0
  have b1 := (hFA.cell (lt_of_cell a1) (fun h => h)).trans a1
  have b2 := (hFA.cell (lt_of_cell a2) (fun h => h)).trans a2
  have b3 := (hFA.cell (lt_of_cell a3) (fun h => h)).trans a3
  have b4 := (hFA.cell (lt_of_cell a4) (fun h => h)).trans a4
  have HF := hide (hF0.trans hFA (fun _ _ h => h))
  clear hFA hF0 a0 a1 a2 a3 a4 hW0
  generalize w.heap.size = P at *
  have l0 : P < wA.heap.size := lt_of_cell b0
  have l1 : P < wA.heap.size + 1 := Nat.lt_succ_of_lt l0
  go_wp2_with fail
  obtain ⟨W1, hW1⟩ : ∃ W1, (wA.alloc (.cells #[.int .i64 f, .int .i64 K] 92)).alloc (.cells #[.int .i64 F2, .int .i64 N2] 92) = W1 := ⟨_, rfl⟩
  rw [hW1]
  obtain ⟨x0, x1, y0, y1, hF1⟩ := two2 wA _ _ _ _ _ W1 hW1
  refine ((unhide HC).2.2.1 _ ((unhide HF).trans hF1 (fun _ _ h => h))).mono ?_
  rintro e' wB ⟨rfl, hFB⟩
  have hF1B := hF1.trans hFB (fun _ _ h => h)
  have c1 := (hF1B.cell (lt_of_cell b1) (fun h => h)).trans b1
  have c2 := (hF1B.cell (lt_of_cell b2) (fun h => h)).trans b2
  have u0 := (hFB.cell (lt_of_cell x0) (fun h => h)).trans x0
  have u1 := (hFB.cell (lt_of_cell x1) (fun h => h)).trans x1
  have v0 := (hFB.cell (lt_of_cell y0) (fun h => h)).trans y0
  have v1 := (hFB.cell (lt_of_cell y1) (fun h => h)).trans y1
  have HF2 := hide ((unhide HF).trans hF1B (fun _ _ h => h))
  clear hF1 hFB hF1B hW1 x0 x1 y0 y1 b0 b1 b2 b3 b4 HF l0 l1
  generalize wA.heap.size = Z at *
  have k0 : P < wB.heap.size := lt_of_cell c1
  have k1 : Z < wB.heap.size := lt_of_cell u0
  have k2 : Z + 1 < wB.heap.size := lt_of_cell v0
  go_wp2_with fail
  obtain ⟨W2, hW2⟩ : ∃ W2, wB.alloc (.cells #[.int .i64 wi, .int .i64 tf, .int .i64 tn, .slice ro rn rc, .slice (some ⟨g, o, none⟩) N xc] 99) = W2 := ⟨_, rfl⟩
  rw [hW2]
  obtain ⟨⟨p0, p1, p2, p3, p4⟩, hF3⟩ := box5 wB _ _ _ _ _ _ W2 hW2
  refine ((unhide HC).2.1 _).mono ?_
  rintro e' wC ⟨rfl, hFC⟩
  have hF3C := hF3.trans hFC (fun _ _ h => h)
  have q0 := (hFC.cell (lt_of_cell p0) (fun h => h)).trans p0
  have q1 := (hFC.cell (lt_of_cell p1) (fun h => h)).trans p1
  have q2 := (hFC.cell (lt_of_cell p2) (fun h => h)).trans p2
  have q3 := (hFC.cell (lt_of_cell p3) (fun h => h)).trans p3
  have q4 := (hFC.cell (lt_of_cell p4) (fun h => h)).trans p4
  have m0 := (hF3C.cell (lt_of_cell u0) (fun h => h)).trans u0
  have m1 := (hF3C.cell (lt_of_cell u1) (fun h => h)).trans u1
  have HF4 := hide ((unhide HF2).trans hF3C (fun _ _ h => h))
  clear hF3 hFC hF3C hW2 p0 p1 p2 p3 p4 HF2 u0 u1 v0 v1 c1 c2 k0 k1 k2
  generalize wB.heap.size = Y at *
  go_wp2_with fail
  refine ((unhide HC).2.2.2 _ (unhide HF4)).mono ?_
  rintro e' wD ⟨uo, un, uc, rfl, hS, hFD⟩
  have HD := hide (And.intro hS ((unhide HF4).trans hFD (fun _ _ h => h)))
  clear hS hFD
  go_wp2_with fail
  go_returns
  exact ⟨uo, un, uc, rfl, (unhide HD).1, (unhide HD).2⟩
set_option maxRecDepth 100000 in
set_option maxHeartbeats 1000000 in
theorem sides_r (wi tf tn f n N xc g o : Nat) (ro : Option Addr) (rn rc : Nat) (v : Value) (w : World) (hc : w.cell? ⟨g, o + N, none⟩ = some v) (hcp : N + 1 ≤ xc) (hN : N < 9223372036854775807) (hv : ∃ a n c, v = .slice a n c) (h2 : 2 ≤ n) (hb : f + n < 9223372036854775808) (hl : ¬ tf < f + hf n) (M : List Nat)
    (ht : ∀ w', Fr (fun _ => False) w w' → Calls Tryd.prog 79 #[cv wi tf tn (.slice ro rn rc) (.slice (some ⟨g, o, none⟩) N xc), sv (f + hf n) (n - hf n)] w' fun e w'' => ∃ uo un uc, e = .returned (.slice uo un uc) ∧ Sl w'' (.slice uo un uc) M ∧ Fr (fun _ => False) w' w'') :
    Calls Tryd.prog 94 #[cv wi tf tn (.slice ro rn rc) (.slice (some ⟨g, o, none⟩) (N + 1) xc), sv f n] w fun e w' => ∃ uo un uc, e = .returned (.tuple #[v, .slice uo un uc]) ∧ Sl w' (.slice uo un uc) M ∧ Fr (fun _ => False) w w' := by
  obtain ⟨va, vn, vc, rfl⟩ := hv
  have hin := fun (w' : World) (hf : Fr (fun _ => False) w w') => inner_any wi tf tn N xc g o ro rn rc (.slice va vn vc) w' ((hf.cell (lt_of_cell hc) (fun h => h)).trans hc) hcp hN ⟨_, _, _, rfl⟩
  have hhv := fun w => halves_any f n w hb h2
  have hbf := fun w => before_any tf tn (f + hf n) (n - hf n) w
  rw [decide_eq_false hl] at hbf
  clear hl hc hcp hN hb h2
  generalize f + hf n = F2 at *
  generalize n - hf n = N2 at *
  generalize hf n = K at *
  have HC := hide (And.intro hhv (And.intro hbf (And.intro hin ht)))
  clear hhv hbf hin ht
  unfold sv cv at *
  go_enter Tryd.func94, Tryd.ntmps94
  go_wp2_with fail
  obtain ⟨W0, hW0⟩ : ∃ W0, (w.alloc (.cells #[.int .i64 wi, .int .i64 tf, .int .i64 tn, .slice ro rn rc, .slice (some ⟨g, o, none⟩) (N + 1) xc] 99)).alloc (.cells #[.int .i64 f, .int .i64 n] 92) = W0 := ⟨_, rfl⟩
  rw [hW0]
  obtain ⟨⟨a0, a1, a2, a3, a4⟩, -, -, hF0⟩ := box52 w _ _ _ _ _ _ _ _ _ W0 hW0
  refine ((unhide HC).1 _).mono ?_
  rintro e' wA ⟨rfl, hFA⟩
  have b0 := (hFA.cell (lt_of_cell a0) (fun h => h)).trans a0
  have b1 := (hFA.cell (lt_of_cell a1) (fun h => h)).trans a1
  have b2 := (hFA.cell (lt_of_cell a2) (fun h => h)).trans a2
  have b3 := (hFA.cell (lt_of_cell a3) (fun h => h)).trans a3
  have b4 := (hFA.cell (lt_of_cell a4) (fun h => h)).trans a4
  have HF := hide (hF0.trans hFA (fun _ _ h => h))
  clear hFA hF0 a0 a1 a2 a3 a4 hW0
  generalize w.heap.size = P at *
  have l0 : P < wA.heap.size := lt_of_cell b0
  have l1 : P < wA.heap.size + 1 := Nat.lt_succ_of_lt l0
  go_wp2_with fail
  obtain ⟨W1, hW1⟩ : ∃ W1, (wA.alloc (.cells #[.int .i64 f, .int .i64 K] 92)).alloc (.cells #[.int .i64 F2, .int .i64 N2] 92) = W1 := ⟨_, rfl⟩
  rw [hW1]
  obtain ⟨x0, x1, y0, y1, hF1⟩ := two2 wA _ _ _ _ _ W1 hW1
  refine ((unhide HC).2.2.1 _ ((unhide HF).trans hF1 (fun _ _ h => h))).mono ?_
  rintro e' wB ⟨rfl, hFB⟩
  have hF1B := hF1.trans hFB (fun _ _ h => h)
  have c1 := (hF1B.cell (lt_of_cell b1) (fun h => h)).trans b1
  have c2 := (hF1B.cell (lt_of_cell b2) (fun h => h)).trans b2
  have u0 := (hFB.cell (lt_of_cell x0) (fun h => h)).trans x0
  have u1 := (hFB.cell (lt_of_cell x1) (fun h => h)).trans x1
  have v0 := (hFB.cell (lt_of_cell y0) (fun h => h)).trans y0
  have v1 := (hFB.cell (lt_of_cell y1) (fun h => h)).trans y1
  have HF2 := hide ((unhide HF).trans hF1B (fun _ _ h => h))
  clear hF1 hFB hF1B hW1 x0 x1 y0 y1 b0 b1 b2 b3 b4 HF l0 l1
  generalize wA.heap.size = Z at *
  have k0 : P < wB.heap.size := lt_of_cell c1
  have k1 : Z < wB.heap.size := lt_of_cell u0
  have k2 : Z + 1 < wB.heap.size := lt_of_cell v0
  go_wp2_with fail
  obtain ⟨W2, hW2⟩ : ∃ W2, wB.alloc (.cells #[.int .i64 wi, .int .i64 tf, .int .i64 tn, .slice ro rn rc, .slice (some ⟨g, o, none⟩) N xc] 99) = W2 := ⟨_, rfl⟩
  rw [hW2]
  obtain ⟨⟨p0, p1, p2, p3, p4⟩, hF3⟩ := box5 wB _ _ _ _ _ _ W2 hW2
  refine ((unhide HC).2.1 _).mono ?_
  rintro e' wC ⟨rfl, hFC⟩
  have hF3C := hF3.trans hFC (fun _ _ h => h)
  have q0 := (hFC.cell (lt_of_cell p0) (fun h => h)).trans p0
  have q1 := (hFC.cell (lt_of_cell p1) (fun h => h)).trans p1
  have q2 := (hFC.cell (lt_of_cell p2) (fun h => h)).trans p2
  have q3 := (hFC.cell (lt_of_cell p3) (fun h => h)).trans p3
  have q4 := (hFC.cell (lt_of_cell p4) (fun h => h)).trans p4
  have m0 := (hF3C.cell (lt_of_cell v0) (fun h => h)).trans v0
  have m1 := (hF3C.cell (lt_of_cell v1) (fun h => h)).trans v1
  have HF4 := hide ((unhide HF2).trans hF3C (fun _ _ h => h))
  clear hF3 hFC hF3C hW2 p0 p1 p2 p3 p4 HF2 u0 u1 v0 v1 c1 c2 k0 k1 k2
  generalize wB.heap.size = Y at *
  go_wp2_with fail
  refine ((unhide HC).2.2.2 _ (unhide HF4)).mono ?_
  rintro e' wD ⟨uo, un, uc, rfl, hS, hFD⟩
  have HD := hide (And.intro hS ((unhide HF4).trans hFD (fun _ _ h => h)))
  clear hS hFD
  go_wp2_with fail
  go_returns
  exact ⟨uo, un, uc, rfl, (unhide HD).1, (unhide HD).2⟩
end Go.Proofs.YtjokmlnghpnlbaaDoor

namespace Go.Proofs.YtjokmlnghpnlbaaDoor
open Go.RowKit

theorem topv_wid (wi : Nat) (hw1 : 1 ≤ wi) (hw32 : wi ≤ 32) (r : List Nat) (hr : r.length = wi) (m : Nat) : ∀ f n tf tn (ps : List (List Nat)), n ≤ m → (topv wi r f n tf tn ps).length = wi := by
  intro f n tf tn ps _
  by_cases e : (f = tf ∧ n = tn) ∨ n < 2
  · rw [topv, dif_pos e]; exact hr
  · by_cases hl : tf < f + hf n
    · rw [topv_l (by omega) (by omega) hl]; exact nd_len wi hw1 hw32 _ _
    · rw [topv_r (by omega) (by omega) hl]; exact nd_len wi hw1 hw32 _ _
theorem getLastD_at (ps : List (List Nat)) (D : Nat) (h : ps.length = D + 1) : ps.getLastD [] = ps[D]'(by omega) := by
  have e : ps.length - 1 = D := by omega
  rw [List.getLastD_eq_getLast?, List.getLast?_eq_getElem?, e, List.getElem?_eq_getElem (by omega)]; rfl
set_option maxRecDepth 100000 in
set_option maxHeartbeats 2000000 in
/-- The root of a span as it comes out of a claim. -/
theorem top_any (wi : Nat) (hw1 : 1 ≤ wi) (hw32 : wi ≤ 32) (m : Nat) : ∀ (f n tf tn : Nat) (w : World) (ro : Option Addr) (rn rc : Nat) (r : List Nat) (x : Value) (vs : List Value) (ps : List (List Nat)), n ≤ m → f + n < 9223372036854775808 → Rch f n tf tn → GS w → Sl w (.slice ro rn rc) r → r.length = wi → Pcs w x vs ps → Cp x → ps.length = dep f n tf tn → (∀ p ∈ ps, p.length = wi) →
    Calls Tryd.prog 79 #[cv wi tf tn (.slice ro rn rc) x, sv f n] w fun e w' => ∃ uo un uc, e = .returned (.slice uo un uc) ∧ Sl w' (.slice uo un uc) (topv wi r f n tf tn ps) ∧ Fr (fun _ => False) w w' := by
  induction m with
  | zero =>
    intro f n tf tn w ro rn rc r x vs ps hm hb hr hg hs hrw hp hcx hpd hpw
    by_cases e : f = tf ∧ n = tn
    · obtain ⟨rfl, rfl⟩ := e
      rw [topv_eq]
      have eqs := fun w => eq_span f n f n w
      simp only [decide_true, and_self] at eqs
      have eg := Tryd.guard_span
      obtain ⟨xo, xc, rfl⟩ := hp.form
      have HS := hide hs
      clear hs hg hp hcx hpd hpw hrw
      generalize ps.length = N at *
      unfold sv cv
      go_enter Tryd.func79, Tryd.ntmps79
      go_wp2_with fail
      go_ret
      exact ⟨ro, rn, rc, rfl, (unhide HS).fr0 (((Fr.refl _ _).alloc _).alloc _), ((Fr.refl _ _).alloc _).alloc _⟩
    · have := (rch_ne hr e).1; omega
  | succ m ih =>
    intro f n tf tn w ro rn rc r x vs ps hm hb hr hg hs hrw hp hcx hpd hpw
    by_cases e : f = tf ∧ n = tn
    · obtain ⟨rfl, rfl⟩ := e
      rw [topv_eq]
      have eqs := fun w => eq_span f n f n w
      simp only [decide_true, and_self] at eqs
      have eg := Tryd.guard_span
      obtain ⟨xo, xc, rfl⟩ := hp.form
      have HS := hide hs
      clear hs hg hp hcx hpd hpw hrw
      generalize ps.length = N at *
      unfold sv cv
      go_enter Tryd.func79, Tryd.ntmps79
      go_wp2_with fail
      go_ret
      exact ⟨ro, rn, rc, rfl, (unhide HS).fr0 (((Fr.refl _ _).alloc _).alloc _), ((Fr.refl _ _).alloc _).alloc _⟩
    · obtain ⟨h2, r1, r2⟩ := rch_ne hr e
      have hlt := hf_lt n h2
      have hpos := hf_pos n
      have eqs := fun w => eq_span f n tf tn w
      rw [decide_eq_false e] at eqs
      have eg := Tryd.guard_span
      by_cases hl : tf < f + hf n
      · have hdp := dep_l h2 e hl
        obtain ⟨D, hD⟩ : ∃ D, dep f (hf n) tf tn = D := ⟨_, rfl⟩
        rw [hD] at hdp
        have hlen : ps.length = D + 1 := by rw [hpd, hdp]
        obtain ⟨xo, xc, rfl⟩ := hp.form
        rw [hlen] at hp hcx ⊢
        obtain ⟨g, o, v, rfl, hcell, -⟩ := hp.cell (Fr.refl _ _) D (by omega)
        have hDb : D ≤ n := by rw [← hD]; have := dep_le _ f (hf n) tf tn (Nat.le_refl _); omega
        have hDc : D < 9223372036854775807 := by have h1 := dep_le _ f n tf tn (Nat.le_refl _); omega
        have hcap : D + 1 ≤ xc := hcx _ _ _ rfl
        have hvD : vs[D]? = some v := by
          have hvl : D < vs.length := by rw [hp.len]; omega
          rcases hp.at_ with ⟨e', _⟩ | ⟨_, _, e', _⟩ | ⟨g', o', c', e', _, hc'⟩
          · simp at e'
          · simp at e'
          · simp only [Value.slice.injEq, Option.some.injEq, Addr.mk.injEq, and_true] at e'
            obtain ⟨⟨rfl, rfl⟩, _⟩ := e'
            have h1 := hc' D _ (List.getElem?_eq_getElem hvl)
            rw [h1] at hcell
            rw [List.getElem?_eq_getElem hvl, Option.some.inj hcell]
        have hsv : Sl w v ps[D] := hp.sl D v _ hvD (List.getElem?_eq_getElem (by omega))
        have hdl : ps.dropLast = ps.take D := by rw [List.dropLast_eq_take, hlen]; rfl
        have hgl : ps.getLastD [] = ps[D] := getLastD_at ps D hlen
        have hp' := hp.take D (by omega)
        have htop : ∀ w', Fr (fun _ => False) w w' → _ := fun w' hf' => ih f (hf n) tf tn w' ro rn rc r _ _ (ps.take D) (by omega) (by omega) (r1 hl) (hg.fr0 hf') (hs.fr0 hf') hrw (hp'.fr0 hf') (fun _ _ _ e => by cases e; omega) (by rw [List.length_take]; omega) (fun p hp => hpw p (List.mem_of_mem_take hp))
        rw [topv_l h2 e hl, hdl, hgl]
        have hTw := topv_wid wi hw1 hw32 r hrw _ f (hf n) tf tn (ps.take D) (Nat.le_refl _)
        have hAw := hpw ps[D] (List.getElem_mem _)
        obtain ⟨va, vn, vc, rfl⟩ : ∃ a n c, v = .slice a n c := by
          obtain ⟨a, c, e⟩ := hsv.form
          exact ⟨_, _, _, e⟩
        have hsd := fun (w' : World) (hf' : Fr (fun _ => False) w w') => sides_l wi tf tn f n D xc g o ro rn rc (.slice va vn vc) w' ((hf'.cell (lt_of_cell hcell) (fun h => h)).trans hcell) hcap hDc ⟨_, _, _, rfl⟩ h2 hb hl _ (fun w'' hf'' => htop w'' (hf'.trans hf'' (fun _ _ h => h)))
        generalize topv wi r f (hf n) tf tn (ps.take D) = T at *
        generalize ps[D] = A at *
        have hnd := nd_len wi hw1 hw32 T A
        have hnode : ∀ w' x y, GS w' → Sl w' x T → Sl w' y A → Calls Tryd.prog 87 #[.int .i64 wi, x, y] w' fun e w'' => ∃ yo, e = .returned (.slice yo wi wi) ∧ OB w' w'' yo wi (nd wi T A) := fun w' x y hg hx hy => by
          have := node_any (wi : Int) x y T A w' hg hx hy (by omega) (by omega)
          rw [hnd] at this
          exact this
        have HC := hide (And.intro hsd (And.intro hnode (And.intro hg (And.intro hsv (And.intro (nd_lt (wi : Int) T A) hnd)))))
        clear hDc hsd hnode hg hsv hp hp' htop hTw hAw hdl hgl hvD hDb hcap hcell hlen hdp hD hs hpw hrw hcx hpd ih r1 r2 hr hlt hpos hl hnd hm h2 hb e
        unfold sv cv at *
        go_enter Tryd.func79, Tryd.ntmps79
        go_wp2_with fail
        obtain ⟨W0, hW0⟩ : ∃ W0, (w.alloc (.cells #[.int .i64 wi, .int .i64 tf, .int .i64 tn, .slice ro rn rc, .slice (some ⟨g, o, none⟩) (D + 1) xc] 99)).alloc (.cells #[.int .i64 f, .int .i64 n] 92) = W0 := ⟨_, rfl⟩
        rw [hW0]
        obtain ⟨⟨a0, -⟩, -, -, hF0⟩ := box52 w _ _ _ _ _ _ _ _ _ W0 hW0
        refine ((unhide HC).1 _ hF0).mono ?_
        rintro e' wA ⟨uo, un, uc, rfl, hS, hFA⟩
        have b0 := (hFA.cell (lt_of_cell a0) (fun h => h)).trans a0
        have HA := hide (And.intro hS (hF0.trans hFA (fun _ _ h => h)))
        clear hFA hF0 a0 hW0 hS
        generalize w.heap.size = P at *
        go_wp2_with fail
        refine ((unhide HC).2.1 _ _ _ ((unhide HC).2.2.1.fr0 (unhide HA).2) (unhide HA).1 ((unhide HC).2.2.2.1.fr0 (unhide HA).2)).mono ?_
        rintro e' wB ⟨zo, rfl, hO⟩
        have hsl := hO.sl (unhide HC).2.2.2.2.1
        rw [(unhide HC).2.2.2.2.2] at hsl
        have HB := hide (And.intro hsl ((unhide HA).2.trans hO.fr (fun _ _ h => h)))
        clear hO hsl
        go_wp2_with fail
        go_ret
        exact ⟨zo, wi, wi, rfl, (unhide HB).1, (unhide HB).2⟩
      · have hdp := dep_r h2 e hl
        obtain ⟨D, hD⟩ : ∃ D, dep (f + hf n) (n - hf n) tf tn = D := ⟨_, rfl⟩
        rw [hD] at hdp
        have hlen : ps.length = D + 1 := by rw [hpd, hdp]
        obtain ⟨xo, xc, rfl⟩ := hp.form
        rw [hlen] at hp hcx ⊢
        obtain ⟨g, o, v, rfl, hcell, -⟩ := hp.cell (Fr.refl _ _) D (by omega)
        have hDb : D ≤ n := by rw [← hD]; have := dep_le _ (f + hf n) (n - hf n) tf tn (Nat.le_refl _); omega
        have hDc : D < 9223372036854775807 := by have h1 := dep_le _ f n tf tn (Nat.le_refl _); omega
        have hcap : D + 1 ≤ xc := hcx _ _ _ rfl
        have hvD : vs[D]? = some v := by
          have hvl : D < vs.length := by rw [hp.len]; omega
          rcases hp.at_ with ⟨e', _⟩ | ⟨_, _, e', _⟩ | ⟨g', o', c', e', _, hc'⟩
          · simp at e'
          · simp at e'
          · simp only [Value.slice.injEq, Option.some.injEq, Addr.mk.injEq, and_true] at e'
            obtain ⟨⟨rfl, rfl⟩, _⟩ := e'
            have h1 := hc' D _ (List.getElem?_eq_getElem hvl)
            rw [h1] at hcell
            rw [List.getElem?_eq_getElem hvl, Option.some.inj hcell]
        have hsv : Sl w v ps[D] := hp.sl D v _ hvD (List.getElem?_eq_getElem (by omega))
        have hdl : ps.dropLast = ps.take D := by rw [List.dropLast_eq_take, hlen]; rfl
        have hgl : ps.getLastD [] = ps[D] := getLastD_at ps D hlen
        have hp' := hp.take D (by omega)
        have htop : ∀ w', Fr (fun _ => False) w w' → _ := fun w' hf' => ih (f + hf n) (n - hf n) tf tn w' ro rn rc r _ _ (ps.take D) (by omega) (by omega) (r2 hl) (hg.fr0 hf') (hs.fr0 hf') hrw (hp'.fr0 hf') (fun _ _ _ e => by cases e; omega) (by rw [List.length_take]; omega) (fun p hp => hpw p (List.mem_of_mem_take hp))
        rw [topv_r h2 e hl, hdl, hgl]
        have hTw := topv_wid wi hw1 hw32 r hrw _ (f + hf n) (n - hf n) tf tn (ps.take D) (Nat.le_refl _)
        have hAw := hpw ps[D] (List.getElem_mem _)
        obtain ⟨va, vn, vc, rfl⟩ : ∃ a n c, v = .slice a n c := by
          obtain ⟨a, c, e⟩ := hsv.form
          exact ⟨_, _, _, e⟩
        have hsd := fun (w' : World) (hf' : Fr (fun _ => False) w w') => sides_r wi tf tn f n D xc g o ro rn rc (.slice va vn vc) w' ((hf'.cell (lt_of_cell hcell) (fun h => h)).trans hcell) hcap hDc ⟨_, _, _, rfl⟩ h2 hb hl _ (fun w'' hf'' => htop w'' (hf'.trans hf'' (fun _ _ h => h)))
        generalize topv wi r (f + hf n) (n - hf n) tf tn (ps.take D) = T at *
        generalize ps[D] = A at *
        have hnd := nd_len wi hw1 hw32 A T
        have hnode : ∀ w' x y, GS w' → Sl w' x A → Sl w' y T → Calls Tryd.prog 87 #[.int .i64 wi, x, y] w' fun e w'' => ∃ yo, e = .returned (.slice yo wi wi) ∧ OB w' w'' yo wi (nd wi A T) := fun w' x y hg hx hy => by
          have := node_any (wi : Int) x y A T w' hg hx hy (by omega) (by omega)
          rw [hnd] at this
          exact this
        have HC := hide (And.intro hsd (And.intro hnode (And.intro hg (And.intro hsv (And.intro (nd_lt (wi : Int) A T) hnd)))))
        clear hDc hsd hnode hg hsv hp hp' htop hTw hAw hdl hgl hvD hDb hcap hcell hlen hdp hD hs hpw hrw hcx hpd ih r1 r2 hr hlt hpos hl hnd hm h2 hb e
        unfold sv cv at *
        go_enter Tryd.func79, Tryd.ntmps79
        go_wp2_with fail
        obtain ⟨W0, hW0⟩ : ∃ W0, (w.alloc (.cells #[.int .i64 wi, .int .i64 tf, .int .i64 tn, .slice ro rn rc, .slice (some ⟨g, o, none⟩) (D + 1) xc] 99)).alloc (.cells #[.int .i64 f, .int .i64 n] 92) = W0 := ⟨_, rfl⟩
        rw [hW0]
        obtain ⟨⟨a0, -⟩, -, -, hF0⟩ := box52 w _ _ _ _ _ _ _ _ _ W0 hW0
        refine ((unhide HC).1 _ hF0).mono ?_
        rintro e' wA ⟨uo, un, uc, rfl, hS, hFA⟩
        have b0 := (hFA.cell (lt_of_cell a0) (fun h => h)).trans a0
        have HA := hide (And.intro hS (hF0.trans hFA (fun _ _ h => h)))
        clear hFA hF0 a0 hW0 hS
        generalize w.heap.size = P at *
        go_wp2_with fail
        refine ((unhide HC).2.1 _ _ _ ((unhide HC).2.2.1.fr0 (unhide HA).2) ((unhide HC).2.2.2.1.fr0 (unhide HA).2) (unhide HA).1).mono ?_
        rintro e' wB ⟨zo, rfl, hO⟩
        have hsl := hO.sl (unhide HC).2.2.2.2.1
        rw [(unhide HC).2.2.2.2.2] at hsl
        have HB := hide (And.intro hsl ((unhide HA).2.trans hO.fr (fun _ _ h => h)))
        clear hO hsl
        go_wp2_with fail
        go_ret
        exact ⟨zo, wi, wi, rfl, (unhide HB).1, (unhide HB).2⟩
end Go.Proofs.YtjokmlnghpnlbaaDoor

namespace Go.Proofs.YtjokmlnghpnlbaaDoor
open Go.RowKit

/-- Has each the width? -/
def wdq (j : Int) (ps : List (List Nat)) : Bool := ps.all fun p => decide ((p.length : Int) = j)
theorem wdq_take (j : Int) (ps : List (List Nat)) (k : Nat) (hk : k < ps.length) : wdq j (ps.take (k + 1)) = (wdq j (ps.take k) && decide ((ps[k].length : Int) = j)) := by
  rw [wdq, wdq, List.take_add_one, List.getElem?_eq_getElem hk, Option.toList_some, List.all_append]; simp
theorem wdq_false (j : Int) (ps : List (List Nat)) (k : Nat) (hk : k < ps.length) (h : ¬ (ps[k].length : Int) = j) : wdq j ps = false := by
  rw [wdq, List.all_eq_false]
  exact ⟨ps[k], List.getElem_mem hk, by simp [h]⟩
theorem wdq_true {j : Int} {ps : List (List Nat)} (h : wdq j ps = true) : ∀ p ∈ ps, (p.length : Int) = j := fun p hp => by
  rw [wdq, List.all_eq_true] at h
  simpa using h p hp
theorem Pcs.nth {w w' : World} {xo : Option Addr} {n xc : Nat} {vs : List Value} {ps : List (List Nat)} (h : Pcs w (.slice xo n xc) vs ps) (hf : Fr (fun _ => False) w w') (k : Nat) (hk : k < ps.length) : ∃ g o vo vc, xo = some ⟨g, o, none⟩ ∧ w'.cell? ⟨g, o + k, none⟩ = some (.slice vo ps[k].length vc) ∧ Sl w' (.slice vo ps[k].length vc) ps[k] := by
  obtain ⟨g, o, v, e, hc, hs, hcap, hlt, _⟩ := h.cell hf k hk
  obtain ⟨vo, vc, rfl⟩ := hs.form
  exact ⟨g, o, vo, vc, e, hc, hs, hcap, hlt.imp id (fun hh g o n c e => Nat.lt_of_lt_of_le (hh g o n c e) hf.size), h.byt _ (List.getElem_mem hk)⟩
set_option maxRecDepth 100000 in
set_option maxHeartbeats 1000000 in
/-- merkle.wide. -/
theorem wide_any (j : Int) (x : Value) (vs : List Value) (ps : List (List Nat)) (w : World) (hp : Pcs w x vs ps) (hn : ps.length < 4611686018427387904) :
    Calls Tryd.prog 75 #[.int .i64 j, x] w fun e w' => e = .returned (.bool (wdq j ps)) ∧ w' = w := by
  obtain ⟨xo, xc, rfl⟩ := hp.form
  have HG := hide (And.intro hp hn)
  clear hp hn
  generalize hN : ps.length = N at *
  go_enter Tryd.func75, Tryd.ntmps75
  go_wp2_with fail
  go_loopw [9] (fun iv wr => ∃ (k : Nat), k ≤ N ∧ iv = .int .i64 (k : Nat) ∧ wr = w ∧ wdq j (ps.take k) = true) (fun iv _ => N - (intOf iv).toNat)
  case atStart => exact ⟨0, Nat.zero_le _, rfl, rfl, by simp [wdq]⟩
  case round =>
    obtain ⟨k, hk, rfl, rfl, hw⟩ := hrel
    have hN8 := (unhide HG).2
    by_cases hlt : k < N
    · have hlt' : (k : Int) < (N : Int) := by omega
      have hke : k < ps.length := by omega
      obtain ⟨g, o, vo, vc, rfl, hcell, -⟩ := (unhide HG).1.nth (Fr.refl _ _) k hke
      by_cases he : (ps[k].length : Int) = j
      · have hw2 : wdq j (ps.take (k + 1)) = true := by rw [wdq_take j ps k hke, hw, decide_eq_true he]; rfl
        have HW := hide hw2
        clear hw2 hw
        have w1 : IntKind.i64.wrap ((k : Int) + 1) = (k : Int) + 1 := by rw [IntKind.wrap_i64]; omega
        have hee : ((ps[k].length : Int) == j) = true := by rw [he]; simp
        subst he
        generalize ps[k].length = EL at *
        go_wp2_with fail
        exact ⟨⟨k + 1, by omega, by go_num, by first | rfl | trivial, unhide HW⟩, by simp [intOf]; omega⟩
      · have hf := wdq_false j ps k hke he
        have HW := hide hf
        clear hf hw
        have hee : ((ps[k].length : Int) == j) = false := beq_false_of_ne he
        generalize ps[k].length = EL at *
        go_wp2_with fail
        go_ret
        exact ⟨by rw [unhide HW]; rfl, rfl⟩
    · have hkN : k = N := by omega
      have hlt' : ¬ (k : Int) < (N : Int) := by omega
      have htk : ps.take k = ps := List.take_of_length_le (by omega)
      rw [htk] at hw
      have HW := hide hw
      clear hw htk hkN
      go_wp2_with fail
      go_ret
      exact ⟨by rw [unhide HW]; rfl, rfl⟩
set_option maxRecDepth 100000 in
theorem ofEntry_any (wi i : Nat) (ro : Option Addr) (rn rc : Nat) (xo : Option Addr) (xn xc : Nat) (w : World) :
    Calls Tryd.prog 76 #[.int .i64 wi, .slice ro rn rc, .int .i64 i, .slice xo xn xc] w fun e w' => e = .returned (cv wi i 1 (.slice ro rn rc) (.slice xo xn xc)) ∧ Fr (fun _ => False) w w' := by
  unfold cv
  go_enter Tryd.func76, Tryd.ntmps76
  go_wp2_with fail
  go_returns
  exact ⟨rfl, (Fr.refl _ _).alloc _⟩
set_option maxRecDepth 100000 in
set_option maxHeartbeats 1000000 in
theorem fits_any (wi f n tf tn : Nat) (ro : Option Addr) (rn rc : Nat) (xo : Option Addr) (N xc : Nat) (w : World) (hb : f + n < 9223372036854775808) (hr : Rch f n tf tn) :
    Calls Tryd.prog 77 #[cv wi tf tn (.slice ro rn rc) (.slice xo N xc), sv f n] w fun e w' => e = .returned (.bool (decide (N = dep f n tf tn))) ∧ Fr (fun _ => False) w w' := by
  have hd := fun w => depth_any n f n tf tn w (Nat.le_refl _) hb hr
  unfold DepSays at hd
  have hee : ((N : Int) == ((dep f n tf tn : Nat) : Int)) = decide (N = dep f n tf tn) := by
    by_cases h : N = dep f n tf tn
    · simp [h]
    · rw [decide_eq_false h]; exact beq_false_of_ne (by omega)
  generalize dep f n tf tn = D at *
  generalize hB : decide (N = D) = B1 at *
  have HD := hide hd
  clear hd hr hb hB
  unfold cv sv at *
  go_enter Tryd.func77, Tryd.ntmps77
  go_wp2_with fail
  obtain ⟨W0, hW0⟩ : ∃ W0, (w.alloc (.cells #[.int .i64 wi, .int .i64 tf, .int .i64 tn, .slice ro rn rc, .slice xo N xc] 99)).alloc (.cells #[.int .i64 f, .int .i64 n] 92) = W0 := ⟨_, rfl⟩
  rw [hW0]
  obtain ⟨⟨a0, a1, a2, a3, a4⟩, b0, b1, hF0⟩ := box52 w _ _ _ _ _ _ _ _ _ W0 hW0
  have HF := hide hF0
  clear hF0 hW0 a0 a3
  generalize w.heap.size = P at *
  have hS : ∀ w', Fr (fun _ => False) W0 w' → w'.cell? ⟨P, 1, none⟩ = some (.int .i64 tf) ∧ w'.cell? ⟨P, 2, none⟩ = some (.int .i64 tn) ∧ w'.cell? ⟨P, 4, none⟩ = some (.slice xo N xc) ∧ w'.cell? ⟨P + 1, 0, none⟩ = some (.int .i64 f) ∧ w'.cell? ⟨P + 1, 1, none⟩ = some (.int .i64 n) := fun w' hf =>
    ⟨(hf.cell (lt_of_cell a1) (fun h => h)).trans a1, (hf.cell (lt_of_cell a2) (fun h => h)).trans a2, (hf.cell (lt_of_cell a4) (fun h => h)).trans a4, (hf.cell (lt_of_cell b0) (fun h => h)).trans b0, (hf.cell (lt_of_cell b1) (fun h => h)).trans b1⟩
  have HS := hide hS
  clear hS
  go_region_held3 (fun w' => w'.cell? ⟨P, 1, none⟩ = some (.int .i64 tf) ∧ w'.cell? ⟨P, 2, none⟩ = some (.int .i64 tn) ∧ w'.cell? ⟨P, 4, none⟩ = some (.slice xo N xc) ∧ w'.cell? ⟨P + 1, 0, none⟩ = some (.int .i64 f) ∧ w'.cell? ⟨P + 1, 1, none⟩ = some (.int .i64 n))
    (first | assumption | exact (unhide HS) _ (Fr.refl _ _).drew | exact (unhide HS) _ ((Fr.refl _ _).drew.trans fC (fun _ _ h => h)))
    (first
      | (go_at_call 93; refine ((unhide HD) _).mono ?_; rintro e wC ⟨rfl, fC⟩))
  have HE := hide ((unhide HF).drew.trans fC (fun _ _ h => h))
  clear fC
  go_wp2_with fail
  go_ret
  exact ⟨rfl, unhide HE⟩
theorem Sl.ints {w : World} {xo : Option Addr} {n c : Nat} {l : List Nat} (h : Sl w (.slice xo n c) l) : (l.map fun v : Nat => (v : Int)).length = n ∧ Lib.BytesIn w xo n (l.map fun v : Nat => (v : Int)) := by
  obtain ⟨a, c', e⟩ := h.form
  simp only [Value.slice.injEq] at e
  have hn : l.length = n := e.2.1.symm
  refine ⟨by simp [hn], ?_⟩
  by_cases h0 : l = []
  · subst h0
    have : n = 0 := by rw [← hn]; rfl
    subst this
    rcases xo with _ | a
    · exact Lib.BytesIn.nil _ _ _
    · exact Lib.BytesIn.of_cells (fun i hi => by simp at hi)
  · obtain ⟨g, o, rfl, _⟩ := src_cell h.s 0 (List.length_pos_iff.2 h0) h.b
    refine Lib.BytesIn.of_cells (fun i hi => ?_)
    have hi' : i < l.length := by omega
    obtain ⟨g', o', e', hc⟩ := src_cell h.s i hi' h.b
    simp only [Option.some.injEq, Addr.mk.injEq, and_true] at e'
    obtain ⟨rfl, rfl⟩ := e'
    rw [add_at2, hc]
    simp [List.getD, List.getElem?_eq_getElem hi']
theorem bytesOf_inj {a b : List Nat} (ha : ∀ v ∈ a, v < 256) (hb : ∀ v ∈ b, v < 256) : (Lib.bytesOf (a.map fun v : Nat => (v : Int)) == Lib.bytesOf (b.map fun v : Nat => (v : Int))) = decide (a = b) := by
  by_cases h : a = b
  · subst h; simp
  · rw [decide_eq_false h, beq_eq_false_iff_ne]
    intro e
    apply h
    have key : ∀ l : List Nat, (∀ v ∈ l, v < 256) → (Lib.bytesOf (l.map fun v : Nat => (v : Int))).map UInt8.toNat = l := fun l hl => by
      rw [Lib.bytesOf, List.map_map, List.map_map]
      conv => rhs; rw [← List.map_id l]
      apply List.map_congr_left
      intro v hv
      have := hl v hv
      simp
      omega
    rw [← key a ha, ← key b hb, e]
/-- bytes.Equal. -/
theorem beq_sl (x y : Value) (a b : List Nat) (w : World) (hx : Sl w x a) (hy : Sl w y b) : Calls Tryd.prog 78 #[x, y] w fun e w' => e = .returned (.bool (decide (a = b))) ∧ w' = w := by
  obtain ⟨xo, xc, rfl⟩ := hx.form
  obtain ⟨yo, yc, rfl⟩ := hy.form
  have := beq_any xo yo a.length xc b.length yc _ _ w hx.ints.1 hy.ints.1 hx.ints.2 hy.ints.2
  rw [bytesOf_inj hx.b hy.b] at this
  exact this
end Go.Proofs.YtjokmlnghpnlbaaDoor

namespace Go.Proofs.YtjokmlnghpnlbaaDoor
open Go.RowKit

theorem pcs2 {w : World} {x y : Value} {a b : List Nat} (hx : Sl w x a) (hy : Sl w y b) (W : World) (hW : w.alloc (.cells #[x, y] 24) = W) : Pcs W (.slice (some ⟨w.heap.size, 0, none⟩) 2 2) [x, y] [a, b] := by
  have hF1 : Fr (fun _ => False) w W := by rw [← hW]; exact (Fr.refl _ _).alloc _
  have hx1 := hx.fr0 hF1
  have hy1 := hy.fr0 hF1
  have hc : ∀ j, j < 2 → W.cell? ⟨w.heap.size, 0 + j, none⟩ = (#[x, y] : Array Value)[j]? := fun j hj => by rw [Nat.zero_add, ← hW, World.cell?_alloc_at _ _ _ _ rfl]
  have hc0 := hc 0 (by decide)
  have hl : w.heap.size < W.heap.size := lt_of_cell (v := x) hc0
  refine ⟨rfl, .inr (.inr ⟨w.heap.size, 0, 2, rfl, hl, fun j v hv => ?_⟩), fun j v p hv hp => ?_, fun p hp => ?_⟩
  · match j with
    | 0 => rw [hc 0 (by decide)]; simpa using hv
    | 1 => rw [hc 1 (by decide)]; simpa using hv
    | j + 2 => simp at hv
  · match j with
    | 0 => simp at hv hp; subst hv hp; exact ⟨hx1.s, hx1.cap, hx1.lt⟩
    | 1 => simp at hv hp; subst hv hp; exact ⟨hy1.s, hy1.cap, hy1.lt⟩
    | j + 2 => simp at hv
  · simp at hp
    rcases hp with rfl | rfl
    · exact hx1.b
    · exact hy1.b
/-- What CheckPath answers. -/
def chkP (j : Int) (leaf : List Nat) (i n : Int) (ps : List (List Nat)) (root : List Nat) : Bool :=
  decide (1 ≤ j ∧ j ≤ 32) && (decide (0 ≤ i) && (decide (i < n) && (wdq j [leaf, root] && (wdq j ps && (decide (ps.length = dep 0 n.toNat i.toNat 1) && decide (topv j.toNat leaf 0 n.toNat i.toNat 1 ps = root))))))
set_option maxRecDepth 100000 in
set_option maxHeartbeats 2000000 in
theorem checkPath_any (j i n : Int) (lv rv x : Value) (leaf root : List Nat) (vs : List Value) (ps : List (List Nat)) (w : World) (hg : GS w) (hl : Sl w lv leaf) (hr : Sl w rv root) (hp : Pcs w x vs ps) (hcx : Cp x) (hn : n < 9223372036854775808) (hps : ps.length < 4611686018427387904) :
    Calls Tryd.prog 46 #[.int .i64 j, lv, .int .i64 i, .int .i64 n, x, rv] w fun e w' => e = .returned (.bool (chkP j leaf i n ps root)) ∧ Fr (fun _ => False) w w' := by
  obtain ⟨lo, lc, rfl⟩ := hl.form
  obtain ⟨rr, rc, rfl⟩ := hr.form
  obtain ⟨xo, xc, rfl⟩ := hp.form
  by_cases h1o : j < 1 ∨ 32 < j
  · have h1 : ¬ (1 ≤ j ∧ j ≤ 32) := by omega
    have hB : chkP j leaf i n ps root = false := by rw [chkP, decide_eq_false h1]; rfl
    rw [hB]
    have HM := hide h1
    clear hg hl hr hp hcx hn hps hB h1 h1o
    generalize leaf.length = LL at *
    generalize root.length = RL at *
    generalize ps.length = PL at *
    go_enter Tryd.func46, Tryd.ntmps46
    go_wp2_with (go_at_call 63; refine (maybe_any j _).mono ?_; rintro e' w' ⟨rfl, hw'⟩; rw [hw', decide_eq_false (unhide HM)])
    go_ret
    exact ⟨rfl, Fr.refl _ _⟩
  · have h1 : 1 ≤ j ∧ j ≤ 32 := by omega
    clear h1o
    have HM := hide h1
    by_cases h2' : i < 0
    · have h2 : ¬ 0 ≤ i := by omega
      have hB : chkP j leaf i n ps root = false := by rw [chkP, decide_eq_true h1, decide_eq_false h2]; rfl
      rw [hB]
      clear hg hl hr hp hcx hn hps hB h1
      generalize leaf.length = LL at *
      generalize root.length = RL at *
      generalize ps.length = PL at *
      go_enter Tryd.func46, Tryd.ntmps46
      go_wp2_with (go_at_call 63; refine (maybe_any j _).mono ?_; rintro e' w' ⟨rfl, hw'⟩; rw [hw', decide_eq_true (unhide HM)])
      go_ret
      exact ⟨rfl, Fr.refl _ _⟩
    · have h2 : 0 ≤ i := by omega
      by_cases h3' : n ≤ i
      · have h3 : ¬ i < n := by omega
        have hB : chkP j leaf i n ps root = false := by rw [chkP, decide_eq_true h1, decide_eq_true h2, decide_eq_false h3]; rfl
        rw [hB]
        clear hg hl hr hp hcx hn hps hB h1
        generalize leaf.length = LL at *
        generalize root.length = RL at *
        generalize ps.length = PL at *
        go_enter Tryd.func46, Tryd.ntmps46
        go_wp2_with (go_at_call 63; refine (maybe_any j _).mono ?_; rintro e' w' ⟨rfl, hw'⟩; rw [hw', decide_eq_true (unhide HM)])
        go_ret
        exact ⟨rfl, Fr.refl _ _⟩
      · have h3 : i < n := by omega
        clear h2' h3'
        obtain ⟨wi, rfl⟩ : ∃ k : Nat, j = (k : Int) := ⟨j.toNat, by omega⟩
        obtain ⟨I, rfl⟩ : ∃ k : Nat, i = (k : Int) := ⟨i.toNat, by omega⟩
        obtain ⟨N, rfl⟩ : ∃ k : Nat, n = (k : Int) := ⟨n.toNat, by omega⟩
        have h2' : ¬ (I : Int) < 0 := by omega
        have h3' : ¬ (N : Int) ≤ (I : Int) := by omega
        have hIN : I < N := by omega
        have hrch := rch_one N 0 N I (Nat.le_refl _) (by omega) (by omega)
        obtain ⟨W1, hW1⟩ : ∃ W1, w.alloc (.cells #[.slice lo leaf.length lc, .slice rr root.length rc] 24) = W1 := ⟨_, rfl⟩
        have hF1 : Fr (fun _ => False) w W1 := by rw [← hW1]; exact (Fr.refl _ _).alloc _
        have hwd1 := wide_any wi _ _ [leaf, root] W1 (pcs2 hl hr W1 hW1) (by simp)
        have hwd2 := wide_any wi _ vs ps W1 (hp.fr0 hF1) hps
        have hce : chkP wi leaf I N ps root = (wdq wi [leaf, root] && (wdq wi ps && (decide (ps.length = dep 0 N I 1) && decide (topv wi leaf 0 N I 1 ps = root)))) := by
          rw [chkP, decide_eq_true h1, decide_eq_true h2, decide_eq_true h3]; rfl
        rw [hce]
        clear hce
        cases hq1 : wdq wi [leaf, root] with
        | false =>
          rw [hq1] at hwd1
          rw [Bool.false_and]
          have HC := hide (And.intro hwd1 hF1)
          clear hg hl hr hp hcx hn hps h1 h2 h3 hwd1 hwd2 hF1 hrch hIN hq1
          generalize leaf.length = LL at *
          generalize root.length = RL at *
          generalize ps.length = PL at *
          go_enter Tryd.func46, Tryd.ntmps46
          go_wp2_with (go_at_call 63; refine (maybe_any wi _).mono ?_; rintro e' w' ⟨rfl, hw'⟩; rw [hw', decide_eq_true (unhide HM)])
          refine (unhide HC).1.mono ?_
          rintro e' w2 ⟨rfl, rfl⟩
          go_wp2_with fail
          go_ret
          exact ⟨rfl, (unhide HC).2⟩
        | true =>
          rw [hq1] at hwd1
          rw [Bool.true_and]
          cases hq2 : wdq wi ps with
          | false =>
            rw [hq2] at hwd2
            rw [Bool.false_and]
            have HC := hide (And.intro hwd1 (And.intro hwd2 hF1))
            clear hg hl hr hp hcx hn hps h1 h2 h3 hwd1 hwd2 hF1 hrch hIN hq1 hq2
            generalize leaf.length = LL at *
            generalize root.length = RL at *
            generalize ps.length = PL at *
            go_enter Tryd.func46, Tryd.ntmps46
            go_wp2_with (go_at_call 63; refine (maybe_any wi _).mono ?_; rintro e' w' ⟨rfl, hw'⟩; rw [hw', decide_eq_true (unhide HM)])
            refine (unhide HC).1.mono ?_
            rintro e' w2 ⟨rfl, rfl⟩
            go_wp2_with fail
            refine (unhide HC).2.1.mono ?_
            rintro e' w3 ⟨rfl, rfl⟩
            go_wp2_with fail
            go_ret
            exact ⟨rfl, (unhide HC).2.2⟩
          | true =>
            rw [hq2] at hwd2
            rw [Bool.true_and]
            have hlw : leaf.length = wi := by have := wdq_true hq1 leaf (by simp); omega
            have hpw : ∀ p ∈ ps, p.length = wi := fun p hp => by have := wdq_true hq2 p hp; omega
            have hoe := fun w' => ofEntry_any wi I lo leaf.length lc xo ps.length xc w'
            have hft := fun w' => fits_any wi 0 N I 1 lo leaf.length lc xo ps.length xc w' (by omega) hrch
            by_cases hD : ps.length = dep 0 N I 1
            · have htop := fun w' (hf : Fr (fun _ => False) w w') => top_any wi (by omega) (by omega) N 0 N I 1 w' lo leaf.length lc leaf _ vs ps (Nat.le_refl _) (by omega) hrch (hg.fr0 hf) (hl.fr0 hf) hlw (hp.fr0 hf) hcx hD hpw
              rw [decide_eq_true hD] at hft ⊢
              rw [Bool.true_and]
              have HC := hide (And.intro hwd1 (And.intro hwd2 (And.intro hoe (And.intro hft (And.intro htop (And.intro hr hF1))))))
              clear hg hl hp hcx hn hps h1 h2 h3 hwd1 hwd2 hF1 hrch hIN hq1 hq2 hoe hft htop hD hpw hlw hr
              generalize topv wi leaf 0 N I 1 ps = TV at *
              obtain ⟨BB, hBB⟩ : ∃ BB, decide (TV = root) = BB := ⟨_, rfl⟩
              rw [hBB]
              have HBB := hide hBB
              clear hBB
              generalize leaf.length = LL at *
              generalize root.length = RL at *
              generalize ps.length = PL at *
              unfold sv cv at HC
              have e1 : ((1 : Nat) : Int) = 1 := rfl
              have e0 : ((0 : Nat) : Int) = 0 := rfl
              simp only [e1, e0] at HC
              clear e1 e0
              go_enter Tryd.func46, Tryd.ntmps46
              go_wp2_with (go_at_call 63; refine (maybe_any wi _).mono ?_; rintro e' w' ⟨rfl, hw'⟩; rw [hw', decide_eq_true (unhide HM)])
              refine (unhide HC).1.mono ?_
              rintro e' w2 ⟨rfl, rfl⟩
              go_wp2_with fail
              refine (unhide HC).2.1.mono ?_
              rintro e' w3 ⟨rfl, rfl⟩
              go_wp2_with fail
              refine ((unhide HC).2.2.1 _).mono ?_
              rintro e' wA ⟨rfl, hFA⟩
              have HA := hide ((unhide HC).2.2.2.2.2.2.trans hFA (fun _ _ h => h))
              clear hFA
              go_wp2_with fail
              obtain ⟨W2, hW2⟩ : ∃ W2, (wA.alloc (.cells #[.int .i64 wi, .int .i64 I, .int .i64 1, .slice lo LL lc, .slice xo PL xc] 99)).alloc (.cells #[.int .i64 0, .int .i64 N] 92) = W2 := ⟨_, rfl⟩
              rw [hW2]
              obtain ⟨⟨a0, a1, a2, a3, a4⟩, b0, b1, hF2⟩ := box52 wA _ _ _ _ _ _ _ _ _ W2 hW2
              refine ((unhide HC).2.2.2.1 _).mono ?_
              rintro e' wB ⟨rfl, hFB⟩
              have c0 := (hFB.cell (lt_of_cell a0) (fun h => h)).trans a0
              have c1 := (hFB.cell (lt_of_cell a1) (fun h => h)).trans a1
              have c2 := (hFB.cell (lt_of_cell a2) (fun h => h)).trans a2
              have c3 := (hFB.cell (lt_of_cell a3) (fun h => h)).trans a3
              have c4 := (hFB.cell (lt_of_cell a4) (fun h => h)).trans a4
              have d0 := (hFB.cell (lt_of_cell b0) (fun h => h)).trans b0
              have d1 := (hFB.cell (lt_of_cell b1) (fun h => h)).trans b1
              have HB := hide (((unhide HA).trans hF2 (fun _ _ h => h)).trans hFB (fun _ _ h => h))
              clear hF2 hFB hW2 a0 a1 a2 a3 a4 b0 b1 HA
              generalize wA.heap.size = P at *
              go_wp2_with fail
              refine ((unhide HC).2.2.2.2.1 _ (unhide HB)).mono ?_
              rintro e' wC ⟨uo, un, uc, rfl, hS, hFC⟩
              have HS := hide (And.intro hS ((unhide HB).trans hFC (fun _ _ h => h)))
              clear hS hFC
              go_wp2_with fail
              refine (beq_sl _ _ _ _ _ (unhide HS).1 ((unhide HC).2.2.2.2.2.1.fr0 (unhide HS).2)).mono ?_
              rintro e' wD ⟨rfl, rfl⟩
              rw [unhide HBB]
              go_wp2_with fail
              go_ret
              exact ⟨rfl, (unhide HS).2⟩
            · rw [decide_eq_false hD] at hft ⊢
              rw [Bool.false_and]
              have HC := hide (And.intro hwd1 (And.intro hwd2 (And.intro hoe (And.intro hft hF1))))
              clear hg hl hp hcx hn hps h1 h2 h3 hwd1 hwd2 hF1 hrch hIN hq1 hq2 hoe hft hD hpw hlw hr
              generalize leaf.length = LL at *
              generalize root.length = RL at *
              generalize ps.length = PL at *
              unfold sv cv at HC
              have e1 : ((1 : Nat) : Int) = 1 := rfl
              have e0 : ((0 : Nat) : Int) = 0 := rfl
              simp only [e1, e0] at HC
              clear e1 e0
              go_enter Tryd.func46, Tryd.ntmps46
              go_wp2_with (go_at_call 63; refine (maybe_any wi _).mono ?_; rintro e' w' ⟨rfl, hw'⟩; rw [hw', decide_eq_true (unhide HM)])
              refine (unhide HC).1.mono ?_
              rintro e' w2 ⟨rfl, rfl⟩
              go_wp2_with fail
              refine (unhide HC).2.1.mono ?_
              rintro e' w3 ⟨rfl, rfl⟩
              go_wp2_with fail
              refine ((unhide HC).2.2.1 _).mono ?_
              rintro e' wA ⟨rfl, hFA⟩
              have HA := hide ((unhide HC).2.2.2.2.trans hFA (fun _ _ h => h))
              clear hFA
              go_wp2_with fail
              refine ((unhide HC).2.2.2.1 _).mono ?_
              rintro e' wB ⟨rfl, hFB⟩
              have HB := hide ((unhide HA).trans ((((Fr.refl _ _).alloc _).alloc _).trans hFB (fun _ _ h => h)) (fun _ _ h => h))
              clear hFB
              go_wp2_with fail
              go_ret
              exact ⟨rfl, unhide HB⟩
end Go.Proofs.YtjokmlnghpnlbaaDoor

namespace Go.Proofs.YtjokmlnghpnlbaaDoor
open Go.RowKit

theorem lf_len5 (wi : Nat) (hw1 : 1 ≤ wi) (hw32 : wi ≤ 32) (e : List Nat) : (lf (wi : Int) e).length = wi := by
  rw [lf, sm_len ⟨by omega, by omega⟩, Int.toNat_natCast]
theorem ent_lt (f : Nat → Nat → List Nat) (h : ∀ J V, ∀ v ∈ f J V, v < 256) (n : Nat) : ∀ v ∈ ent f n, v < 256 := by
  induction n with
  | zero => intro v hv; cases hv
  | succ n ih =>
    intro v hv
    rw [ent] at hv
    rcases List.mem_append.1 hv with hv | hv
    · rcases List.mem_append.1 hv with hv | hv
      · exact ih v hv
      · exact h _ _ v hv
    · exact h _ _ v hv
theorem lt5_lt (wi : Nat) (h p : List Nat) (hp : ∀ v ∈ p, v < 256) (J V : Nat) : ∀ v ∈ lt5 wi h p J V, v < 256 := by
  unfold lt5
  split
  · exact sm_lt _ _
  · exact fun v hv => hp v (List.mem_of_mem_drop (List.mem_of_mem_take hv))
/-- What Check answers, of a width, a height and a key that may be, and of lengths that fit. -/
def chk5 (wi H : Nat) (pub : List Nat) (K : Int) (m s : List Nat) : Bool :=
  chkP wi (lf wi (ent (lt5 wi (sm wi m) (s.take (16 * wi * wi))) (8 * wi))) K ((2 ^ H : Nat) : Int) (cuts wi (s.drop (16 * wi * wi)) H) pub
set_option maxRecDepth 100000 in
set_option maxHeartbeats 4000000 in
/-- lamport.Check, of what may be. -/
theorem lcheck_in (wi H : Nat) (hw1 : 1 ≤ wi) (hw32 : wi ≤ 32) (hH : H ≤ 6) (K : Int) (hK : 0 ≤ K ∧ K < ((2 ^ H : Nat) : Int)) (pv mv sv : Value) (pub m s : List Nat) (w : World) (hg : GS w) (hp : Sl w pv pub) (hm : Sl w mv m) (hs : Sl w sv s) (hpl : pub.length = wi) (hml : m.length < 9223372036854775808) (hsl : s.length = 16 * wi * wi + H * wi) :
    Calls Tryd.prog 16 #[.int .i64 wi, .int .i64 H, pv, .int .i64 K, mv, sv] w fun e w' => e = .returned (.bool (chk5 wi H pub K m s)) ∧ Fr (fun _ => False) w w' := by
  obtain ⟨po, pc, rfl⟩ := hp.form
  obtain ⟨so, sc, rfl⟩ := hs.form
  obtain ⟨mo, mc, rfl⟩ := hm.form
  have hps1 : 1 ≤ 16 * wi * wi := by
    have : 1 * 1 ≤ 16 * wi * wi := Nat.mul_le_mul (by omega) hw1
    exact this
  have hps9 : 16 * wi * wi ≤ 16384 := Nat.mul_le_mul (show 16 * wi ≤ 512 by omega) hw32
  have hhw9 : H * wi ≤ 192 := Nat.mul_le_mul hH hw32
  obtain ⟨g, o, rfl, _⟩ := src_cell hs.s 0 (by omega) hs.b
  have hsc : s.length ≤ sc := hs.cap _ _ _ rfl
  have hmay := fun w' => lmay_any wi H w'
  rw [decide_eq_true (by omega)] at hmay
  have hik := fun w' => liskey_any H hH K w'
  rw [decide_eq_true hK] at hik
  have hsz := fun w' => lsize_any wi H w'
  have esz : szF wi H = ((16 * wi * wi + H * wi : Nat) : Int) := by rw [szF, if_pos (by omega)]; simp
  rw [esz] at hsz
  have hpr := fun w' => lpairs_any wi hw32 w'
  have hkc := fun w' => lkeys_any H hH w'
  have hpt : (s.take (16 * wi * wi)).length = 16 * wi * wi := by rw [List.length_take]; omega
  have hsm : (sm (wi : Int) m).length = wi := by rw [sm_len ⟨by omega, by omega⟩, Int.toNat_natCast]
  have hsub := hs.sub 0 (16 * wi * wi) (by omega)
  rw [List.drop_zero, Nat.add_zero, Nat.sub_zero] at hsub
  have htold := fun w' (hf : Fr (fun _ => False) w w') => ltold_in wi hw1 hw32 _ _ m _ w' (hg.fr0 hf) (hm.fr0 hf) (hsub.fr0 hf) hml
  have hent := fun w' b0 b1 b2 hb ho (hf : Fr (fun _ => False) w w') (h : LtAt w' b0 b1 b2 hb ho wi (.slice (some ⟨g, o, none⟩) (16 * wi * wi) sc) (s.take (16 * wi * wi)) (sm wi m)) => lentry_any wi _ hw1 hw32 _ _ w' (h.f5 (hg.fr0 hf) hw1 hw32 hsm hpt)
  obtain ⟨EN, hEN⟩ : ∃ EN, ent (lt5 wi (sm wi m) (s.take (16 * wi * wi))) (8 * wi) = EN := ⟨_, rfl⟩
  have hENl : EN.length = 16 * wi * wi := by
    rw [← hEN, ent_len _ wi (8 * wi) (fun J V hJ _ => lt5_len wi hw1 hw32 _ _ J V hJ hpt), ← Nat.mul_assoc]
  have hENb : ∀ v ∈ EN, v < 256 := by rw [← hEN]; exact ent_lt _ (lt5_lt _ _ _ (fun v hv => hs.b v (List.mem_of_mem_take hv))) _
  have hleaf := fun w' x (hf : Fr (fun _ => False) w w') (h : Sl w' x EN) => leaf_any wi x EN w' (hg.fr0 hf) h (by omega)
  rw [lf_len5 wi hw1 hw32] at hleaf
  have hcut := fun w' xo c (hx : Sl w' (.slice xo (H * wi) c) (s.drop (16 * wi * wi))) => lcut_any wi H hw1 hw32 (by omega) xo c _ w' hx (by rw [List.length_drop]; omega)
  have hrest : ∀ w', Fr (fun _ => False) w w' → (¬ sc = 16 * wi * wi → Sl w' (.slice (some ⟨g, o + (16 * wi * wi), none⟩) (H * wi) (sc - 16 * wi * wi)) (s.drop (16 * wi * wi))) ∧ (sc = 16 * wi * wi → ∀ c, Sl w' (.slice (some ⟨g, o, none⟩) (H * wi) c) (s.drop (16 * wi * wi))) := fun w' hf => by
    constructor
    · intro _
      have h := (hs.fr0 hf).sub (16 * wi * wi) (H * wi) (by omega)
      rw [List.take_of_length_le (by rw [List.length_drop]; omega)] at h
      exact h
    · intro h c
      have h0 : H * wi = 0 := by omega
      have h1 : s.drop (16 * wi * wi) = [] := List.drop_eq_nil_of_le (by omega)
      rw [h0, h1]
      exact ⟨.inr (.inr ⟨_, _, rfl, rfl⟩), fun _ _ _ e => by cases e; exact Nat.zero_le _, .inl rfl, fun v hv => by cases hv⟩
  have hchk := fun w' lv x vs (hf : Fr (fun _ => False) w w') (h1 : Sl w' lv (lf wi EN)) (h2 : Pcs w' x vs (cuts wi (s.drop (16 * wi * wi)) H)) (h3 : Cp x) => checkPath_any wi K ((2 ^ H : Nat) : Int) lv _ x _ pub vs _ w' (hg.fr0 hf) h1 (hp.fr0 hf) h2 h3 (by have : 2 ^ H ≤ 2 ^ 6 := Nat.pow_le_pow_right (by decide) hH; omega) (by simp [cuts]; omega)
  unfold chk5
  rw [hEN]
  rw [hEN] at hent
  generalize chkP wi (lf wi EN) K ((2 ^ H : Nat) : Int) (cuts wi (s.drop (16 * wi * wi)) H) pub = B at *
  have hlb := lf_lt (wi : Int) EN
  have hll := lf_len5 wi hw1 hw32 EN
  rw [hsl] at *
  rw [hpl] at *
  generalize m.length = ML at *
  generalize 2 ^ H = N2 at *
  generalize hPS : 16 * wi * wi = PS at *
  generalize hHW : H * wi = HW at *
  have HC := hide (And.intro hmay (And.intro hik (And.intro hsz (And.intro hpr (And.intro hkc (And.intro htold (And.intro hent (And.intro hleaf (And.intro hcut (And.intro hrest (And.intro hchk (And.intro hENl (And.intro hENb (And.intro hll hlb))))))))))))))
  clear hmay hik hsz hpr hkc htold hent hleaf hcut hrest hchk hENl hENb hll hlb hp hm hs hg hsub hpt hsm esz hEN hPS hHW
  go_enter Tryd.func16, Tryd.ntmps16
  go_wp2_with fail
  refine ((unhide HC).1 _).mono ?_
  rintro e w0 ⟨rfl, rfl⟩
  go_wp2_with fail
  refine ((unhide HC).2.1 _).mono ?_
  rintro e w0' ⟨rfl, rfl⟩
  go_wp2_with fail
  refine ((unhide HC).2.2.1 _).mono ?_
  rintro e w0'' ⟨rfl, rfl⟩
  have p0 : (0 : Int) ≤ (PS : Int) := by omega
  have p1 : (PS : Int) ≤ (sc : Int) := by omega
  have p2 : (PS : Int) ≤ ((PS + HW : Nat) : Int) := by omega
  have p2' : (PS : Int) ≤ (PS : Int) + (HW : Int) := by omega
  have p3 : (PS : Int) + (HW : Int) ≤ (sc : Int) := by omega
  by_cases hcs : sc = PS
  · have hH0 : HW = 0 := by omega
    have hrest0 := fun w' (hf : Fr (fun _ => False) w0'' w') => ((unhide HC).2.2.2.2.2.2.2.2.2.1 w' hf).2 hcs
    have HR := hide hrest0
    clear hrest0
    subst hH0
    have hcs'' : PS = sc := hcs.symm
    clear hcs p2 p2' p3
    subst hcs''
    go_wp2_with fail
    go_region_held3 (fun _ => True)
      (trivial)
      (first
        | (go_at_call 28; refine ((unhide HC).2.2.2.1 _).mono ?_; rintro e wA ⟨rfl, rfl⟩))
    go_wp2_with fail
    refine ((unhide HC).2.2.2.2.2.1 _ (Fr.refl _ _).drew).mono ?_
    rintro e w1 ⟨b0, b1, b2, hb, ho, rfl, hL1, hF1⟩
    have H1 := hide (And.intro hL1 ((Fr.refl _ _).drew.trans hF1 (fun _ _ h => h)))
    clear hL1 hF1
    go_wp2_with fail
    refine ((unhide HC).2.2.2.2.2.2.1 _ _ _ _ _ _ (unhide H1).2 (unhide H1).1).mono ?_
    rintro e w2 ⟨eo, ec, rfl, hO2⟩
    have hS2 := hO2.sl (unhide HC).2.2.2.2.2.2.2.2.2.2.2.2.1
    rw [(unhide HC).2.2.2.2.2.2.2.2.2.2.2.1] at hS2
    have H2 := hide (And.intro hS2 ((unhide H1).2.trans hO2.fr (fun _ _ h => h)))
    clear hO2 hS2 H1
    go_wp2_with fail
    refine ((unhide HC).2.2.2.2.2.2.2.1 _ _ (unhide H2).2 (unhide H2).1).mono ?_
    rintro e w3 ⟨fo, rfl, hO3⟩
    have hS3 := hO3.sl (unhide HC).2.2.2.2.2.2.2.2.2.2.2.2.2.2
    rw [(unhide HC).2.2.2.2.2.2.2.2.2.2.2.2.2.1] at hS3
    have H3 := hide (And.intro hS3 ((unhide H2).2.trans hO3.fr (fun _ _ h => h)))
    clear hO3 hS3 H2
    go_wp2_with fail
    refine ((unhide HC).2.2.2.2.1 _).mono ?_
    rintro e w3' ⟨rfl, rfl⟩
    go_wp2_with fail
    refine ((unhide HC).2.2.2.2.2.2.2.2.1 _ _ _ ((unhide HR) _ (unhide H3).2 _)).mono ?_
    rintro e w4 ⟨ao, cp, us, rfl, hP4, hC4, hF4⟩
    have H4 := hide (And.intro hP4 (And.intro hC4 (And.intro ((unhide H3).1.fr0 hF4) ((unhide H3).2.trans hF4 (fun _ _ h => h)))))
    clear hP4 hC4 hF4 H3
    go_wp2_with fail
    refine ((unhide HC).2.2.2.2.2.2.2.2.2.2.1 _ _ _ _ (unhide H4).2.2.2 (unhide H4).2.2.1 (unhide H4).1 (unhide H4).2.1).mono ?_
    rintro e w5 ⟨rfl, hF5⟩
    have H5 := hide ((unhide H4).2.2.2.trans hF5 (fun _ _ h => h))
    clear hF5 H4
    go_wp2_with fail
    go_ret
    exact ⟨rfl, unhide H5⟩
  · have hcs' : ¬ PS = sc := fun h => hcs h.symm
    have hcs2 : ¬ (PS : Int) = (sc : Int) := by omega
    go_wp2_with fail
    go_region_held3 (fun _ => True)
      (trivial)
      (first
        | (go_at_call 28; refine ((unhide HC).2.2.2.1 _).mono ?_; rintro e wA ⟨rfl, rfl⟩))
    go_wp2_with fail
    refine ((unhide HC).2.2.2.2.2.1 _ (Fr.refl _ _).drew).mono ?_
    rintro e w1 ⟨b0, b1, b2, hb, ho, rfl, hL1, hF1⟩
    have H1 := hide (And.intro hL1 ((Fr.refl _ _).drew.trans hF1 (fun _ _ h => h)))
    clear hL1 hF1
    go_wp2_with fail
    refine ((unhide HC).2.2.2.2.2.2.1 _ _ _ _ _ _ (unhide H1).2 (unhide H1).1).mono ?_
    rintro e w2 ⟨eo, ec, rfl, hO2⟩
    have hS2 := hO2.sl (unhide HC).2.2.2.2.2.2.2.2.2.2.2.2.1
    rw [(unhide HC).2.2.2.2.2.2.2.2.2.2.2.1] at hS2
    have H2 := hide (And.intro hS2 ((unhide H1).2.trans hO2.fr (fun _ _ h => h)))
    clear hO2 hS2 H1
    go_wp2_with fail
    refine ((unhide HC).2.2.2.2.2.2.2.1 _ _ (unhide H2).2 (unhide H2).1).mono ?_
    rintro e w3 ⟨fo, rfl, hO3⟩
    have hS3 := hO3.sl (unhide HC).2.2.2.2.2.2.2.2.2.2.2.2.2.2
    rw [(unhide HC).2.2.2.2.2.2.2.2.2.2.2.2.2.1] at hS3
    have H3 := hide (And.intro hS3 ((unhide H2).2.trans hO3.fr (fun _ _ h => h)))
    clear hO3 hS3 H2
    go_wp2_with fail
    refine ((unhide HC).2.2.2.2.1 _).mono ?_
    rintro e w3' ⟨rfl, rfl⟩
    go_wp2_with fail
    refine ((unhide HC).2.2.2.2.2.2.2.2.1 _ _ _ (((unhide HC).2.2.2.2.2.2.2.2.2.1 _ (unhide H3).2).1 hcs)).mono ?_
    rintro e w4 ⟨ao, cp, us, rfl, hP4, hC4, hF4⟩
    have H4 := hide (And.intro hP4 (And.intro hC4 (And.intro ((unhide H3).1.fr0 hF4) ((unhide H3).2.trans hF4 (fun _ _ h => h)))))
    clear hP4 hC4 hF4 H3
    go_wp2_with fail
    refine ((unhide HC).2.2.2.2.2.2.2.2.2.2.1 _ _ _ _ (unhide H4).2.2.2 (unhide H4).2.2.1 (unhide H4).1 (unhide H4).2.1).mono ?_
    rintro e w5 ⟨rfl, hF5⟩
    have H5 := hide ((unhide H4).2.2.2.trans hF5 (fun _ _ h => h))
    clear hF5 H4
    go_wp2_with fail
    go_ret
    exact ⟨rfl, unhide H5⟩
end Go.Proofs.YtjokmlnghpnlbaaDoor

namespace Go.Proofs.YtjokmlnghpnlbaaDoor
open Go.RowKit

/-- May Check look at it? -/
def okL (j h K : Int) (pub s : List Nat) : Prop := ((1 ≤ j ∧ j ≤ 32) ∧ 0 ≤ h ∧ h ≤ 6) ∧ (pub.length : Int) = j ∧ (0 ≤ K ∧ K < ((2 ^ h.toNat : Nat) : Int)) ∧ (s.length : Int) = szF j h
instance (j h K : Int) (pub s : List Nat) : Decidable (okL j h K pub s) := by unfold okL; infer_instance
/-- What Check answers. -/
def chkL (j h : Int) (pub : List Nat) (K : Int) (m s : List Nat) : Bool := if okL j h K pub s then chk5 j.toNat h.toNat pub K m s else false
set_option maxRecDepth 100000 in
set_option maxHeartbeats 2000000 in
/-- lamport.Check, of what may not be. -/
theorem lcheck_no (j h K : Int) (po so : Option Addr) (pc sc : Nat) (mv : Value) (pub s : List Nat) (w : World) (hn : ¬ okL j h K pub s) :
    Calls Tryd.prog 16 #[.int .i64 j, .int .i64 h, .slice po pub.length pc, .int .i64 K, mv, .slice so s.length sc] w fun e w' => e = .returned (.bool false) ∧ Fr (fun _ => False) w w' := by
  have hmay := hide (lmay_any j h w)
  unfold okL at hn
  by_cases h1 : (1 ≤ j ∧ j ≤ 32) ∧ 0 ≤ h ∧ h ≤ 6
  · rw [decide_eq_true h1] at hmay
    by_cases h2 : (pub.length : Int) = j
    · obtain ⟨H, rfl⟩ : ∃ H : Nat, h = (H : Int) := ⟨h.toNat, by omega⟩
      rw [Int.toNat_natCast] at hn
      have hik := hide (liskey_any H (by omega) K w)
      by_cases h3 : 0 ≤ K ∧ K < ((2 ^ H : Nat) : Int)
      · rw [decide_eq_true h3] at hik
        have hsz := hide (lsize_any j H w)
        have h4 : ¬ (s.length : Int) = szF j H := fun e => hn ⟨h1, h2, h3, e⟩
        generalize szF j H = SZ at *
        generalize s.length = SN at *
        generalize pub.length = PN at *
        clear hn h3 h1
        subst h2
        go_enter Tryd.func16, Tryd.ntmps16
        go_wp2_with fail
        refine (unhide hmay).mono ?_
        rintro e w0 ⟨rfl, rfl⟩
        go_wp2_with fail
        refine (unhide hik).mono ?_
        rintro e w0' ⟨rfl, rfl⟩
        go_wp2_with fail
        refine (unhide hsz).mono ?_
        rintro e w0'' ⟨rfl, rfl⟩
        go_wp2_with fail
        go_ret
        exact ⟨rfl, Fr.refl _ _⟩
      · rw [decide_eq_false h3] at hik
        generalize s.length = SN at *
        generalize pub.length = PN at *
        clear hn h3 h1
        subst h2
        go_enter Tryd.func16, Tryd.ntmps16
        go_wp2_with fail
        refine (unhide hmay).mono ?_
        rintro e w0 ⟨rfl, rfl⟩
        go_wp2_with fail
        refine (unhide hik).mono ?_
        rintro e w0' ⟨rfl, rfl⟩
        go_wp2_with fail
        go_ret
        exact ⟨rfl, Fr.refl _ _⟩
    · generalize s.length = SN at *
      generalize pub.length = PN at *
      clear hn h1
      go_enter Tryd.func16, Tryd.ntmps16
      go_wp2_with fail
      refine (unhide hmay).mono ?_
      rintro e w0 ⟨rfl, rfl⟩
      go_wp2_with fail
      go_ret
      exact ⟨rfl, Fr.refl _ _⟩
  · rw [decide_eq_false h1] at hmay
    generalize s.length = SN at *
    generalize pub.length = PN at *
    clear hn h1
    go_enter Tryd.func16, Tryd.ntmps16
    go_wp2_with fail
    refine (unhide hmay).mono ?_
    rintro e w0 ⟨rfl, rfl⟩
    go_wp2_with fail
    go_ret
    exact ⟨rfl, Fr.refl _ _⟩
theorem szF_nat (wi H : Nat) (hw1 : 1 ≤ wi) (hw32 : wi ≤ 32) (hH : H ≤ 6) : szF wi H = ((16 * wi * wi + H * wi : Nat) : Int) := by rw [szF, if_pos (by omega)]; simp
/-- lamport.Check. -/
theorem lcheck_any (j h K : Int) (pv mv sv : Value) (pub m s : List Nat) (w : World) (hg : GS w) (hp : Sl w pv pub) (hm : Sl w mv m) (hs : Sl w sv s) (hml : m.length < 9223372036854775808) :
    Calls Tryd.prog 16 #[.int .i64 j, .int .i64 h, pv, .int .i64 K, mv, sv] w fun e w' => e = .returned (.bool (chkL j h pub K m s)) ∧ Fr (fun _ => False) w w' := by
  unfold chkL
  by_cases hok : okL j h K pub s
  · rw [if_pos hok]
    obtain ⟨h1, h2, h3, h4⟩ := hok
    obtain ⟨wi, rfl⟩ : ∃ wi : Nat, j = (wi : Int) := ⟨j.toNat, by omega⟩
    obtain ⟨H, rfl⟩ : ∃ H : Nat, h = (H : Int) := ⟨h.toNat, by omega⟩
    rw [Int.toNat_natCast] at h3
    rw [szF_nat wi H (by omega) (by omega) (by omega)] at h4
    rw [Int.toNat_natCast, Int.toNat_natCast]
    exact lcheck_in wi H (by omega) (by omega) (by omega) K h3 pv mv sv pub m s w hg hp hm hs (by omega) hml (by omega)
  · rw [if_neg hok]
    obtain ⟨po, pc, rfl⟩ := hp.form
    obtain ⟨so, sc, rfl⟩ := hs.form
    exact lcheck_no j h K po so pc sc mv pub s w hok
end Go.Proofs.YtjokmlnghpnlbaaDoor

namespace Go.Proofs.YtjokmlnghpnlbaaDoor
open Go.RowKit

set_option maxRecDepth 100000 in
set_option maxHeartbeats 2000000 in
/-- Keys.locks. -/
theorem llocks_any (kb wi K : Nat) (x : Value) (seed : List Nat) (w : World) (c0 : w.cell? ⟨kb, 0, none⟩ = some (.int .i64 (wi : Int))) (c2 : w.cell? ⟨kb, 2, none⟩ = some x) (hx : Sl w x seed) :
    Calls Tryd.prog 39 #[.pointer (some ⟨kb, 0, none⟩), .int .i64 K] w fun e w' => ∃ bk bi, e = .returned (.func (.func 65) #[] #[.pointer (some ⟨bk, 0, none⟩), .pointer (some ⟨bi, 0, none⟩)]) ∧ LkAt w' bk bi kb wi K x seed ∧ Fr (fun _ => False) w w' := by
  have hmf := mf
  obtain ⟨W2, hW2⟩ : ∃ W2, (w.alloc (.cells #[.pointer (some ⟨kb, 0, none⟩)] 26)).alloc (.cells #[.int .i64 (K : Int)] 3) = W2 := ⟨_, rfl⟩
  have hF2 : Fr (fun _ => False) w W2 := by rw [← hW2]; exact ((Fr.refl _ _).alloc _).alloc _
  have k1 : W2.cell? ⟨w.heap.size, 0, none⟩ = some (.pointer (some ⟨kb, 0, none⟩)) := by rw [← hW2]; simp [go_sem]
  have k2 : W2.cell? ⟨w.heap.size + 1, 0, none⟩ = some (.int .i64 (K : Int)) := by rw [← hW2]; simp [go_sem]
  have HW := hide (And.intro hF2 (show LkAt W2 _ _ kb wi K x seed from ⟨k1, k2, (hF2.cell (lt_of_cell c0) (fun h => h)).trans c0, (hF2.cell (lt_of_cell c2) (fun h => h)).trans c2, hx.fr0 hF2⟩))
  clear hF2 k1 k2 c0 c2 hx
  go_enter Tryd.func39, Tryd.ntmps39
  go_wp2_with fail
  go_ret
  try rw [hW2]
  exact ⟨_, _, rfl, (unhide HW).2, (unhide HW).1⟩
/-- Keys in memory, with the leaves that their tree has so far. -/
structure KyAt (w : World) (kb base tb wi H : Nat) (x : Value) (seed : List Nat) (L : List (List Nat)) : Prop where
  c0 : w.cell? ⟨kb, 0, none⟩ = some (.int .i64 (wi : Int))
  c1 : w.cell? ⟨kb, 1, none⟩ = some (.int .i64 (H : Int))
  c2 : w.cell? ⟨kb, 2, none⟩ = some x
  c3 : w.cell? ⟨kb, 3, none⟩ = some (.pointer (some ⟨tb, 0, none⟩))
  sl : Sl w x seed
  sb : seed = [] ∨ ∀ g o n c, x = .slice (some ⟨g, o, none⟩) n c → g < base
  gb : 6 ≤ base
  tr : ∃ xo cp vs rs, TrAt w base tb wi L.length xo cp vs rs ∧ RowsOf wi L 0 rs ∧ ¬ TOwn tb xo vs kb
  gs : GS w
  gt : GT w
  wid : ∀ p ∈ L, p.length = wi
  byt : ∀ p ∈ L, ∀ v ∈ p, v < 256
theorem KyAt.fr0 {w w' : World} {kb base tb wi H : Nat} {x : Value} {seed : List Nat} {L : List (List Nat)} (h : KyAt w kb base tb wi H x seed L) (hf : Fr (fun _ => False) w w') : KyAt w' kb base tb wi H x seed L := by
  obtain ⟨xo, cp, vs, rs, h1, h2, h3⟩ := h.tr
  have hc : ∀ j v, w.cell? ⟨kb, j, none⟩ = some v → w'.cell? ⟨kb, j, none⟩ = some v := fun j v hv => (hf.cell (p := ⟨kb, j, none⟩) (lt_of_cell hv) (fun h => h)).trans hv
  exact ⟨hc _ _ h.c0, hc _ _ h.c1, hc _ _ h.c2, hc _ _ h.c3, h.sl.fr0 hf, h.sb, h.gb, ⟨xo, cp, vs, rs, h1.fr hf (fun _ _ h => h), h2, h3⟩, h.gs.fr0 hf, h.gt.fr0 hf, h.wid, h.byt⟩
theorem KyAt.tk {w : World} {kb base tb wi H : Nat} {x : Value} {seed : List Nat} {L : List (List Nat)} (h : KyAt w kb base tb wi H x seed L) (hL : L.length ≤ 8000000) : Tk w tb wi L := by
  obtain ⟨xo, cp, vs, rs, h1, h2, _⟩ := h.tr
  exact ⟨⟨base, xo, cp, vs, rs, h1, h2⟩, h.gs, h.gt, h.wid, h.byt, hL⟩
/-- One entry more. -/
theorem KyAt.add {w : World} {kb base tb wi H : Nat} {x : Value} {seed : List Nat} {L : List (List Nat)} (h : KyAt w kb base tb wi H x seed L) (hw1 : 1 ≤ wi) (hw32 : wi ≤ 32) (hL : L.length ≤ 8000) (y : Value) (e : List Nat) (hy : Sl w y e) (he : e.length ≤ 16000000) :
    Calls Tryd.prog 37 #[.pointer (some ⟨tb, 0, none⟩), y] w fun e' w' => e' = .returned (.int .i64 L.length) ∧ KyAt w' kb base tb wi H x seed (L ++ [lf wi e]) ∧ Fr (fun k => base ≤ k) w w' := by
  obtain ⟨xo, cp, vs, rs, hT, hR, hK⟩ := h.tr
  obtain ⟨hs1, hs2⟩ := hR.small hw1 hw32 h.wid (by omega)
  refine (add_in wi hw1 hw32 base tb L.length h.gb w xo cp vs rs y e hT h.gs hy he hs1 hs2 (by omega)).mono ?_
  rintro e' w' ⟨rfl, xo', cp', vs', hT', hF, hO⟩
  have hwid : ∀ p ∈ L ++ [lf wi e], p.length = wi := fun p hp => (List.mem_append.1 hp).elim (h.wid p) (fun hp => by rw [List.mem_singleton.1 hp]; exact lf_len wi hw1 hw32 e)
  have hR' := hR.add hw1 hw32 (lf wi e) hwid
  have hown : ∀ k, TOwn tb xo vs k → base ≤ k := fun j hj => (hT.lt j hj).1
  have hc : ∀ j v, w.cell? ⟨kb, j, none⟩ = some v → w'.cell? ⟨kb, j, none⟩ = some v := fun j v hv => (hF.cell (p := ⟨kb, j, none⟩) (lt_of_cell hv) hK).trans hv
  have hFb : Fr (fun k => base ≤ k) w w' := hF.mono (fun k _ hk => hown k hk)
  have hkb : kb < w.heap.size := lt_of_cell h.c0
  have hgb := h.gb
  have hgf : GS w' := h.gs.fr hFb (fun k hk hb => by omega)
  have htf : GT w' := h.gt.fr hFb (fun k hk hb => by omega)
  refine ⟨rfl, ⟨hc _ _ h.c0, hc _ _ h.c1, hc _ _ h.c2, hc _ _ h.c3, h.sl.frD hFb (h.sb.imp id (fun hh g o n c ex hb => by have := hh g o n c ex; omega)), h.sb, h.gb, ⟨xo', cp', vs', _, by rw [List.length_append]; exact hT', hR', fun hk => ?_⟩, hgf, htf, hwid, fun p hp => (List.mem_append.1 hp).elim (h.byt p) (fun hp => by rw [List.mem_singleton.1 hp]; exact lf_lt _ e)⟩, hFb⟩
  rcases hO kb hk with h1 | h1
  · exact hK h1
  · omega
end Go.Proofs.YtjokmlnghpnlbaaDoor

namespace Go.Proofs.YtjokmlnghpnlbaaDoor
open Go.RowKit

/-- bytes.Clone of whatever bytes. -/
theorem clone_sl (x : Value) (l : List Nat) (w : World) (h : Sl w x l) (hn : l.length ≤ 1000000000) :
    Calls Tryd.prog 35 #[x] w fun e w' => ∃ yo yc, e = .returned (.slice yo l.length yc) ∧ OB w w' yo yc l := by
  rcases h.s with ⟨rfl, rfl⟩ | ⟨g, o, c, rfl, _⟩ | ⟨a, c, rfl, rfl⟩
  · refine (Any.bytes_Clone_nil laysSlK4 0 0 w).mono ?_
    rintro e w' ⟨rfl, rfl⟩
    exact ⟨none, 0, rfl, own_nil _ _, Fr.refl _ _⟩
  · exact clone_any g o _ c l w h rfl hn
  · refine (clone_at a 0 c [] w rfl (by omega) (fun i hi => by omega)).mono ?_
    rintro e w' ⟨v', rfl, hO, _, hB⟩
    obtain ⟨ao, cap, rfl⟩ := own_form hO
    exact ⟨ao, cap, rfl, hO, ⟨hB.os, hB.tape, hB.output, hB.size, fun k hk _ => hB.block k hk⟩⟩
set_option maxRecDepth 100000 in
theorem lkeylen_any (kb H : Nat) (hH : H ≤ 6) (w : World) (c1 : w.cell? ⟨kb, 1, none⟩ = some (.int .i64 (H : Int))) :
    Calls Tryd.prog 12 #[.pointer (some ⟨kb, 0, none⟩)] w fun e w' => e = .returned (.int .i64 ((2 ^ H : Nat) : Int)) ∧ w' = w := by
  have hk := hide (lkeys_any H hH w)
  generalize 2 ^ H = N at *
  go_enter Tryd.func12, Tryd.ntmps12
  go_wp2_with fail
  refine (unhide hk).mono ?_
  rintro e w0 ⟨rfl, rfl⟩
  go_wp2_with fail
  go_ret
  exact ⟨rfl, rfl⟩
/-- A key's entry; its leaf. -/
def eN (wi : Nat) (seed : List Nat) (k : Nat) : List Nat := ent (lk wi k seed) (8 * wi)
def lvs (wi : Nat) (seed : List Nat) (n : Nat) : List (List Nat) := (List.range n).map fun k => lf wi (eN wi seed k)
theorem lvs_succ (wi : Nat) (seed : List Nat) (n : Nat) : lvs wi seed (n + 1) = lvs wi seed n ++ [lf wi (eN wi seed n)] := by simp [lvs, List.range_succ]
theorem lvs_len (wi : Nat) (seed : List Nat) (n : Nat) : (lvs wi seed n).length = n := by simp [lvs]
theorem eN_len (wi : Nat) (hw1 : 1 ≤ wi) (hw32 : wi ≤ 32) (seed : List Nat) (k : Nat) : (eN wi seed k).length = 16 * wi * wi := by
  rw [eN, ent_len _ wi (8 * wi) (fun J V _ _ => lk_len wi k hw1 hw32 seed J V), ← Nat.mul_assoc]
theorem eN_lt (wi : Nat) (seed : List Nat) (k : Nat) : ∀ v ∈ eN wi seed k, v < 256 := ent_lt _ (lk_lt wi k seed) _
set_option maxRecDepth 100000 in
set_option maxHeartbeats 4000000 in
/-- New, of what may be. -/
theorem lnew_in (wi H : Nat) (hw1 : 1 ≤ wi) (hw32 : wi ≤ 32) (hH : H ≤ 6) (x : Value) (seed : List Nat) (w : World) (hg : GS w) (ht : GT w) (hx : Sl w x seed) (hs : seed.length ≤ 1000000000) :
    Calls Tryd.prog 11 #[.int .i64 wi, .int .i64 H, x] w fun e w' => ∃ kb base tb yo yc, e = .returned (.tuple #[.pointer (some ⟨kb, 0, none⟩), .int .i64 0]) ∧ KyAt w' kb base tb wi H (.slice yo seed.length yc) seed (lvs wi seed (2 ^ H)) ∧ Fr (fun _ => False) w w' := by
  obtain ⟨xo, xc, rfl⟩ := hx.form
  have hmay := fun w' => lmay_any wi H w'
  rw [decide_eq_true (by omega)] at hmay
  have hcl := clone_sl _ seed w hx hs
  have hN64 : 2 ^ H ≤ 64 := Nat.pow_le_pow_right (n := 2) (by decide) hH
  have hps9 : 16 * wi * wi ≤ 16384 := Nat.mul_le_mul (show 16 * wi ≤ 512 by omega) hw32
  have hlen := fun kb w' (c1 : w'.cell? ⟨kb, 1, none⟩ = some (.int .i64 (H : Int))) => lkeylen_any kb H hH w' c1
  have hNG : 6 ≤ w.heap.size := ht.2
  have hsb := hx.b
  generalize hSN : seed.length = SN at *
  generalize 2 ^ H = N at *
  have HC := hide (And.intro hmay (And.intro hcl (And.intro hlen (And.intro hg (And.intro ht (And.intro hNG (And.intro hs hsb)))))))
  clear hmay hcl hlen hg ht hx hNG hs hsb
  go_enter Tryd.func11, Tryd.ntmps11
  go_wp2_with fail
  refine ((unhide HC).1 _).mono ?_
  rintro e w0 ⟨rfl, rfl⟩
  go_wp2_with fail
  refine (unhide HC).2.1.mono ?_
  rintro e w1 ⟨yo, yc, rfl, hO1⟩
  have H1 := hide hO1
  clear hO1
  go_wp2_with fail
  refine (mnew_any _ _).mono ?_
  rintro e w2 ⟨rfl, hT, hF2⟩
  obtain ⟨W, hW⟩ : ∃ W, w2.alloc (.cells #[.int .i64 (wi : Int), .int .i64 (H : Int), .slice yo SN yc, .pointer (some ⟨w1.heap.size, 0, none⟩)] 57) = W := ⟨_, rfl⟩
  have hF3 : Fr (fun _ => False) w2 W := by rw [← hW]; exact (Fr.refl _ _).alloc _
  have hcc : ∀ j, W.cell? ⟨w2.heap.size, j, none⟩ = (#[.int .i64 (wi : Int), .int .i64 (H : Int), .slice yo SN yc, .pointer (some ⟨w1.heap.size, 0, none⟩)] : Array Value)[j]? := fun j => by rw [← hW]; exact World.cell?_alloc_at _ _ _ _ rfl
  have hFW : Fr (fun _ => False) w0 W := (unhide H1).fr.trans (hF2.trans hF3 (fun _ _ h => h)) (fun _ _ h => h)
  have hKy : KyAt W w2.heap.size w1.heap.size w1.heap.size wi H (.slice yo SN yc) seed [] := by
    obtain ⟨_, _, _, _, htl⟩ := hT.cells
    have hF23 := hF2.trans hF3 (fun _ _ h => h)
    have hsl := (unhide H1).sl (unhide HC).2.2.2.2.2.2.2
    have hlt := (unhide H1).lt
    rw [hSN] at hsl hlt
    refine ⟨hcc 0, hcc 1, hcc 2, hcc 3, hsl.fr0 hF23, .inr (fun g o n c e => hlt g o n c e), Nat.le_trans (unhide HC).2.2.2.2.2.1 (unhide H1).fr.size, ⟨none, 0, [], [], hT.fr hF3 (fun _ _ h => h), rows_nil wi, fun hk => ?_⟩, (unhide HC).2.2.2.1.fr0 hFW, (unhide HC).2.2.2.2.1.fr0 hFW, fun p hp => (by cases hp), fun p hp => (by cases hp)⟩
    rcases hk with h | ⟨o, h⟩ | ⟨v, h, _⟩
    · omega
    · cases h
    · cases h
  have hbt : w0.heap.size ≤ w1.heap.size := (unhide H1).fr.size
  have d1 := hcc 1
  have HW := hide (And.intro hKy hFW)
  clear hT hF2 hF3 hcc hKy hFW
  go_wp2_with fail
  try rw [hW]
  generalize w2.heap.size = kb at *
  generalize w1.heap.size = tb at *
  refine ((unhide HC).2.2.1 kb W d1).mono ?_
  rintro e w3 ⟨rfl, rfl⟩
  go_wp2_with fail
  clear d1 hW
  go_loopw [24] (fun iv wr => ∃ k : Nat, k ≤ N ∧ iv = .int .i64 (k : Nat) ∧ KyAt wr kb tb tb wi H (.slice yo SN yc) seed (lvs wi seed k) ∧ Fr (fun _ => False) w0 wr) (fun iv _ => N - (intOf iv).toNat)
  case atStart => exact ⟨0, Nat.zero_le _, rfl, (unhide HW).1, (unhide HW).2⟩
  case round =>
    obtain ⟨k, hk, rfl, hI, hF⟩ := hrel
    by_cases hlt : k < N
    · have hlt' : (k : Int) < (N : Int) := by omega
      have hs9 := (unhide HC).2.2.2.2.2.2.1
      have hlk := fun w' (hf : Fr (fun _ => False) wr w') => llocks_any kb wi k _ seed w' (hI.fr0 hf).c0 (hI.fr0 hf).c2 (hI.fr0 hf).sl
      have hen := fun w' bk bi (hf : Fr (fun _ => False) wr w') (h : LkAt w' bk bi kb wi k (.slice yo SN yc) seed) => lentry_any wi _ hw1 hw32 _ _ w' (h.f (hI.gs.fr0 hf) hw1 hw32 (by omega) (by omega))
      have hel := eN_len wi hw1 hw32 seed k
      have heb := eN_lt wi seed k
      have hls := lvs_succ wi seed k
      have hll := lvs_len wi seed k
      have had := fun w' y (hf : Fr (fun _ => False) wr w') (h : Sl w' y (eN wi seed k)) => (hI.fr0 hf).add hw1 hw32 (by omega) y _ h (by omega)
      rw [← hls, hll] at had
      have e0 : ent (lk wi k seed) (8 * wi) = eN wi seed k := rfl
      rw [e0] at hen
      have hc3 := fun w' (hf : Fr (fun _ => False) wr w') => (hI.fr0 hf).c3
      generalize hEN : eN wi seed k = EN at *
      generalize hPS : 16 * wi * wi = PS at *
      have HI := hide (And.intro hlk (And.intro hen (And.intro had (And.intro hc3 (And.intro hel (And.intro heb hF))))))
      clear hlk hen had hc3 hel heb hF hI hls hll e0 hEN hPS
      have T1 : True := trivial
      go_wp2_with fail
      go_region_held3 (fun w' => w'.cell? ⟨kb, 3, none⟩ = some (.pointer (some ⟨tb, 0, none⟩)))
        (first | assumption | exact (unhide HI).2.2.2.1 _ (Fr.refl _ _).drew | exact kC.c3 | exact (unhide HI).2.2.2.1 _ fB | exact (unhide HI).2.2.2.1 _ fA)
        (first
          | (go_at_call 39; clear T1; refine ((unhide HI).1 _ (Fr.refl _ _).drew).mono ?_; rintro e wA ⟨bk, bi, rfl, hA, gA⟩; have fA : Fr (fun _ => False) wr wA := (Fr.refl _ _).drew.trans gA (fun _ _ h => h))
          | (go_at_call 38; refine ((unhide HI).2.1 _ _ _ fA hA).mono ?_; rintro e wB ⟨eo, ec, rfl, hB⟩; have fB : Fr (fun _ => False) wr wB := fA.trans hB.fr (fun _ _ h => h); have sB := (unhide HI).2.2.2.2.1 ▸ hB.sl (unhide HI).2.2.2.2.2.1)
          | (go_at_call 37; refine ((unhide HI).2.2.1 _ _ fB sB).mono ?_; rintro e wC ⟨rfl, kC, gC⟩))
      have hFC := ((unhide HI).2.2.2.2.2.2.trans fB (fun _ _ h => h)).trans gC (fun j hj hb => by omega)
      have H5 := hide (And.intro kC hFC)
      clear fA fB gA gC kC hFC hA hB sB
      go_wp2_with fail
      exact ⟨⟨k + 1, by omega, by go_num, (unhide H5).1, (unhide H5).2⟩, by simp [intOf]; omega⟩
    · have hlt' : ¬ (k : Int) < (N : Int) := by omega
      have hkN : k = N := by omega
      subst hkN
      have H5 := hide (And.intro hI hF)
      clear hI hF
      go_wp2_with fail
      refine bodyPost_ret (v := .tuple #[.pointer (some ⟨kb, 0, none⟩), .int .i64 0]) (by simp [results, Tryd.results11, go_sem]) rfl ?_
      first | exact ⟨kb, rfl, ⟨tb, tb, yo, yc, (unhide H5).1⟩, (unhide H5).2⟩ | exact ⟨kb, tb, tb, yo, yc, rfl, (unhide H5).1, (unhide H5).2⟩
end Go.Proofs.YtjokmlnghpnlbaaDoor

namespace Go.Proofs.YtjokmlnghpnlbaaDoor
open Go.RowKit

set_option maxRecDepth 100000 in
set_option maxHeartbeats 4000000 in
/-- Keys.Public. -/
theorem lpublic_any (wi H kb base tb : Nat) (hw1 : 1 ≤ wi) (hw32 : wi ≤ 32) (hH : H ≤ 6) (x : Value) (seed : List Nat) (L : List (List Nat)) (w : World) (h : KyAt w kb base tb wi H x seed L) (hL : L.length = 2 ^ H) :
    Calls Tryd.prog 15 #[.pointer (some ⟨kb, 0, none⟩)] w fun e w' => ∃ yo yc, e = .returned (.slice yo wi yc) ∧ OB w w' yo yc (mth wi L) := by
  have hN64 : 2 ^ H ≤ 64 := Nat.pow_le_pow_right (n := 2) (by decide) hH
  have hlen := fun w' (hf : Fr (fun _ => False) w w') => lkeylen_any kb H hH w' (h.fr0 hf).c1
  have hrt := fun w' (hf : Fr (fun _ => False) w w') => troot_in tb wi hw1 hw32 L L.length w' ((h.fr0 hf).tk (by omega)) (Nat.le_refl _)
  have hbl : blk L 0 L.length = L := by simp [blk]
  rw [hbl, hL] at hrt
  have hc3 := fun w' (hf : Fr (fun _ => False) w w') => (h.fr0 hf).c3
  generalize 2 ^ H = N at *
  generalize mth wi L = M at *
  have HC := hide (And.intro hlen (And.intro hrt hc3))
  clear hlen hrt hc3 h hL hbl
  have T1 : True := trivial
  go_enter Tryd.func15, Tryd.ntmps15
  go_wp2_with fail
  go_region_held3 (fun w' => w'.cell? ⟨kb, 3, none⟩ = some (.pointer (some ⟨tb, 0, none⟩)))
    (first | assumption | exact (unhide HC).2.2 _ (Fr.refl _ _).drew | exact (unhide HC).2.2 _ fB | exact (unhide HC).2.2 _ fA)
    (first
      | (go_at_call 12; clear T1; refine ((unhide HC).1 _ (Fr.refl _ _).drew).mono ?_; rintro e wA ⟨rfl, rfl⟩; have fA : Fr (fun _ => False) w w.drew := (Fr.refl _ _).drew)
      | (go_at_call 44; refine ((unhide HC).2.1 _ fA).mono ?_; rintro e wB ⟨yo, yc, rfl, oB⟩; have fB : Fr (fun _ => False) w wB := fA.trans oB.fr (fun _ _ h => h)))
  have H5 := hide (oB.base fA)
  clear fA fB oB
  go_wp2_with fail
  go_ret
  exact ⟨yo, yc, rfl, unhide H5⟩
end Go.Proofs.YtjokmlnghpnlbaaDoor

namespace Go.Proofs.YtjokmlnghpnlbaaDoor
open Go.RowKit

set_option maxRecDepth 100000 in
set_option maxHeartbeats 4000000 in
/-- Keys.Leaf, of a key. -/
theorem lleaf_in (wi H kb base tb K : Nat) (hw1 : 1 ≤ wi) (hw32 : wi ≤ 32) (hH : H ≤ 6) (hK : K < 2 ^ H) (yo : Option Addr) (SN yc : Nat) (seed : List Nat) (L : List (List Nat)) (w : World) (h : KyAt w kb base tb wi H (.slice yo SN yc) seed L) (hs : seed.length ≤ 1000000000) :
    Calls Tryd.prog 13 #[.pointer (some ⟨kb, 0, none⟩), .int .i64 K] w fun e w' => ∃ zo, e = .returned (.tuple #[.slice zo wi wi, .int .i64 0]) ∧ OB w w' zo wi (lf wi (eN wi seed K)) := by
  have hN64 : 2 ^ H ≤ 64 := Nat.pow_le_pow_right (n := 2) (by decide) hH
  have hps9 : 16 * wi * wi ≤ 16384 := Nat.mul_le_mul (show 16 * wi ≤ 512 by omega) hw32
  have hik := fun w' => liskey_any H hH K w'
  rw [decide_eq_true (by omega)] at hik
  have hlk := fun w' (hf : Fr (fun _ => False) w w') => llocks_any kb wi K _ seed w' (h.fr0 hf).c0 (h.fr0 hf).c2 (h.fr0 hf).sl
  have hen := fun w' bk bi (hf : Fr (fun _ => False) w w') (hl : LkAt w' bk bi kb wi K (.slice yo SN yc) seed) => lentry_any wi _ hw1 hw32 _ _ w' (hl.f (h.gs.fr0 hf) hw1 hw32 (by omega) (by omega))
  have hel := eN_len wi hw1 hw32 seed K
  have heb := eN_lt wi seed K
  have e0 : ent (lk wi K seed) (8 * wi) = eN wi seed K := rfl
  rw [e0] at hen
  have hlf := fun w' x (hf : Fr (fun _ => False) w w') (hx : Sl w' x (eN wi seed K)) => leaf_any wi x _ w' (h.gs.fr0 hf) hx (by omega)
  rw [lf_len5 wi hw1 hw32] at hlf
  have hcc := fun w' (hf : Fr (fun _ => False) w w') => And.intro (h.fr0 hf).c0 (h.fr0 hf).c1
  have c0 := h.c0
  have c1 := h.c1
  generalize eN wi seed K = EN at *
  generalize 16 * wi * wi = PS at *
  have HC := hide (And.intro hik (And.intro hlk (And.intro hen (And.intro hlf (And.intro hcc (And.intro hel heb))))))
  clear hik hlk hen hlf hcc hel heb h e0 hK
  have T1 : True := trivial
  go_enter Tryd.func13, Tryd.ntmps13
  go_wp2_with fail
  refine ((unhide HC).1 _).mono ?_
  rintro e w0 ⟨rfl, rfl⟩
  go_wp2_with fail
  go_region_held3 (fun w' => w'.cell? ⟨kb, 0, none⟩ = some (.int .i64 (wi : Int)) ∧ w'.cell? ⟨kb, 1, none⟩ = some (.int .i64 (H : Int)))
    (first | assumption | exact (unhide HC).2.2.2.2.1 _ (Fr.refl _ _).drew | exact (unhide HC).2.2.2.2.1 _ fC | exact (unhide HC).2.2.2.2.1 _ fB | exact (unhide HC).2.2.2.2.1 _ fA)
    (first
      | (go_at_call 39; clear T1; refine ((unhide HC).2.1 _ (Fr.refl _ _).drew).mono ?_; rintro e wA ⟨bk, bi, rfl, hA, gA⟩; have fA : Fr (fun _ => False) w0 wA := (Fr.refl _ _).drew.trans gA (fun _ _ h => h))
      | (go_at_call 38; refine ((unhide HC).2.2.1 _ _ _ fA hA).mono ?_; rintro e wB ⟨eo, ec, rfl, hB⟩; have fB : Fr (fun _ => False) w0 wB := fA.trans hB.fr (fun _ _ h => h); have sB := (unhide HC).2.2.2.2.2.1 ▸ hB.sl (unhide HC).2.2.2.2.2.2)
      | (go_at_call 41; refine ((unhide HC).2.2.2.1 _ _ fB sB).mono ?_; rintro e wC ⟨zo, rfl, hC⟩; have fC : Fr (fun _ => False) w0 wC := fB.trans hC.fr (fun _ _ h => h)))
  have H5 := hide (hC.base fB)
  clear fA fB fC gA hA hB hC sB
  go_wp2_with fail
  refine bodyPost_ret (v := .tuple #[.slice zo wi wi, .int .i64 0]) (by simp [results, Tryd.results13, go_sem]) rfl ?_
  exact ⟨zo, rfl, unhide H5⟩
set_option maxRecDepth 100000 in
/-- Keys.Leaf, of what is no key. -/
theorem lleaf_no (H kb : Nat) (hH : H ≤ 6) (K : Int) (hK : ¬ (0 ≤ K ∧ K < ((2 ^ H : Nat) : Int))) (w : World) (c1 : w.cell? ⟨kb, 1, none⟩ = some (.int .i64 (H : Int))) :
    Calls Tryd.prog 13 #[.pointer (some ⟨kb, 0, none⟩), .int .i64 K] w fun e w' => e = .returned (.tuple #[.slice none 0 0, .int .i64 1]) ∧ w' = w := by
  have hik := liskey_any H hH K w
  rw [decide_eq_false hK] at hik
  have HC := hide hik
  clear hik hK
  go_enter Tryd.func13, Tryd.ntmps13
  go_wp2_with fail
  refine (unhide HC).mono ?_
  rintro e w0 ⟨rfl, rfl⟩
  go_wp2_with fail
  refine bodyPost_ret (v := .tuple #[.slice none 0 0, .int .i64 1]) (by simp [results, Tryd.results13, go_sem]) rfl ?_
  exact ⟨rfl, rfl⟩
end Go.Proofs.YtjokmlnghpnlbaaDoor

namespace Go.Proofs.YtjokmlnghpnlbaaDoor
open Go.RowKit

theorem OL.stepW {w wr w1 : World} {ao : Option Addr} {cp : Nat} {vs : List Value} {ps : List (List Nat)} (h : OL w wr ao cp vs ps) (l : List Nat) (wi : Nat) (hl : l.length = wi) (yo : Option Addr) (yc : Nat) (hO : OB wr w1 yo yc l) (hb : ∀ v ∈ l, v < 256) (hn : vs.length < 16000000) :
    ∃ ao' cp' w2, (Builtin.append_ #[40, 40] 40 #[.slice ao vs.length cp, .slice (some ⟨w1.heap.size, 0, none⟩) 1 1]).run Tryd.prog (w1.alloc (.cells #[.slice yo wi yc] 24)) = .ok (.slice ao' (vs.length + 1) cp') w2 ∧ OL w w2 ao' cp' (vs ++ [.slice yo wi yc]) (ps ++ [l]) := by
  subst hl
  exact h.step l yo yc hO hb hn
theorem boxAB (w : World) (a0 a1 a2 b0 b1 : Value) (ta tb : Nat) (W : World) (hW : (w.alloc (.cells #[a0, a1, a2] ta)).alloc (.cells #[b0, b1] tb) = W) :
    W.cell? ⟨w.heap.size + 1, 0, none⟩ = some b0 ∧ W.cell? ⟨w.heap.size + 1, 1, none⟩ = some b1 ∧ Fr (fun _ => False) w W := by
  subst hW
  have e1 : w.heap.size + 1 = (w.alloc (.cells #[a0, a1, a2] ta)).heap.size := by simp
  have B : ∀ j : Nat, ((w.alloc (.cells #[a0, a1, a2] ta)).alloc (.cells #[b0, b1] tb)).cell? ⟨w.heap.size + 1, j, none⟩ = (#[b0, b1] : Array Value)[j]? := fun j => by
    rw [e1, World.cell?_alloc_at _ _ _ _ rfl]
  exact ⟨B 0, B 1, ((Fr.refl _ _).alloc _).alloc _⟩
def BesSays (tb wi : Nat) (L : List (List Nat)) (f n tf tn : Nat) (w : World) : Prop :=
  Calls Tryd.prog 71 #[pv (.pointer (some ⟨tb, 0, none⟩)) f n, sv tf tn] w fun e w' => ∃ ao cp vs, e = .returned (.slice ao vs.length cp) ∧ OL w w' ao cp vs (bes wi L f n tf tn)
set_option maxRecDepth 100000 in
set_option maxHeartbeats 2000000 in
/-- The halves left aside on the way to a part. -/
theorem beside_any (tb wi : Nat) (hw1 : 1 ≤ wi) (hw32 : wi ≤ 32) (L : List (List Nat)) (m : Nat) : ∀ (f n tf tn : Nat) (w : World), n ≤ m → Tk w tb wi L → Al f n → f + n ≤ L.length → Rch f n tf tn → BesSays tb wi L f n tf tn w := by
  induction m with
  | zero =>
    intro f n tf tn w hm hT hA hL hr
    by_cases e : f = tf ∧ n = tn
    · obtain ⟨rfl, rfl⟩ := e
      unfold BesSays sv pv
      rw [bes_eq]
      have eqs := fun w => eq_span f n f n w
      simp only [decide_true, and_self] at eqs
      have eg := Tryd.guard_span
      go_enter Tryd.func71, Tryd.ntmps71
      go_wp2_with fail
      go_ret
      exact ⟨none, 0, [], rfl, (OL.nil _).base (((Fr.refl _ _).alloc _).alloc _)⟩
    · have := (rch_ne hr e).1; omega
  | succ m ih =>
    intro f n tf tn w hm hT hA hL hr
    by_cases e : f = tf ∧ n = tn
    · obtain ⟨rfl, rfl⟩ := e
      unfold BesSays sv pv
      rw [bes_eq]
      have eqs := fun w => eq_span f n f n w
      simp only [decide_true, and_self] at eqs
      have eg := Tryd.guard_span
      go_enter Tryd.func71, Tryd.ntmps71
      go_wp2_with fail
      go_ret
      exact ⟨none, 0, [], rfl, (OL.nil _).base (((Fr.refl _ _).alloc _).alloc _)⟩
    · obtain ⟨h2, r1, r2⟩ := rch_ne hr e
      have hlt := hf_lt n h2
      have hp := hf_pos n
      obtain ⟨hA1, hA2⟩ := hA.halves h2
      have hle := hT.len
      have eqs := fun w => eq_span f n tf tn w
      rw [decide_eq_false e] at eqs
      have eg := Tryd.guard_span
      have hpt := fun w => parts_any (some ⟨tb, 0, none⟩) f n w (by omega) h2
      have hbf := fun w => before_any tf tn (f + hf n) (n - hf n) w
      clear hle
      by_cases hl : tf < f + hf n
      · rw [decide_eq_true hl] at hbf
        have hrec := fun w' (hf' : Fr (fun _ => False) w w') => ih f (hf n) tf tn w' (by omega) (hT.fr0 hf') hA1 (by omega) (r1 hl)
        have hroot := fun w' (hf' : Fr (fun _ => False) w w') => root_any tb wi hw1 hw32 L _ (f + hf n) (n - hf n) w' (Nat.le_refl _) (hT.fr0 hf') hA2 (by omega)
        have hMw := hT.mw hw1 hw32 (f + hf n) (n - hf n)
        have hMb := hT.mb (f + hf n) (n - hf n)
        have hdl := dep_le _ f (hf n) tf tn (Nat.le_refl _)
        rw [← bes_len wi L _ f (hf n) tf tn (Nat.le_refl _)] at hdl
        unfold BesSays RootSays at *
        rw [bes_l h2 e hl]
        generalize bes wi L f (hf n) tf tn = BS at *
        generalize mth wi (blk L (f + hf n) (n - hf n)) = M at *
        have hbl : BS.length < 16000000 := by have := hT.len; omega
        clear hdl
        generalize f + hf n = F2 at *
        generalize n - hf n = N2 at *
        generalize hf n = K at *
        have HC := hide (And.intro hpt (And.intro hbf (And.intro hrec (And.intro hroot (And.intro hMw (And.intro hMb hbl))))))
        clear hpt hbf hrec hroot r1 r2 hr ih hlt hp hl hm h2 e hT hA1 hA2 hMw hMb hbl hL
        unfold sv pv at *
        go_enter Tryd.func71, Tryd.ntmps71
        go_wp2_with fail
        obtain ⟨W0, hW0⟩ : ∃ W0, (w.alloc (.cells #[.pointer (some ⟨tb, 0, none⟩), .int .i64 f, .int .i64 n] 94)).alloc (.cells #[.int .i64 tf, .int .i64 tn] 92) = W0 := ⟨_, rfl⟩
        rw [hW0]
        obtain ⟨b0, b1, hF0⟩ := boxAB w _ _ _ _ _ _ _ W0 hW0
        refine ((unhide HC).1 _).mono ?_
        rintro e' wA ⟨rfl, hFA⟩
        have c0 := (hFA.cell (lt_of_cell b0) (fun h => h)).trans b0
        have c1 := (hFA.cell (lt_of_cell b1) (fun h => h)).trans b1
        have HF := hide (hF0.trans hFA (fun _ _ h => h))
        clear hFA hF0 b0 b1 hW0
        generalize w.heap.size + 1 = PB at *
        have l0 : PB < wA.heap.size := lt_of_cell c0
        have l1 : PB < wA.heap.size + 1 := Nat.lt_succ_of_lt l0
        go_wp2_with fail
        obtain ⟨W1, hW1⟩ : ∃ W1, (wA.alloc (.cells #[.pointer (some ⟨tb, 0, none⟩), .int .i64 f, .int .i64 K] 94)).alloc (.cells #[.pointer (some ⟨tb, 0, none⟩), .int .i64 F2, .int .i64 N2] 94) = W1 := ⟨_, rfl⟩
        rw [hW1]
        obtain ⟨x0, x1, x2, y0, y1, y2, hF1⟩ := two3 wA _ _ _ _ _ _ _ W1 hW1
        refine ((unhide HC).2.1 _).mono ?_
        rintro e' wB ⟨rfl, hFB⟩
        have hF1B := hF1.trans hFB (fun _ _ h => h)
        have d0 := (hF1B.cell (lt_of_cell c0) (fun h => h)).trans c0
        have d1 := (hF1B.cell (lt_of_cell c1) (fun h => h)).trans c1
        have u0 := (hFB.cell (lt_of_cell x0) (fun h => h)).trans x0
        have u1 := (hFB.cell (lt_of_cell x1) (fun h => h)).trans x1
        have u2 := (hFB.cell (lt_of_cell x2) (fun h => h)).trans x2
        have v0 := (hFB.cell (lt_of_cell y0) (fun h => h)).trans y0
        have v1 := (hFB.cell (lt_of_cell y1) (fun h => h)).trans y1
        have v2 := (hFB.cell (lt_of_cell y2) (fun h => h)).trans y2
        have HF2 := hide ((unhide HF).trans hF1B (fun _ _ h => h))
        clear hF1 hFB hF1B hW1 x0 x1 x2 y0 y1 y2 c0 c1 HF l0 l1
        generalize wA.heap.size = Z at *
        have hS : ∀ w', Fr (fun _ => False) wB w' → w'.cell? ⟨Z, 0, none⟩ = some (.pointer (some ⟨tb, 0, none⟩)) ∧ w'.cell? ⟨Z, 1, none⟩ = some (.int .i64 f) ∧ w'.cell? ⟨Z, 2, none⟩ = some (.int .i64 K) ∧ w'.cell? ⟨Z + 1, 0, none⟩ = some (.pointer (some ⟨tb, 0, none⟩)) ∧ w'.cell? ⟨Z + 1, 1, none⟩ = some (.int .i64 F2) ∧ w'.cell? ⟨Z + 1, 2, none⟩ = some (.int .i64 N2) ∧ w'.cell? ⟨PB, 0, none⟩ = some (.int .i64 tf) ∧ w'.cell? ⟨PB, 1, none⟩ = some (.int .i64 tn) := fun w' hf =>
          ⟨(hf.cell (lt_of_cell u0) (fun h => h)).trans u0, (hf.cell (lt_of_cell u1) (fun h => h)).trans u1, (hf.cell (lt_of_cell u2) (fun h => h)).trans u2, (hf.cell (lt_of_cell v0) (fun h => h)).trans v0, (hf.cell (lt_of_cell v1) (fun h => h)).trans v1, (hf.cell (lt_of_cell v2) (fun h => h)).trans v2, (hf.cell (lt_of_cell d0) (fun h => h)).trans d0, (hf.cell (lt_of_cell d1) (fun h => h)).trans d1⟩
        have HS := hide hS
        clear hS
        go_wp2_with fail
        go_region_held3 (fun w' => w'.cell? ⟨Z, 0, none⟩ = some (.pointer (some ⟨tb, 0, none⟩)) ∧ w'.cell? ⟨Z, 1, none⟩ = some (.int .i64 f) ∧ w'.cell? ⟨Z, 2, none⟩ = some (.int .i64 K) ∧ w'.cell? ⟨Z + 1, 0, none⟩ = some (.pointer (some ⟨tb, 0, none⟩)) ∧ w'.cell? ⟨Z + 1, 1, none⟩ = some (.int .i64 F2) ∧ w'.cell? ⟨Z + 1, 2, none⟩ = some (.int .i64 N2) ∧ w'.cell? ⟨PB, 0, none⟩ = some (.int .i64 tf) ∧ w'.cell? ⟨PB, 1, none⟩ = some (.int .i64 tn))
          (first | assumption | exact (unhide HS) _ (Fr.refl _ _).drew | exact (unhide HS) _ fE | exact (unhide HS) _ (fD.alloc _) | exact (unhide HS) _ fD | exact (unhide HS) _ fC)
          (first
            | (go_at_call 71; refine ((unhide HC).2.2.1 _ (by exact (unhide HF2).drew)).mono ?_; rintro e wC ⟨ao, cp, us, rfl, oC⟩; have fC : Fr (fun _ => False) wB wC := (Fr.refl _ _).drew.trans oC.own.fr (fun _ _ h => h))
            | (go_at_call 73; refine ((unhide HC).2.2.2.1 _ (by exact (unhide HF2).trans fC (fun _ _ h => h))).mono ?_; rintro e wD ⟨yo, yc, rfl, oD⟩; have fD : Fr (fun _ => False) wB wD := fC.trans oD.fr (fun _ _ h => h))
            | (obtain ⟨ao2, cp2, wE, hr2, hO2⟩ := oC.stepW M wi (unhide HC).2.2.2.2.1 yo yc oD (unhide HC).2.2.2.2.2.1 (by rw [oC.len]; exact (unhide HC).2.2.2.2.2.2); have fE : Fr (fun _ => False) wB wE := (Fr.refl _ _).drew.trans hO2.own.fr (fun _ _ h => h); refine step_app rfl (.tmp 22) (.tmp 25) 40 40 rfl _ _ _ (by simp [Act.eval]) (by simp [Act.eval]) hr2 ?_))
        have HE := hide (hO2.base ((unhide HF2).drew))
        clear oC oD hO2 hr2 fC fD fE
        go_wp2_with fail
        go_ret
        exact ⟨ao2, cp2, _, by rw [List.length_append]; rfl, unhide HE⟩
      · rw [decide_eq_false hl] at hbf
        have hrec := fun w' (hf' : Fr (fun _ => False) w w') => ih (f + hf n) (n - hf n) tf tn w' (by omega) (hT.fr0 hf') hA2 (by omega) (r2 hl)
        have hroot := fun w' (hf' : Fr (fun _ => False) w w') => root_any tb wi hw1 hw32 L _ f (hf n) w' (Nat.le_refl _) (hT.fr0 hf') hA1 (by omega)
        have hMw := hT.mw hw1 hw32 f (hf n)
        have hMb := hT.mb f (hf n)
        have hdl := dep_le _ (f + hf n) (n - hf n) tf tn (Nat.le_refl _)
        rw [← bes_len wi L _ (f + hf n) (n - hf n) tf tn (Nat.le_refl _)] at hdl
        unfold BesSays RootSays at *
        rw [bes_r h2 e hl]
        generalize bes wi L (f + hf n) (n - hf n) tf tn = BS at *
        generalize mth wi (blk L f (hf n)) = M at *
        have hbl : BS.length < 16000000 := by have := hT.len; omega
        clear hdl
        generalize f + hf n = F2 at *
        generalize n - hf n = N2 at *
        generalize hf n = K at *
        have HC := hide (And.intro hpt (And.intro hbf (And.intro hrec (And.intro hroot (And.intro hMw (And.intro hMb hbl))))))
        clear hpt hbf hrec hroot r1 r2 hr ih hlt hp hl hm h2 e hT hA1 hA2 hMw hMb hbl hL
        unfold sv pv at *
        go_enter Tryd.func71, Tryd.ntmps71
        go_wp2_with fail
        obtain ⟨W0, hW0⟩ : ∃ W0, (w.alloc (.cells #[.pointer (some ⟨tb, 0, none⟩), .int .i64 f, .int .i64 n] 94)).alloc (.cells #[.int .i64 tf, .int .i64 tn] 92) = W0 := ⟨_, rfl⟩
        rw [hW0]
        obtain ⟨b0, b1, hF0⟩ := boxAB w _ _ _ _ _ _ _ W0 hW0
        refine ((unhide HC).1 _).mono ?_
        rintro e' wA ⟨rfl, hFA⟩
        have c0 := (hFA.cell (lt_of_cell b0) (fun h => h)).trans b0
        have c1 := (hFA.cell (lt_of_cell b1) (fun h => h)).trans b1
        have HF := hide (hF0.trans hFA (fun _ _ h => h))
        clear hFA hF0 b0 b1 hW0
        generalize w.heap.size + 1 = PB at *
        have l0 : PB < wA.heap.size := lt_of_cell c0
        have l1 : PB < wA.heap.size + 1 := Nat.lt_succ_of_lt l0
        go_wp2_with fail
        obtain ⟨W1, hW1⟩ : ∃ W1, (wA.alloc (.cells #[.pointer (some ⟨tb, 0, none⟩), .int .i64 f, .int .i64 K] 94)).alloc (.cells #[.pointer (some ⟨tb, 0, none⟩), .int .i64 F2, .int .i64 N2] 94) = W1 := ⟨_, rfl⟩
        rw [hW1]
        obtain ⟨x0, x1, x2, y0, y1, y2, hF1⟩ := two3 wA _ _ _ _ _ _ _ W1 hW1
        refine ((unhide HC).2.1 _).mono ?_
        rintro e' wB ⟨rfl, hFB⟩
        have hF1B := hF1.trans hFB (fun _ _ h => h)
        have d0 := (hF1B.cell (lt_of_cell c0) (fun h => h)).trans c0
        have d1 := (hF1B.cell (lt_of_cell c1) (fun h => h)).trans c1
        have u0 := (hFB.cell (lt_of_cell x0) (fun h => h)).trans x0
        have u1 := (hFB.cell (lt_of_cell x1) (fun h => h)).trans x1
        have u2 := (hFB.cell (lt_of_cell x2) (fun h => h)).trans x2
        have v0 := (hFB.cell (lt_of_cell y0) (fun h => h)).trans y0
        have v1 := (hFB.cell (lt_of_cell y1) (fun h => h)).trans y1
        have v2 := (hFB.cell (lt_of_cell y2) (fun h => h)).trans y2
        have HF2 := hide ((unhide HF).trans hF1B (fun _ _ h => h))
        clear hF1 hFB hF1B hW1 x0 x1 x2 y0 y1 y2 c0 c1 HF l0 l1
        generalize wA.heap.size = Z at *
        have hS : ∀ w', Fr (fun _ => False) wB w' → w'.cell? ⟨Z + 1, 0, none⟩ = some (.pointer (some ⟨tb, 0, none⟩)) ∧ w'.cell? ⟨Z + 1, 1, none⟩ = some (.int .i64 F2) ∧ w'.cell? ⟨Z + 1, 2, none⟩ = some (.int .i64 N2) ∧ w'.cell? ⟨Z, 0, none⟩ = some (.pointer (some ⟨tb, 0, none⟩)) ∧ w'.cell? ⟨Z, 1, none⟩ = some (.int .i64 f) ∧ w'.cell? ⟨Z, 2, none⟩ = some (.int .i64 K) ∧ w'.cell? ⟨PB, 0, none⟩ = some (.int .i64 tf) ∧ w'.cell? ⟨PB, 1, none⟩ = some (.int .i64 tn) := fun w' hf =>
          ⟨(hf.cell (lt_of_cell v0) (fun h => h)).trans v0, (hf.cell (lt_of_cell v1) (fun h => h)).trans v1, (hf.cell (lt_of_cell v2) (fun h => h)).trans v2, (hf.cell (lt_of_cell u0) (fun h => h)).trans u0, (hf.cell (lt_of_cell u1) (fun h => h)).trans u1, (hf.cell (lt_of_cell u2) (fun h => h)).trans u2, (hf.cell (lt_of_cell d0) (fun h => h)).trans d0, (hf.cell (lt_of_cell d1) (fun h => h)).trans d1⟩
        have HS := hide hS
        clear hS
        go_wp2_with fail
        go_region_held3 (fun w' => w'.cell? ⟨Z + 1, 0, none⟩ = some (.pointer (some ⟨tb, 0, none⟩)) ∧ w'.cell? ⟨Z + 1, 1, none⟩ = some (.int .i64 F2) ∧ w'.cell? ⟨Z + 1, 2, none⟩ = some (.int .i64 N2) ∧ w'.cell? ⟨Z, 0, none⟩ = some (.pointer (some ⟨tb, 0, none⟩)) ∧ w'.cell? ⟨Z, 1, none⟩ = some (.int .i64 f) ∧ w'.cell? ⟨Z, 2, none⟩ = some (.int .i64 K) ∧ w'.cell? ⟨PB, 0, none⟩ = some (.int .i64 tf) ∧ w'.cell? ⟨PB, 1, none⟩ = some (.int .i64 tn))
          (first | assumption | exact (unhide HS) _ (Fr.refl _ _).drew | exact (unhide HS) _ fE | exact (unhide HS) _ (fD.alloc _) | exact (unhide HS) _ fD | exact (unhide HS) _ fC)
          (first
            | (go_at_call 71; refine ((unhide HC).2.2.1 _ (by exact (unhide HF2).drew)).mono ?_; rintro e wC ⟨ao, cp, us, rfl, oC⟩; have fC : Fr (fun _ => False) wB wC := (Fr.refl _ _).drew.trans oC.own.fr (fun _ _ h => h))
            | (go_at_call 73; refine ((unhide HC).2.2.2.1 _ (by exact (unhide HF2).trans fC (fun _ _ h => h))).mono ?_; rintro e wD ⟨yo, yc, rfl, oD⟩; have fD : Fr (fun _ => False) wB wD := fC.trans oD.fr (fun _ _ h => h))
            | (obtain ⟨ao2, cp2, wE, hr2, hO2⟩ := oC.stepW M wi (unhide HC).2.2.2.2.1 yo yc oD (unhide HC).2.2.2.2.2.1 (by rw [oC.len]; exact (unhide HC).2.2.2.2.2.2); have fE : Fr (fun _ => False) wB wE := (Fr.refl _ _).drew.trans hO2.own.fr (fun _ _ h => h); refine step_app rfl (.tmp 29) (.tmp 32) 40 40 rfl _ _ _ (by simp [Act.eval]) (by simp [Act.eval]) hr2 ?_))
        have HE := hide (hO2.base ((unhide HF2).drew))
        clear oC oD hO2 hr2 fC fD fE
        go_wp2_with fail
        go_ret
        exact ⟨ao2, cp2, _, by rw [List.length_append]; rfl, unhide HE⟩
end Go.Proofs.YtjokmlnghpnlbaaDoor

namespace Go.Proofs.YtjokmlnghpnlbaaDoor
open Go.RowKit

set_option maxRecDepth 100000 in
set_option maxHeartbeats 1000000 in
theorem tpath_in (tb wi : Nat) (hw1 : 1 ≤ wi) (hw32 : wi ≤ 32) (L : List (List Nat)) (i n : Nat) (w : World) (hT : Tk w tb wi L) (hn : n ≤ L.length) (hi : i < n) :
    Calls Tryd.prog 42 #[.pointer (some ⟨tb, 0, none⟩), .int .i64 i, .int .i64 n] w fun e w' => ∃ ao cp vs, e = .returned (.tuple #[.slice ao vs.length cp, .int .i64 0]) ∧ OL w w' ao cp vs (bes wi L 0 n i 1) := by
  obtain ⟨c0, c1, htb⟩ := hT.c0
  have hhas : Calls Tryd.prog 69 #[.pointer (some ⟨tb, 0, none⟩), .int .i64 n] w fun e w' => e = .returned (.bool true) ∧ w' = w := by
    have := has_any tb L.length wi n w c0 c1
    rw [decide_eq_true (by omega)] at this
    exact this
  have hbes : ∀ w', Fr (fun _ => False) w w' → BesSays tb wi L 0 n i 1 w' := fun w' hf => beside_any tb wi hw1 hw32 L n 0 n i 1 w' (Nat.le_refl _) (hT.fr0 hf) (al_zero n) (by omega) (rch_one n 0 n i (Nat.le_refl _) (by omega) (by omega))
  unfold BesSays sv at hbes
  have HG := hide (And.intro hhas hbes)
  have q1 : ¬ (i : Int) < 0 := by omega
  have q2 : ¬ (n : Int) ≤ (i : Int) := by omega
  have q3 : ¬ n ≤ i := by omega
  clear hhas hbes hT c0 c1 htb hn
  go_enter Tryd.func42, Tryd.ntmps42
  go_wp2_with fail
  refine (unhide HG).1.mono ?_
  rintro e w0 ⟨rfl, rfl⟩
  go_wp2_with fail
  refine (first_any _ _ _).mono ?_
  rintro e w1 ⟨rfl, hF1⟩
  have H1 := hide hF1
  clear hF1
  go_wp2_with fail
  refine ((unhide HG).2 w1 (unhide H1)).mono ?_
  rintro e w2 ⟨ao, cp, vs, rfl, hO⟩
  have H2 := hide (hO.base (unhide H1))
  clear hO
  go_wp2_with fail
  go_returns
  exact ⟨ao, cp, vs, rfl, unhide H2⟩
set_option maxRecDepth 100000 in
theorem tpath_no (tb n : Nat) (wi i k : Int) (w : World) (c0 : w.cell? ⟨tb, 0, none⟩ = some (.int .i64 wi)) (c1 : w.cell? ⟨tb, 1, none⟩ = some (.int .i64 n)) (h : ¬ (1 ≤ wi ∧ wi ≤ 32 ∧ 0 ≤ k ∧ k ≤ n) ∨ i < 0 ∨ k ≤ i) :
    Calls Tryd.prog 42 #[.pointer (some ⟨tb, 0, none⟩), .int .i64 i, .int .i64 k] w fun e w' => e = .returned (.tuple #[.slice none 0 0, .int .i64 1]) ∧ w' = w := by
  have hhas := has_any tb n wi k w c0 c1
  by_cases hh : 1 ≤ wi ∧ wi ≤ 32 ∧ 0 ≤ k ∧ k ≤ n
  · rw [decide_eq_true hh] at hhas
    have HG := hide hhas
    have h' : i < 0 ∨ k ≤ i := by omega
    clear hhas h c0 c1
    by_cases hi : i < 0
    · clear h' hh
      go_enter Tryd.func42, Tryd.ntmps42
      go_wp2_with fail
      refine (unhide HG).mono ?_
      rintro e w0 ⟨rfl, rfl⟩
      go_wp2_with fail
      go_returns
      exact ⟨rfl, rfl⟩
    · have hk : k ≤ i := by omega
      clear h' hh
      go_enter Tryd.func42, Tryd.ntmps42
      go_wp2_with fail
      refine (unhide HG).mono ?_
      rintro e w0 ⟨rfl, rfl⟩
      go_wp2_with fail
      go_returns
      exact ⟨rfl, rfl⟩
  · rw [decide_eq_false hh] at hhas
    have HG := hide hhas
    clear hhas h hh c0 c1
    go_enter Tryd.func42, Tryd.ntmps42
    go_wp2_with fail
    refine (unhide HG).mono ?_
    rintro e w0 ⟨rfl, rfl⟩
    go_wp2_with fail
    go_returns
    exact ⟨rfl, rfl⟩
end Go.Proofs.YtjokmlnghpnlbaaDoor

namespace Go.Proofs.YtjokmlnghpnlbaaDoor
open Go.RowKit

/-- The pairs of a signature's first n bits. -/
def sgn (wi K : Nat) (seed h : List Nat) : Nat → List Nat
  | 0 => []
  | n + 1 => sgn wi K seed h n ++ sm wi (scm K n (bitv h n) seed) ++ lk wi K seed n (1 - bitv h n)
theorem sgn_len (wi K : Nat) (hw1 : 1 ≤ wi) (hw32 : wi ≤ 32) (seed h : List Nat) (n : Nat) : (sgn wi K seed h n).length = 2 * n * wi := by
  induction n with
  | zero => simp [sgn]
  | succ n ih =>
    rw [sgn, List.length_append, List.length_append, ih, lk_len wi K hw1 hw32, sm_len ⟨by omega, by omega⟩, Int.toNat_natCast, Nat.mul_succ, Nat.add_mul]
    omega
set_option maxRecDepth 100000 in
set_option maxHeartbeats 4000000 in
/-- Keys.Sign, of a key. -/
theorem lsign_in (wi H kb base tb K : Nat) (hw1 : 1 ≤ wi) (hw32 : wi ≤ 32) (hH : H ≤ 6) (hK : K < 2 ^ H) (yo : Option Addr) (SN yc : Nat) (seed : List Nat) (L : List (List Nat)) (w : World) (h : KyAt w kb base tb wi H (.slice yo SN yc) seed L) (hL : L.length = 2 ^ H) (hs : seed.length ≤ 1000000000) (x : Value) (m : List Nat) (hx : Sl w x m) (hm : m.length < 9223372036854775808) (hPB : ∀ p ∈ bes wi L 0 (2 ^ H) K 1, p.length = wi) (hPL : (bes wi L 0 (2 ^ H) K 1).length ≤ 64) :
    Calls Tryd.prog 14 #[.pointer (some ⟨kb, 0, none⟩), .int .i64 K, x] w fun e w' => ∃ zo n zc, e = .returned (.tuple #[.slice zo n zc, .int .i64 0]) ∧ n = (sgn wi K seed (sm wi m) (8 * wi) ++ (bes wi L 0 (2 ^ H) K 1).flatten).length ∧ OB w w' zo zc (sgn wi K seed (sm wi m) (8 * wi) ++ (bes wi L 0 (2 ^ H) K 1).flatten) := by
  obtain ⟨xo, xc, rfl⟩ := hx.form
  have hN64 : 2 ^ H ≤ 64 := Nat.pow_le_pow_right (n := 2) (by decide) hH
  have hlen := fun w' (hf : Fr (fun _ => False) w w') => lkeylen_any kb H hH w' (h.fr0 hf).c1
  have hpath := fun w' (hf : Fr (fun _ => False) w w') => tpath_in tb wi hw1 hw32 L K (2 ^ H) w' ((h.fr0 hf).tk (by omega)) (by omega) hK
  have hbits := fun w' (hf : Fr (fun _ => False) w w') => lbitsOf_in wi hw1 hw32 _ m w' (h.gs.fr0 hf) (hx.fr0 hf) hm
  have hlk := fun w' (hf : Fr (fun _ => False) w w') => llocks_any kb wi K _ seed w' (h.fr0 hf).c0 (h.fr0 hf).c2 (h.fr0 hf).sl
  have hcc : ∀ w', Fr (fun _ => False) w w' → w'.cell? ⟨kb, 0, none⟩ = some (.int .i64 (wi : Int)) ∧ w'.cell? ⟨kb, 1, none⟩ = some (.int .i64 (H : Int)) ∧ w'.cell? ⟨kb, 2, none⟩ = some (.slice yo SN yc) ∧ w'.cell? ⟨kb, 3, none⟩ = some (.pointer (some ⟨tb, 0, none⟩)) := fun w' hf => ⟨(h.fr0 hf).c0, (h.fr0 hf).c1, (h.fr0 hf).c2, (h.fr0 hf).c3⟩
  have hsz := fun w' => lsize_any wi H w'
  rw [szF_nat wi H hw1 hw32 hH] at hsz
  have hps9 : 16 * wi * wi ≤ 16384 := Nat.mul_le_mul (show 16 * wi ≤ 512 by omega) hw32
  have hhw9 : H * wi ≤ 192 := Nat.mul_le_mul hH hw32
  have hsz9 : 16 * wi * wi + H * wi ≤ 16777216 := by omega
  generalize hSZ : 16 * wi * wi + H * wi = SZ at *
  have hbc := fun w' => lbits_any wi hw32 w'
  generalize bes wi L 0 (2 ^ H) K 1 = PT at *
  generalize hN : 2 ^ H = N at *
  generalize m.length = ML at *
  have HC := hide (And.intro hlen (And.intro hpath (And.intro hbits (And.intro hlk (And.intro hcc (And.intro hsz hbc))))))
  clear hlen hpath hbits hlk hcc hsz hbc
  have HK := hide (And.intro h (And.intro hx hs))
  have HPB := hide (And.intro hPB hPL)
  clear h hx hPB hPL
  have T1 : True := trivial
  go_enter Tryd.func14, Tryd.ntmps14
  go_wp2_with fail
  go_region_held3 (fun w' => w'.cell? ⟨kb, 0, none⟩ = some (.int .i64 (wi : Int)) ∧ w'.cell? ⟨kb, 1, none⟩ = some (.int .i64 (H : Int)) ∧ w'.cell? ⟨kb, 2, none⟩ = some (.slice yo SN yc) ∧ w'.cell? ⟨kb, 3, none⟩ = some (.pointer (some ⟨tb, 0, none⟩)))
    (first | assumption | exact (unhide HC).2.2.2.2.1 _ (Fr.refl _ _).drew | exact (unhide HC).2.2.2.2.1 _ fB | exact (unhide HC).2.2.2.2.1 _ fA)
    (first
      | (go_at_call 12; clear T1; refine ((unhide HC).1 _ (Fr.refl _ _).drew).mono ?_; rintro e wA ⟨rfl, rfl⟩; have fA : Fr (fun _ => False) w w.drew := (Fr.refl _ _).drew)
      | (go_at_call 42; refine ((unhide HC).2.1 _ fA).mono ?_; rintro e wB ⟨ao, cp, vs, rfl, oB⟩; have fB : Fr (fun _ => False) w wB := fA.trans oB.own.fr (fun _ _ h => h)))
  have H1 := hide (And.intro (oB.base fA) fB)
  clear fA fB oB
  generalize hVL : vs.length = VL at *
  obtain ⟨d0, d1, d2, d3⟩ := (unhide HC).2.2.2.2.1 _ (unhide H1).2
  go_wp2_with fail
  refine ((unhide HC).2.2.1 _ (unhide H1).2).mono ?_
  rintro e wC ⟨hb, ho, rfl, bC, gC⟩
  have H2 := hide (And.intro bC (And.intro ((unhide H1).1.fr0 gC) ((unhide H1).2.trans gC (fun _ _ h => h))))
  clear bC gC d0 d1 d2 d3 H1
  go_wp2_with fail
  refine ((unhide HC).2.2.2.1 _ (unhide H2).2.2).mono ?_
  rintro e wD ⟨bk, bi, rfl, lD, gD⟩
  have H3 := hide (And.intro lD (And.intro ((unhide H2).1.fr0 gD) (And.intro ((unhide H2).2.1.fr0 gD) ((unhide H2).2.2.trans gD (fun _ _ h => h)))))
  clear lD gD H2
  obtain ⟨d0, d1, d2, d3⟩ := (unhide HC).2.2.2.2.1 _ (unhide H3).2.2.2
  obtain ⟨wE, hrE, hoE, hFE⟩ := make0 SZ wD.drew hsz9
  have HE := hide (And.intro hoE hFE)
  clear hoE hFE
  have fE : Fr (fun _ => False) w wE := (unhide H3).2.2.2.drew.trans (unhide HE).2 (fun _ _ h => h)
  have HFE := hide fE
  clear fE
  go_wp2_with fail
  go_region_held3 (fun w' => w'.cell? ⟨kb, 0, none⟩ = some (.int .i64 (wi : Int)) ∧ w'.cell? ⟨kb, 1, none⟩ = some (.int .i64 (H : Int)) ∧ w'.cell? ⟨kb, 2, none⟩ = some (.slice yo SN yc) ∧ w'.cell? ⟨kb, 3, none⟩ = some (.pointer (some ⟨tb, 0, none⟩)))
    (first | assumption | exact ⟨d0, d1, d2, d3⟩ | exact (unhide HC).2.2.2.2.1 _ (unhide HFE) | exact (unhide HC).2.2.2.2.1 _ (unhide H3).2.2.2.drew)
    (first
      | (go_at_call 9; refine ((unhide HC).2.2.2.2.2.1 _).mono ?_; rintro e wX ⟨rfl, rfl⟩))
  clear d0 d1 d2 d3
  obtain ⟨d0, d1, d2, d3⟩ := (unhide HC).2.2.2.2.1 _ (unhide HFE)
  go_wp2_with fail
  refine ((unhide HC).2.2.2.2.2.2 _).mono ?_
  rintro e wX ⟨rfl, rfl⟩
  generalize hE8 : 8 * wi = E at *
  go_wp2_with fail
  have hOE : OB wD wX (some ⟨wD.heap.size, 0, none⟩) SZ [] := OB.base (w := wD) ⟨(unhide HE).1, (unhide HE).2⟩ (Fr.refl _ _).drew
  have HO := hide hOE
  clear hOE d0 d1 d2 d3 hrE
  go_loopw [12, 55] (fun v iv wr => ∃ (k : Nat) (zo : Option Addr) (zc n : Nat), k ≤ E ∧ iv = .int .i64 (k : Nat) ∧ v = .slice zo n zc ∧ n = (sgn wi K seed (sm wi m) k).length ∧ OB wD wr zo zc (sgn wi K seed (sm wi m) k)) (fun _ iv _ => E - (intOf iv).toNat)
  case atStart => exact ⟨0, _, _, 0, Nat.zero_le _, rfl, rfl, rfl, unhide HO⟩
  case round =>
    obtain ⟨k, zo, zc, n, hk, rfl, rfl, hn, hI⟩ := hrel
    by_cases hlt : k < E
    · have hlt' : (k : Int) < (E : Int) := by omega
      have hF : Fr (fun _ => False) w wr := (unhide H3).2.2.2.trans hI.fr (fun _ _ h => h)
      have hsm : (sm (wi : Int) m).length = wi := by rw [sm_len ⟨by omega, by omega⟩, Int.toNat_natCast]
      have hval := fun w' (hf : Fr (fun _ => False) wD w') => lbitsOf1_in hb ho wi k hw32 (by omega) _ w' ((unhide H3).2.1.fr0 hf) hsm
      have hbv := bitv_lt (sm (wi : Int) m) k
      have hsec := fun w' (hf : Fr (fun _ => False) wD w') => lsecret_in wi K k (bitv (sm (wi : Int) m) k) hw1 hw32 (by omega) (by omega) hbv _ seed w' ((unhide HK).1.gs.fr0 ((unhide H3).2.2.2.trans hf (fun _ _ h => h))) ((unhide HK).1.sl.fr0 ((unhide H3).2.2.2.trans hf (fun _ _ h => h))) (by omega)
      have hlck := fun w' (hf : Fr (fun _ => False) wD w') => llocks1_in bk bi kb wi K k (1 - bitv (sm (wi : Int) m) k) hw1 hw32 (by omega) (by omega) (by omega) _ seed w' ((unhide HK).1.gs.fr0 ((unhide H3).2.2.2.trans hf (fun _ _ h => h))) ((unhide H3).1.fr0 hf) (by omega)
      obtain ⟨d0, d1, d2, d3⟩ := (unhide HC).2.2.2.2.1 _ hF
      have HQ := hide (And.intro hval (And.intro hsec (And.intro hlck (And.intro hn hI))))
      clear hval hsec hlck hn hI
      have hsg : sgn wi K seed (sm wi m) (k + 1) = sgn wi K seed (sm wi m) k ++ sm wi (scm K k (bitv (sm wi m) k) seed) ++ lk wi K seed k (1 - bitv (sm wi m) k) := rfl
      have HG := hide hsg
      clear hsg
      have e1 : (1 : Int) - ((bitv (sm (wi : Int) m) k : Nat) : Int) = ((1 - bitv (sm (wi : Int) m) k : Nat) : Int) := by omega
      generalize bitv (sm (wi : Int) m) k = V at *
      go_wp2_with fail
      refine ((unhide HQ).1 _ (unhide HQ).2.2.2.2.fr).mono ?_
      rintro e wY ⟨rfl, hFY⟩
      have HY := hide hFY
      clear hFY d0 d1 d2 d3
      have hsl0 : (sm (wi : Int) (scm K k V seed)).length = wi := by rw [sm_len ⟨by omega, by omega⟩, Int.toNat_natCast]
      have hlk0 := lk_len wi K hw1 hw32 seed k (1 - V)
      have hsb0 := sm_lt (wi : Int) (scm K k V seed)
      have hlb0 := lk_lt wi K seed k (1 - V)
      have hb3 : 2 * k * wi ≤ 512 * 32 := Nat.mul_le_mul (by omega) hw32
      have hll := sgn_len wi K hw1 hw32 seed (sm wi m) k
      generalize sgn wi K seed (sm wi m) k = S0 at *
      generalize sm (wi : Int) (scm K k V seed) = S1 at *
      generalize lk wi K seed k (1 - V) = S2 at *
      have HB := hide (And.intro hsl0 (And.intro hlk0 (And.intro hsb0 (And.intro hlb0 (And.intro hb3 hll)))))
      clear hsl0 hlk0 hsb0 hlb0 hb3 hll
      have T3 : True := trivial
      go_wp2_with fail
      go_region_held3 (fun w' => w'.cell? ⟨kb, 0, none⟩ = some (.int .i64 (wi : Int)) ∧ w'.cell? ⟨kb, 1, none⟩ = some (.int .i64 (H : Int)) ∧ w'.cell? ⟨kb, 2, none⟩ = some (.slice yo SN yc) ∧ w'.cell? ⟨kb, 3, none⟩ = some (.pointer (some ⟨tb, 0, none⟩)))
        (first | assumption | exact (unhide HC).2.2.2.2.1 _ ((hF.trans (unhide HY) (fun _ _ h => h)).drew) | exact (unhide HC).2.2.2.2.1 _ ((unhide H3).2.2.2.trans oT.fr (fun _ _ h => h)) | exact (unhide HC).2.2.2.2.1 _ ((unhide H3).2.2.2.trans fS (fun _ _ h => h)))
        (first
          | (go_at_call 10; clear T3; refine ((unhide HQ).2.1 _ (((unhide HQ).2.2.2.2.fr.trans (unhide HY) (fun _ _ h => h)).drew)).mono ?_; rintro e wS ⟨so, rfl, oS⟩; have fS : Fr (fun _ => False) wD wS := ((unhide HQ).2.2.2.2.fr.trans (unhide HY) (fun _ _ h => h)).drew.trans oS.fr (fun _ _ h => h); have oZ : OB wD wS zo zc S0 := ((unhide HQ).2.2.2.2.ow.fr0 ((unhide HY).drew.trans oS.fr (fun _ _ h => h))).ob fS; obtain ⟨a2, c2, w2, hr2, oT⟩ := oZ.app _ S1 oS.src (by have := (unhide HB).1; have := (unhide HB).2.2.2.2.1; have := (unhide HB).2.2.2.2.2; omega); rw [(unhide HB).1, ← (unhide HQ).2.2.2.1] at hr2)
          | (refine step_app rfl (.tmp 61) (.tmp 73) 24 24 rfl _ _ _ (by simp [Act.eval]) (by simp [Act.eval]) hr2 ?_))
      have HT := hide (And.intro oT (And.intro fS oS))
      clear oT oZ oS fS hr2
      generalize hn2 : (S0 ++ S1).length = n2 at *
      rw [List.length_append] at hn2
      rw [hn2]
      go_wp2_with fail
      refine ((unhide HQ).2.2.1 _ (unhide HT).1.fr).mono ?_
      rintro e wU ⟨uo, rfl, oU⟩
      have fU : Fr (fun _ => False) wD wU := (unhide HT).1.fr.trans oU.fr (fun _ _ h => h)
      have oZ2 : OB wD wU a2 c2 (S0 ++ S1) := ((unhide HT).1.ow.fr0 oU.fr).ob fU
      obtain ⟨a3, c3, w3, hr3, oV⟩ := oZ2.app _ S2 oU.src (by have := (unhide HB).1; have := (unhide HB).2.1; have := (unhide HB).2.2.2.2.1; have := (unhide HB).2.2.2.2.2; rw [List.length_append]; omega)
      rw [(unhide HB).2.1, List.length_append, hn2] at hr3
      have HV := hide (And.intro hr3 oV)
      clear hr3 oV oZ2 fU oU
      go_wp2_with (at_builtin; refine wpList_app rfl _ _ 24 24 rfl _ _ _ rfl rfl (unhide HV).1 ?_)
      exact ⟨⟨k + 1, _, _, _, by omega, by go_num, rfl, by rw [unhide HG]; simp, by rw [unhide HG]; exact (unhide HV).2⟩, by simp [intOf]; omega⟩
    · have hlt' : ¬ (k : Int) < (E : Int) := by omega
      have hkE : k = E := by omega
      subst hkE
      have hPc := (unhide H3).2.2.1.pcs
      have hPl : vs.length = PT.length := (unhide H3).2.2.1.len
      rw [hVL] at hPc hPl
      have hgl := sgn_len wi K hw1 hw32 seed (sm wi m) k
      have hb3 : 2 * k * wi ≤ 512 * 32 := Nat.mul_le_mul (by omega) hw32
      generalize hSG : sgn wi K seed (sm wi m) k = S0 at *
      have hfb : ∀ j, j ≤ VL → (fl PT j).length ≤ 32 * j := fun j => by
        induction j with
        | zero => intro _; simp [fl]
        | succ j ih =>
          intro hj
          have h1 := ih (by omega)
          have h2 := (unhide HPB).1 (PT[j]'(by omega)) (List.getElem_mem _)
          rw [fl_succ PT j (by omega), List.length_append]
          omega
      have HQ := hide (And.intro hn (And.intro hI (And.intro hPc (And.intro hgl (And.intro hb3 hfb)))))
      clear hn hI hPc hgl hb3 hfb
      have HSG := hide (And.intro hSG hE8)
      clear hSG hE8
      go_wp2_with fail
      go_loopw [12, 85] (fun v iv wq => ∃ (j : Nat) (qo : Option Addr) (qc n' : Nat), j ≤ VL ∧ iv = .int .i64 (j : Nat) ∧ v = .slice qo n' qc ∧ n' = (S0 ++ fl PT j).length ∧ OB wD wq qo qc (S0 ++ fl PT j)) (fun _ iv _ => VL - (intOf iv).toNat)
      case atStart => exact ⟨0, _, _, _, Nat.zero_le _, rfl, rfl, by simp [fl, (unhide HQ).1], by simpa [fl] using (unhide HQ).2.1⟩
      case round =>
        obtain ⟨j, qo, qc, n', hj, rfl, rfl, hn', hO⟩ := hrel
        have hPL := (unhide HPB).2
        by_cases hjl : j < VL
        · have hjl' : (j : Int) < (VL : Int) := by omega
          have hkp : j < PT.length := by omega
          obtain ⟨g, o, v, rfl, hcell, hsrc, hcap, _, _⟩ := (unhide HQ).2.2.1.cell hO.fr j hkp
          obtain ⟨vo, vc, rfl⟩ := hsrc.form
          have hb1 := (unhide HPB).1 PT[j] (List.getElem_mem hkp)
          have hb2 := (unhide HQ).2.2.2.2.2 j hj
          have hb4 := (unhide HQ).2.2.2.1
          have hb5 := (unhide HQ).2.2.2.2.1
          obtain ⟨a2, c2, w2, hr2, hO2⟩ := hO.app _ PT[j] hsrc (by rw [List.length_append]; omega)
          rw [← hn'] at hr2
          have e2 : (S0 ++ fl PT j) ++ PT[j] = S0 ++ fl PT (j + 1) := by rw [fl_succ PT j hkp, List.append_assoc]
          rw [e2] at hr2 hO2
          have HR2 := hide (And.intro hr2 hO2)
          clear hr2 hO2 e2 hO hsrc hcap hn' hb1 hb2 hb4 hb5
          go_wp2_with (at_builtin; refine wpList_app rfl _ _ 24 24 rfl _ _ _ rfl rfl (unhide HR2).1 ?_)
          exact ⟨⟨j + 1, _, _, _, by omega, by go_num, rfl, by simp, (unhide HR2).2⟩, by simp [intOf]; omega⟩
        · have hjl' : ¬ (j : Int) < (VL : Int) := by omega
          have hjV : j = VL := by omega
          have e : fl PT j = PT.flatten := by rw [hjV, hPl, fl_all]
          rw [e] at hO hn'
          have HO2 := hide (And.intro hn' (hO.base (unhide H3).2.2.2))
          clear hO hn' e hjV
          go_wp2_with fail
          refine bodyPost_ret (v := .tuple #[.slice qo n' qc, .int .i64 0]) (by simp [results, Tryd.results14, go_sem]) rfl ?_
          rw [(unhide HSG).2, (unhide HSG).1]
          exact ⟨qo, n', qc, rfl, by simpa using (unhide HO2).1, (unhide HO2).2⟩
end Go.Proofs.YtjokmlnghpnlbaaDoor

namespace Go.Proofs.YtjokmlnghpnlbaaDoor
open Go.RowKit

theorem bes_wid (wi : Nat) (hw1 : 1 ≤ wi) (hw32 : wi ≤ 32) (L : List (List Nat)) (hL : ∀ p ∈ L, p.length = wi) (m : Nat) : ∀ f n tf tn, n ≤ m → ∀ p ∈ bes wi L f n tf tn, p.length = wi := by
  induction m with
  | zero => intro f n tf tn h p hp; rw [bes, dif_pos (by omega)] at hp; cases hp
  | succ m ih =>
    intro f n tf tn h p hp
    by_cases e : (f = tf ∧ n = tn) ∨ n < 2
    · rw [bes, dif_pos e] at hp; cases hp
    · have hlt := hf_lt n (by omega)
      have hpos := hf_pos n
      by_cases hl : tf < f + hf n
      · rw [bes_l (by omega) (by omega) hl] at hp
        rcases List.mem_append.1 hp with hp | hp
        · exact ih _ _ _ _ (by omega) p hp
        · simp at hp; subst hp; exact mth_wid wi hw1 hw32 _ (fun p hp => hL p (blk_mem _ _ _ p hp))
      · rw [bes_r (by omega) (by omega) hl] at hp
        rcases List.mem_append.1 hp with hp | hp
        · exact ih _ _ _ _ (by omega) p hp
        · simp at hp; subst hp; exact mth_wid wi hw1 hw32 _ (fun p hp => hL p (blk_mem _ _ _ p hp))
theorem wdq_of {j : Int} {ps : List (List Nat)} (h : ∀ p ∈ ps, (p.length : Int) = j) : wdq j ps = true := by
  rw [wdq, List.all_eq_true]
  intro p hp
  simpa using h p hp
/-- A path that the tree tells is taken. -/
theorem chkP_bes (wi : Nat) (hw1 : 1 ≤ wi) (hw32 : wi ≤ 32) (L : List (List Nat)) (hL : ∀ p ∈ L, p.length = wi) (i : Nat) (hi : i < L.length) : chkP wi (L[i]) i L.length (bes wi L 0 L.length i 1) (mth wi L) = true := by
  have hb : blk L i 1 = [L[i]] := by
    rw [blk, List.drop_eq_getElem_cons hi]; rfl
  have ht := topv_bes wi L L.length 0 L.length i 1 (Nat.le_refl _) (by omega) (rch_one _ 0 L.length i (Nat.le_refl _) (by omega) (by omega))
  rw [hb, mth_one, blk_all] at ht
  rw [chkP, decide_eq_true (by omega), decide_eq_true (by omega), decide_eq_true (by omega), wdq_of (fun p hp => ?_), wdq_of (fun p hp => ?_), Int.toNat_natCast, Int.toNat_natCast, Int.toNat_natCast, bes_len _ _ _ _ _ _ _ (Nat.le_refl _), decide_eq_true rfl, ht, decide_eq_true rfl]
  · rfl
  · have := bes_wid wi hw1 hw32 L hL _ 0 L.length i 1 (Nat.le_refl _) p hp
    omega
  · simp at hp
    rcases hp with rfl | rfl
    · have := hL L[i] (List.getElem_mem _); omega
    · have := mth_wid wi hw1 hw32 L hL; omega
/-- In a whole tree every path has its height's length. -/
theorem dep_pow (H : Nat) : ∀ f i, f ≤ i → i < f + 2 ^ H → dep f (2 ^ H) i 1 = H := by
  induction H with
  | zero =>
    intro f i h1 h2
    obtain rfl : f = i := by rw [Nat.pow_zero] at h2; omega
    exact dep_eq _ _
  | succ H ih =>
    intro f i h1 h2
    have hp : 0 < 2 ^ H := Nat.pow_pos (by decide)
    have e : 2 ^ (H + 1) = 2 * 2 ^ H := by rw [Nat.pow_succ]; omega
    have hh : hf (2 ^ (H + 1)) = 2 ^ H := hf_uniq _ _ (by omega) (by omega)
    by_cases hl : i < f + hf (2 ^ (H + 1))
    · rw [dep_l (by omega) (by omega) hl, hh, ih f i h1 (by omega)]
    · rw [dep_r (by omega) (by omega) hl, hh, show 2 ^ (H + 1) - 2 ^ H = 2 ^ H by omega, ih _ i (by omega) (by omega)]
theorem besH_len (wi : Nat) (L : List (List Nat)) (H K : Nat) (hK : K < 2 ^ H) : (bes wi L 0 (2 ^ H) K 1).length = H := by
  rw [bes_len _ _ _ _ _ _ _ (Nat.le_refl _), dep_pow H 0 K (Nat.zero_le _) (by omega)]
theorem flat_drop (wi : Nat) (ps : List (List Nat)) (h : ∀ p ∈ ps, p.length = wi) : ∀ j, ps.flatten.drop (j * wi) = (ps.drop j).flatten := by
  induction ps with
  | nil => intro j; simp
  | cons p ps ih =>
    intro j
    cases j with
    | zero => simp
    | succ j =>
      have hp := h p (List.mem_cons_self ..)
      rw [List.flatten_cons, Nat.succ_mul, Nat.add_comm, ← List.drop_drop, List.drop_left' hp, List.drop_succ_cons]
      exact ih (fun q hq => h q (List.mem_cons_of_mem _ hq)) j
theorem flat_len (wi : Nat) (ps : List (List Nat)) (h : ∀ p ∈ ps, p.length = wi) : ps.flatten.length = ps.length * wi := by
  induction ps with
  | nil => simp
  | cons p ps ih =>
    rw [List.flatten_cons, List.length_append, ih (fun q hq => h q (List.mem_cons_of_mem _ hq)), h p (List.mem_cons_self ..), List.length_cons, Nat.succ_mul]
    omega
theorem cuts_flat (wi : Nat) (ps : List (List Nat)) (h : ∀ p ∈ ps, p.length = wi) : cuts wi ps.flatten ps.length = ps := by
  refine List.ext_getElem (by simp [cuts]) (fun j h1 h2 => ?_)
  have e : (cuts wi ps.flatten ps.length)[j] = (ps.flatten.drop (j * wi)).take wi := by simp [cuts]
  rw [e, flat_drop wi ps h, List.drop_eq_getElem_cons h2, List.flatten_cons, List.take_left' (h _ (List.getElem_mem _))]
theorem sgn_at (wi K : Nat) (seed h : List Nat) (J n : Nat) (hJ : J < n) : ∃ r, sgn wi K seed h n = sgn wi K seed h J ++ (sm wi (scm K J (bitv h J) seed) ++ (lk wi K seed J (1 - bitv h J) ++ r)) := by
  induction n with
  | zero => omega
  | succ n ih =>
    by_cases e : J = n
    · subst e; exact ⟨[], by simp [sgn]⟩
    · obtain ⟨r, hr⟩ := ih (by omega)
      refine ⟨r ++ sm wi (scm K n (bitv h n) seed) ++ lk wi K seed n (1 - bitv h n), ?_⟩
      rw [sgn, hr]; simp
theorem lt5_sgn (wi K : Nat) (hw1 : 1 ≤ wi) (hw32 : wi ≤ 32) (seed h : List Nat) (n J V : Nat) (hJ : J < n) (hV : V < 2) : lt5 wi h (sgn wi K seed h n) J V = lk wi K seed J V := by
  obtain ⟨r, hr⟩ := sgn_at wi K seed h J n hJ
  have h0 := sgn_len wi K hw1 hw32 seed h J
  have h1 : (sm (wi : Int) (scm K J (bitv h J) seed)).length = wi := by rw [sm_len ⟨by omega, by omega⟩, Int.toNat_natCast]
  have h2 := lk_len wi K hw1 hw32 seed J (1 - bitv h J)
  have hb := bitv_lt h J
  rw [hr]
  unfold lt5
  split
  · rename_i e
    rw [List.drop_left' h0, List.take_left' h1, e]; rfl
  · rename_i e
    rw [← List.drop_drop, List.drop_left' h0, List.drop_left' h1, List.take_left' h2]
    congr 1
    omega
theorem ent_congr (f g : Nat → Nat → List Nat) (n : Nat) (h : ∀ J V, J < n → V < 2 → f J V = g J V) : ent f n = ent g n := by
  induction n with
  | zero => rfl
  | succ n ih => rw [ent, ent, ih (fun J V h1 h2 => h J V (by omega) h2), h n 0 (by omega) (by decide), h n 1 (by omega) (by decide)]
theorem lvs_wid (wi : Nat) (hw1 : 1 ≤ wi) (hw32 : wi ≤ 32) (seed : List Nat) (n : Nat) : ∀ p ∈ lvs wi seed n, p.length = wi := by
  intro p hp
  obtain ⟨k, _, rfl⟩ := List.mem_map.1 hp
  exact lf_len5 wi hw1 hw32 _
theorem lvs_get (wi : Nat) (seed : List Nat) (n k : Nat) (h : k < (lvs wi seed n).length) : (lvs wi seed n)[k] = lf wi (eN wi seed k) := by simp [lvs]
/-- What Sign tells. -/
def sig (wi H K : Nat) (seed h : List Nat) : List Nat := sgn wi K seed h (8 * wi) ++ (bes wi (lvs wi seed (2 ^ H)) 0 (2 ^ H) K 1).flatten
theorem sig_len (wi H K : Nat) (hw1 : 1 ≤ wi) (hw32 : wi ≤ 32) (hK : K < 2 ^ H) (seed h : List Nat) : (sig wi H K seed h).length = 16 * wi * wi + H * wi := by
  rw [sig, List.length_append, sgn_len wi K hw1 hw32, flat_len wi _ (bes_wid wi hw1 hw32 _ (lvs_wid wi hw1 hw32 seed _) _ _ _ _ _ (Nat.le_refl _)), besH_len wi _ H K hK, ← Nat.mul_assoc]
/-- A signature is taken, for every message with that hash. -/
theorem chk5_sig (wi H K : Nat) (hw1 : 1 ≤ wi) (hw32 : wi ≤ 32) (hK : K < 2 ^ H) (seed m : List Nat) : chk5 wi H (mth wi (lvs wi seed (2 ^ H))) K m (sig wi H K seed (sm wi m)) = true := by
  have h0 : (sgn wi K seed (sm (wi : Int) m) (8 * wi)).length = 16 * wi * wi := by rw [sgn_len wi K hw1 hw32, ← Nat.mul_assoc]
  have hwd := bes_wid wi hw1 hw32 _ (lvs_wid wi hw1 hw32 seed (2 ^ H)) _ 0 (2 ^ H) K 1 (Nat.le_refl _)
  have hl := besH_len wi (lvs wi seed (2 ^ H)) H K hK
  have hc := cuts_flat wi _ hwd
  rw [hl] at hc
  rw [chk5, sig, List.take_left' h0, List.drop_left' h0, hc, ent_congr _ _ _ (fun J V h1 h2 => lt5_sgn wi K hw1 hw32 seed (sm wi m) (8 * wi) J V h1 h2)]
  have := chkP_bes wi hw1 hw32 (lvs wi seed (2 ^ H)) (lvs_wid wi hw1 hw32 seed _) K (by rw [lvs_len]; exact hK)
  rw [lvs_get, lvs_len] at this
  exact this
theorem chkL_sig (wi H K : Nat) (hw1 : 1 ≤ wi) (hw32 : wi ≤ 32) (hH : H ≤ 6) (hK : K < 2 ^ H) (seed m : List Nat) : chkL wi H (mth wi (lvs wi seed (2 ^ H))) K m (sig wi H K seed (sm wi m)) = true := by
  have h1 := mth_wid wi hw1 hw32 (lvs wi seed (2 ^ H)) (lvs_wid wi hw1 hw32 seed _)
  rw [chkL, if_pos, Int.toNat_natCast, Int.toNat_natCast]
  · exact chk5_sig wi H K hw1 hw32 hK seed m
  · refine ⟨⟨by omega, by omega⟩, by omega, ⟨by omega, ?_⟩, ?_⟩
    · rw [Int.toNat_natCast]; omega
    · rw [szF_nat wi H hw1 hw32 hH, sig_len wi H K hw1 hw32 hK]
theorem chkL_len (wi H K : Nat) (hw1 : 1 ≤ wi) (hw32 : wi ≤ 32) (hH : H ≤ 6) (pub m s : List Nat) (hs : ¬ s.length = 16 * wi * wi + H * wi) : chkL wi H pub K m s = false := by
  rw [chkL, if_neg]
  rintro ⟨_, _, _, h⟩
  rw [szF_nat wi H hw1 hw32 hH] at h
  omega
end Go.Proofs.YtjokmlnghpnlbaaDoor

