import Derived.Test.YthamfidjilclpabDoorPk1
import Derived.Laws.StructEq
namespace Go.Proofs.YthamfidjilclpabDoor
open Go.RowKit

theorem Tryd.guard_span : Tryd.prog.eqGuardType Tryd.prog.depth 61 = false := by kernel_rfl
theorem Tryd.held_span : Tryd.prog.stoodInHeld 61 = false := by kernel_rfl
theorem Tryd.fields_span : Tryd.prog.underlying 61 = some (.struct (Tryd.prog.fieldsOf 61)) := by kernel_rfl
/-- Are two spans the same? -/
theorem eq_span (f n g m : Nat) (w : World) : (binOp .eql 61 (.agg #[.int .i64 f, .int .i64 n]) (.agg #[.int .i64 g, .int .i64 m])).run Tryd.prog w = .ok (.bool (decide (f = g ∧ n = m))) w := by
  rw [run_eql_struct, show (10000 : Nat) = 9999 + 1 from rfl, run_equalIn_agg _ 9999 _ _ _ Tryd.fields_span Tryd.held_span]
  have ig : ((f : Int) == (g : Int)) = decide (f = g) := by
    by_cases h : f = g
    · simp [h]
    · simp [h]; omega
  have im : ((n : Int) == (m : Int)) = decide (n = m) := by
    by_cases h : n = m
    · simp [h]
    · simp [h]; omega
  simp [Program.fieldsOf, Tryd.underlying61, Op.eqFields, go_sem, ig, im]
  by_cases h1 : f = g
  · by_cases h2 : n = m
    · simp [h1, h2]
    · simp [h1, h2]
  · simp [h1]
theorem two2 (w : World) (a0 a1 b0 b1 : Value) (ty : Nat) (W : World) (hW : (w.alloc (.cells #[a0, a1] ty)).alloc (.cells #[b0, b1] ty) = W) :
    W.cell? ⟨w.heap.size, 0, none⟩ = some a0 ∧ W.cell? ⟨w.heap.size, 1, none⟩ = some a1 ∧ W.cell? ⟨w.heap.size + 1, 0, none⟩ = some b0 ∧ W.cell? ⟨w.heap.size + 1, 1, none⟩ = some b1 ∧ Fr (fun _ => False) w W := by
  subst hW
  have e1 : w.heap.size + 1 = (w.alloc (.cells #[a0, a1] ty)).heap.size := by simp
  have A : ∀ j : Nat, ((w.alloc (.cells #[a0, a1] ty)).alloc (.cells #[b0, b1] ty)).cell? ⟨w.heap.size, j, none⟩ = (#[a0, a1] : Array Value)[j]? := fun j => by
    rw [World.cell?_alloc_past _ _ _ (by simp), World.cell?_alloc_at _ _ _ _ rfl]
  have B : ∀ j : Nat, ((w.alloc (.cells #[a0, a1] ty)).alloc (.cells #[b0, b1] ty)).cell? ⟨w.heap.size + 1, j, none⟩ = (#[b0, b1] : Array Value)[j]? := fun j => by
    rw [e1, World.cell?_alloc_at _ _ _ _ rfl]
  exact ⟨A 0, A 1, B 0, B 1, ((Fr.refl _ _).alloc _).alloc _⟩
def DepSays (f n tf tn : Nat) (w : World) : Prop := Calls Tryd.prog 91 #[sv f n, sv tf tn] w fun e w' => e = .returned (.int .i64 (dep f n tf tn : Nat)) ∧ Fr (fun _ => False) w w'
set_option maxRecDepth 100000 in
set_option maxHeartbeats 1000000 in
theorem depth_any (m : Nat) : ∀ (f n tf tn : Nat) (w : World), n ≤ m → f + n < 9223372036854775808 → Rch f n tf tn → DepSays f n tf tn w := by
  induction m with
  | zero =>
    intro f n tf tn w hm hb hr
    by_cases e : f = tf ∧ n = tn
    · obtain ⟨rfl, rfl⟩ := e
      unfold DepSays sv
      rw [dep_eq]
      have eqs := fun w => eq_span f n f n w
      simp only [decide_true, and_self] at eqs
      have eg := Tryd.guard_span
      go_enter Tryd.func91, Tryd.ntmps91
      go_wp2_with fail
      go_ret
      exact ⟨rfl, ((Fr.refl _ _).alloc _).alloc _⟩
    · have := (rch_ne hr e).1; omega
  | succ m ih =>
    intro f n tf tn w hm hb hr
    by_cases e : f = tf ∧ n = tn
    · obtain ⟨rfl, rfl⟩ := e
      unfold DepSays sv
      rw [dep_eq]
      have eqs := fun w => eq_span f n f n w
      simp only [decide_true, and_self] at eqs
      have eg := Tryd.guard_span
      go_enter Tryd.func91, Tryd.ntmps91
      go_wp2_with fail
      go_ret
      exact ⟨rfl, ((Fr.refl _ _).alloc _).alloc _⟩
    · obtain ⟨h2, r1, r2⟩ := rch_ne hr e
      have hlt := hf_lt n h2
      have hp := hf_pos n
      have eqs := fun w => eq_span f n tf tn w
      rw [decide_eq_false e] at eqs
      have eg := Tryd.guard_span
      have hhv := fun w => halves_any f n w hb h2
      have hbf := fun w => before_any tf tn (f + hf n) (n - hf n) w
      by_cases hl : tf < f + hf n
      · rw [decide_eq_true hl] at hbf
        have hrec := fun w => ih f (hf n) tf tn w (by omega) (by omega) (r1 hl)
        have hdl := dep_le _ f (hf n) tf tn (Nat.le_refl _)
        unfold DepSays at hrec ⊢
        rw [dep_l h2 e hl]
        generalize dep f (hf n) tf tn = D at *
        have w1 : IntKind.i64.wrap (1 + (D : Int)) = 1 + (D : Int) := by rw [IntKind.wrap_i64]; omega
        have hD : ((D + 1 : Nat) : Int) = 1 + (D : Int) := by omega
        rw [hD]
        clear hD hdl
        generalize f + hf n = F2 at *
        generalize n - hf n = N2 at *
        generalize hf n = K at *
        have HC := hide (And.intro hhv (And.intro hbf hrec))
        clear hhv hbf hrec r1 r2 hr ih hlt hp hl hb hm h2 e
        unfold sv at HC ⊢
        go_enter Tryd.func91, Tryd.ntmps91
        go_wp2_with fail
        obtain ⟨W0, hW0⟩ : ∃ W0, (w.alloc (.cells #[.int .i64 f, .int .i64 n] 61)).alloc (.cells #[.int .i64 tf, .int .i64 tn] 61) = W0 := ⟨_, rfl⟩
        rw [hW0]
        obtain ⟨-, -, b0, b1, hF0⟩ := two2 w _ _ _ _ _ W0 hW0
        refine ((unhide HC).1 _).mono ?_
        rintro e' wA ⟨rfl, hFA⟩
        have c0 := (hFA.cell (lt_of_cell b0) (fun h => h)).trans b0
        have c1 := (hFA.cell (lt_of_cell b1) (fun h => h)).trans b1
        have HF := hide (hF0.trans hFA (fun _ _ h => h))
        clear hFA hF0 b0 b1 hW0
        generalize w.heap.size + 1 = PB at *
        have l0 : PB < wA.heap.size := lt_of_cell c0
        have l1 : PB < wA.heap.size + 1 := Nat.lt_succ_of_lt l0
        go_wp2_with fail
        obtain ⟨W1, hW1⟩ : ∃ W1, (wA.alloc (.cells #[.int .i64 f, .int .i64 K] 61)).alloc (.cells #[.int .i64 F2, .int .i64 N2] 61) = W1 := ⟨_, rfl⟩
        rw [hW1]
        obtain ⟨x0, x1, y0, y1, hF1⟩ := two2 wA _ _ _ _ _ W1 hW1
        refine ((unhide HC).2.1 _).mono ?_
        rintro e' wB ⟨rfl, hFB⟩
        have hF1B := hF1.trans hFB (fun _ _ h => h)
        have d0 := (hF1B.cell (lt_of_cell c0) (fun h => h)).trans c0
        have d1 := (hF1B.cell (lt_of_cell c1) (fun h => h)).trans c1
        have z0 := (hFB.cell (lt_of_cell x0) (fun h => h)).trans x0
        have z1 := (hFB.cell (lt_of_cell x1) (fun h => h)).trans x1
        have HF2 := hide ((unhide HF).trans hF1B (fun _ _ h => h))
        clear hF1 hFB hF1B hW1 x0 x1 y0 y1 c0 c1 HF
        generalize wA.heap.size = Z at *
        go_wp2_with fail
        refine ((unhide HC).2.2 _).mono ?_
        rintro e' wC ⟨rfl, hFC⟩
        have HF3 := hide ((unhide HF2).trans hFC (fun _ _ h => h))
        clear hFC
        go_wp2_with fail
        go_ret
        exact ⟨rfl, unhide HF3⟩
      · rw [decide_eq_false hl] at hbf
        have hrec := fun w => ih (f + hf n) (n - hf n) tf tn w (by omega) (by omega) (r2 hl)
        have hdl := dep_le _ (f + hf n) (n - hf n) tf tn (Nat.le_refl _)
        unfold DepSays at hrec ⊢
        rw [dep_r h2 e hl]
        generalize dep (f + hf n) (n - hf n) tf tn = D at *
        have w1 : IntKind.i64.wrap (1 + (D : Int)) = 1 + (D : Int) := by rw [IntKind.wrap_i64]; omega
        have hD : ((D + 1 : Nat) : Int) = 1 + (D : Int) := by omega
        rw [hD]
        clear hD hdl
        generalize f + hf n = F2 at *
        generalize n - hf n = N2 at *
        generalize hf n = K at *
        have HC := hide (And.intro hhv (And.intro hbf hrec))
        clear hhv hbf hrec r1 r2 hr ih hlt hp hl hb hm h2 e
        unfold sv at HC ⊢
        go_enter Tryd.func91, Tryd.ntmps91
        go_wp2_with fail
        obtain ⟨W0, hW0⟩ : ∃ W0, (w.alloc (.cells #[.int .i64 f, .int .i64 n] 61)).alloc (.cells #[.int .i64 tf, .int .i64 tn] 61) = W0 := ⟨_, rfl⟩
        rw [hW0]
        obtain ⟨-, -, b0, b1, hF0⟩ := two2 w _ _ _ _ _ W0 hW0
        refine ((unhide HC).1 _).mono ?_
        rintro e' wA ⟨rfl, hFA⟩
        have c0 := (hFA.cell (lt_of_cell b0) (fun h => h)).trans b0
        have c1 := (hFA.cell (lt_of_cell b1) (fun h => h)).trans b1
        have HF := hide (hF0.trans hFA (fun _ _ h => h))
        clear hFA hF0 b0 b1 hW0
        generalize w.heap.size + 1 = PB at *
        have l0 : PB < wA.heap.size := lt_of_cell c0
        have l1 : PB < wA.heap.size + 1 := Nat.lt_succ_of_lt l0
        go_wp2_with fail
        obtain ⟨W1, hW1⟩ : ∃ W1, (wA.alloc (.cells #[.int .i64 f, .int .i64 K] 61)).alloc (.cells #[.int .i64 F2, .int .i64 N2] 61) = W1 := ⟨_, rfl⟩
        rw [hW1]
        obtain ⟨x0, x1, y0, y1, hF1⟩ := two2 wA _ _ _ _ _ W1 hW1
        refine ((unhide HC).2.1 _).mono ?_
        rintro e' wB ⟨rfl, hFB⟩
        have hF1B := hF1.trans hFB (fun _ _ h => h)
        have d0 := (hF1B.cell (lt_of_cell c0) (fun h => h)).trans c0
        have d1 := (hF1B.cell (lt_of_cell c1) (fun h => h)).trans c1
        have z0 := (hFB.cell (lt_of_cell y0) (fun h => h)).trans y0
        have z1 := (hFB.cell (lt_of_cell y1) (fun h => h)).trans y1
        have HF2 := hide ((unhide HF).trans hF1B (fun _ _ h => h))
        clear hF1 hFB hF1B hW1 x0 x1 y0 y1 c0 c1 HF
        generalize wA.heap.size + 1 = Z at *
        go_wp2_with fail
        refine ((unhide HC).2.2 _).mono ?_
        rintro e' wC ⟨rfl, hFC⟩
        have HF3 := hide ((unhide HF2).trans hFC (fun _ _ h => h))
        clear hFC
        go_wp2_with fail
        go_ret
        exact ⟨rfl, unhide HF3⟩
end Go.Proofs.YthamfidjilclpabDoor

namespace Go.Proofs.YthamfidjilclpabDoor
open Go.RowKit

/-- A claim. -/
def cv (wi tf tn : Nat) (rv x : Value) : Value := .agg #[.int .i64 wi, .int .i64 tf, .int .i64 tn, rv, x]
theorem box52 (w : World) (a0 a1 a2 a3 a4 b0 b1 : Value) (ta tb : Nat) (W : World) (hW : (w.alloc (.cells #[a0, a1, a2, a3, a4] ta)).alloc (.cells #[b0, b1] tb) = W) :
    (W.cell? ⟨w.heap.size, 0, none⟩ = some a0 ∧ W.cell? ⟨w.heap.size, 1, none⟩ = some a1 ∧ W.cell? ⟨w.heap.size, 2, none⟩ = some a2 ∧ W.cell? ⟨w.heap.size, 3, none⟩ = some a3 ∧ W.cell? ⟨w.heap.size, 4, none⟩ = some a4) ∧ W.cell? ⟨w.heap.size + 1, 0, none⟩ = some b0 ∧ W.cell? ⟨w.heap.size + 1, 1, none⟩ = some b1 ∧ Fr (fun _ => False) w W := by
  subst hW
  have e1 : w.heap.size + 1 = (w.alloc (.cells #[a0, a1, a2, a3, a4] ta)).heap.size := by simp
  have A : ∀ j : Nat, ((w.alloc (.cells #[a0, a1, a2, a3, a4] ta)).alloc (.cells #[b0, b1] tb)).cell? ⟨w.heap.size, j, none⟩ = (#[a0, a1, a2, a3, a4] : Array Value)[j]? := fun j => by
    rw [World.cell?_alloc_past _ _ _ (by simp), World.cell?_alloc_at _ _ _ _ rfl]
  have B : ∀ j : Nat, ((w.alloc (.cells #[a0, a1, a2, a3, a4] ta)).alloc (.cells #[b0, b1] tb)).cell? ⟨w.heap.size + 1, j, none⟩ = (#[b0, b1] : Array Value)[j]? := fun j => by
    rw [e1, World.cell?_alloc_at _ _ _ _ rfl]
  exact ⟨⟨A 0, A 1, A 2, A 3, A 4⟩, B 0, B 1, ((Fr.refl _ _).alloc _).alloc _⟩
theorem box5 (w : World) (a0 a1 a2 a3 a4 : Value) (ta : Nat) (W : World) (hW : w.alloc (.cells #[a0, a1, a2, a3, a4] ta) = W) :
    (W.cell? ⟨w.heap.size, 0, none⟩ = some a0 ∧ W.cell? ⟨w.heap.size, 1, none⟩ = some a1 ∧ W.cell? ⟨w.heap.size, 2, none⟩ = some a2 ∧ W.cell? ⟨w.heap.size, 3, none⟩ = some a3 ∧ W.cell? ⟨w.heap.size, 4, none⟩ = some a4) ∧ Fr (fun _ => False) w W := by
  subst hW
  have A : ∀ j : Nat, (w.alloc (.cells #[a0, a1, a2, a3, a4] ta)).cell? ⟨w.heap.size, j, none⟩ = (#[a0, a1, a2, a3, a4] : Array Value)[j]? := fun j => by
    rw [World.cell?_alloc_at _ _ _ _ rfl]
  exact ⟨⟨A 0, A 1, A 2, A 3, A 4⟩, (Fr.refl _ _).alloc _⟩
set_option maxRecDepth 100000 in
set_option maxHeartbeats 1000000 in
theorem inner_any (wi tf tn N xc g o : Nat) (ro : Option Addr) (rn rc : Nat) (v : Value) (w : World) (hc : w.cell? ⟨g, o + N, none⟩ = some v) (hcp : N + 1 ≤ xc) (hN : N < 9223372036854775807) (hv : ∃ a n c, v = .slice a n c) :
    Calls Tryd.prog 78 #[cv wi tf tn (.slice ro rn rc) (.slice (some ⟨g, o, none⟩) (N + 1) xc)] w fun e w' => e = .returned (.tuple #[cv wi tf tn (.slice ro rn rc) (.slice (some ⟨g, o, none⟩) N xc), v]) ∧ Fr (fun _ => False) w w' := by
  obtain ⟨a, n, c, rfl⟩ := hv
  unfold cv
  have w1 : IntKind.i64.wrap ((N : Int) + 1 - 1) = (N : Int) := by rw [IntKind.wrap_i64]; omega
  have hgl : g < w.heap.size := lt_of_cell hc
  have hgl1 : g < w.heap.size + 1 := Nat.lt_succ_of_lt hgl
  have q1 : (N : Int) < (N : Int) + 1 := by omega
  have q2 : (N : Int) ≤ (xc : Int) := by omega
  go_enter Tryd.func78, Tryd.ntmps78
  go_wp2_with fail
  go_returns
  exact ⟨rfl, ((Fr.refl _ _).alloc _).alloc _⟩
set_option maxRecDepth 100000 in
set_option maxHeartbeats 1000000 in
theorem sides_l (wi tf tn f n N xc g o : Nat) (ro : Option Addr) (rn rc : Nat) (v : Value) (w : World) (hc : w.cell? ⟨g, o + N, none⟩ = some v) (hcp : N + 1 ≤ xc) (hN : N < 9223372036854775807) (hv : ∃ a n c, v = .slice a n c) (h2 : 2 ≤ n) (hb : f + n < 9223372036854775808) (hl : tf < f + hf n) (M : List Nat)
    (ht : ∀ w', Fr (fun _ => False) w w' → Calls Tryd.prog 55 #[cv wi tf tn (.slice ro rn rc) (.slice (some ⟨g, o, none⟩) N xc), sv f (hf n)] w' fun e w'' => ∃ uo un uc, e = .returned (.slice uo un uc) ∧ Sl w'' (.slice uo un uc) M ∧ Fr (fun _ => False) w' w'') :
    Calls Tryd.prog 77 #[cv wi tf tn (.slice ro rn rc) (.slice (some ⟨g, o, none⟩) (N + 1) xc), sv f n] w fun e w' => ∃ uo un uc, e = .returned (.tuple #[.slice uo un uc, v]) ∧ Sl w' (.slice uo un uc) M ∧ Fr (fun _ => False) w w' := by
  obtain ⟨va, vn, vc, rfl⟩ := hv
  have hin := fun (w' : World) (hf : Fr (fun _ => False) w w') => inner_any wi tf tn N xc g o ro rn rc (.slice va vn vc) w' ((hf.cell (lt_of_cell hc) (fun h => h)).trans hc) hcp hN ⟨_, _, _, rfl⟩
  have hhv := fun w => halves_any f n w hb h2
  have hbf := fun w => before_any tf tn (f + hf n) (n - hf n) w
  rw [decide_eq_true hl] at hbf
  clear hl hc hcp hN hb h2
  generalize f + hf n = F2 at *
  generalize n - hf n = N2 at *
  generalize hf n = K at *
  have HC := hide (And.intro hhv (And.intro hbf (And.intro hin ht)))
  clear hhv hbf hin ht
  unfold sv cv at *
  go_enter Tryd.func77, Tryd.ntmps77
  go_wp2_with fail
  obtain ⟨W0, hW0⟩ : ∃ W0, (w.alloc (.cells #[.int .i64 wi, .int .i64 tf, .int .i64 tn, .slice ro rn rc, .slice (some ⟨g, o, none⟩) (N + 1) xc] 67)).alloc (.cells #[.int .i64 f, .int .i64 n] 61) = W0 := ⟨_, rfl⟩
  rw [hW0]
  obtain ⟨⟨a0, a1, a2, a3, a4⟩, -, -, hF0⟩ := box52 w _ _ _ _ _ _ _ _ _ W0 hW0
  refine ((unhide HC).1 _).mono ?_
  rintro e' wA ⟨rfl, hFA⟩
  have b0 := (hFA.cell (lt_of_cell a0) (fun h => h)).trans a0
  have b1 := (hFA.cell (lt_of_cell a1) (fun h => h)).trans a1
  have b2 := (hFA.cell (lt_of_cell a2) (fun h => h)).trans a2
  have b3 := (hFA.cell (lt_of_cell a3) (fun h => h)).trans a3
  have b4 := (hFA.cell (lt_of_cell a4) (fun h => h)).trans a4
  have HF := hide (hF0.trans hFA (fun _ _ h => h))
  clear hFA hF0 a0 a1 a2 a3 a4 hW0
  generalize w.heap.size = P at *
  have l0 : P < wA.heap.size := lt_of_cell b0
  have l1 : P < wA.heap.size + 1 := Nat.lt_succ_of_lt l0
  go_wp2_with fail
  obtain ⟨W1, hW1⟩ : ∃ W1, (wA.alloc (.cells #[.int .i64 f, .int .i64 K] 61)).alloc (.cells #[.int .i64 F2, .int .i64 N2] 61) = W1 := ⟨_, rfl⟩
  rw [hW1]
  obtain ⟨x0, x1, y0, y1, hF1⟩ := two2 wA _ _ _ _ _ W1 hW1
  refine ((unhide HC).2.2.1 _ ((unhide HF).trans hF1 (fun _ _ h => h))).mono ?_
  rintro e' wB ⟨rfl, hFB⟩
  have hF1B := hF1.trans hFB (fun _ _ h => h)
  have c1 := (hF1B.cell (lt_of_cell b1) (fun h => h)).trans b1
  have c2 := (hF1B.cell (lt_of_cell b2) (fun h => h)).trans b2
  have u0 := (hFB.cell (lt_of_cell x0) (fun h => h)).trans x0
  have u1 := (hFB.cell (lt_of_cell x1) (fun h => h)).trans x1
  have v0 := (hFB.cell (lt_of_cell y0) (fun h => h)).trans y0
  have v1 := (hFB.cell (lt_of_cell y1) (fun h => h)).trans y1
  have HF2 := hide ((unhide HF).trans hF1B (fun _ _ h => h))
  clear hF1 hFB hF1B hW1 x0 x1 y0 y1 b0 b1 b2 b3 b4 HF l0 l1
  generalize wA.heap.size = Z at *
  have k0 : P < wB.heap.size := lt_of_cell c1
  have k1 : Z < wB.heap.size := lt_of_cell u0
  have k2 : Z + 1 < wB.heap.size := lt_of_cell v0
  go_wp2_with fail
  obtain ⟨W2, hW2⟩ : ∃ W2, wB.alloc (.cells #[.int .i64 wi, .int .i64 tf, .int .i64 tn, .slice ro rn rc, .slice (some ⟨g, o, none⟩) N xc] 67) = W2 := ⟨_, rfl⟩
  rw [hW2]
  obtain ⟨⟨p0, p1, p2, p3, p4⟩, hF3⟩ := box5 wB _ _ _ _ _ _ W2 hW2
  refine ((unhide HC).2.1 _).mono ?_
  rintro e' wC ⟨rfl, hFC⟩
  have hF3C := hF3.trans hFC (fun _ _ h => h)
  have q0 := (hFC.cell (lt_of_cell p0) (fun h => h)).trans p0
  have q1 := (hFC.cell (lt_of_cell p1) (fun h => h)).trans p1
  have q2 := (hFC.cell (lt_of_cell p2) (fun h => h)).trans p2
  have q3 := (hFC.cell (lt_of_cell p3) (fun h => h)).trans p3
  have q4 := (hFC.cell (lt_of_cell p4) (fun h => h)).trans p4
  have m0 := (hF3C.cell (lt_of_cell u0) (fun h => h)).trans u0
  have m1 := (hF3C.cell (lt_of_cell u1) (fun h => h)).trans u1
  have HF4 := hide ((unhide HF2).trans hF3C (fun _ _ h => h))
  clear hF3 hFC hF3C hW2 p0 p1 p2 p3 p4 HF2 u0 u1 v0 v1 c1 c2 k0 k1 k2
  generalize wB.heap.size = Y at *
  go_wp2_with fail
  refine ((unhide HC).2.2.2 _ (unhide HF4)).mono ?_
  rintro e' wD ⟨uo, un, uc, rfl, hS, hFD⟩
  have HD := hide (And.intro hS ((unhide HF4).trans hFD (fun _ _ h => h)))
  clear hS hFD
  go_wp2_with fail
  go_returns
  exact ⟨uo, un, uc, rfl, (unhide HD).1, (unhide HD).2⟩
set_option maxRecDepth 100000 in
set_option maxHeartbeats 1000000 in
theorem sides_r (wi tf tn f n N xc g o : Nat) (ro : Option Addr) (rn rc : Nat) (v : Value) (w : World) (hc : w.cell? ⟨g, o + N, none⟩ = some v) (hcp : N + 1 ≤ xc) (hN : N < 9223372036854775807) (hv : ∃ a n c, v = .slice a n c) (h2 : 2 ≤ n) (hb : f + n < 9223372036854775808) (hl : ¬ tf < f + hf n) (M : List Nat)
    (ht : ∀ w', Fr (fun _ => False) w w' → Calls Tryd.prog 55 #[cv wi tf tn (.slice ro rn rc) (.slice (some ⟨g, o, none⟩) N xc), sv (f + hf n) (n - hf n)] w' fun e w'' => ∃ uo un uc, e = .returned (.slice uo un uc) ∧ Sl w'' (.slice uo un uc) M ∧ Fr (fun _ => False) w' w'') :
    Calls Tryd.prog 77 #[cv wi tf tn (.slice ro rn rc) (.slice (some ⟨g, o, none⟩) (N + 1) xc), sv f n] w fun e w' => ∃ uo un uc, e = .returned (.tuple #[v, .slice uo un uc]) ∧ Sl w' (.slice uo un uc) M ∧ Fr (fun _ => False) w w' := by
  obtain ⟨va, vn, vc, rfl⟩ := hv
  have hin := fun (w' : World) (hf : Fr (fun _ => False) w w') => inner_any wi tf tn N xc g o ro rn rc (.slice va vn vc) w' ((hf.cell (lt_of_cell hc) (fun h => h)).trans hc) hcp hN ⟨_, _, _, rfl⟩
  have hhv := fun w => halves_any f n w hb h2
  have hbf := fun w => before_any tf tn (f + hf n) (n - hf n) w
  rw [decide_eq_false hl] at hbf
  clear hl hc hcp hN hb h2
  generalize f + hf n = F2 at *
  generalize n - hf n = N2 at *
  generalize hf n = K at *
  have HC := hide (And.intro hhv (And.intro hbf (And.intro hin ht)))
  clear hhv hbf hin ht
  unfold sv cv at *
  go_enter Tryd.func77, Tryd.ntmps77
  go_wp2_with fail
  obtain ⟨W0, hW0⟩ : ∃ W0, (w.alloc (.cells #[.int .i64 wi, .int .i64 tf, .int .i64 tn, .slice ro rn rc, .slice (some ⟨g, o, none⟩) (N + 1) xc] 67)).alloc (.cells #[.int .i64 f, .int .i64 n] 61) = W0 := ⟨_, rfl⟩
  rw [hW0]
  obtain ⟨⟨a0, a1, a2, a3, a4⟩, -, -, hF0⟩ := box52 w _ _ _ _ _ _ _ _ _ W0 hW0
  refine ((unhide HC).1 _).mono ?_
  rintro e' wA ⟨rfl, hFA⟩
  have b0 := (hFA.cell (lt_of_cell a0) (fun h => h)).trans a0
  have b1 := (hFA.cell (lt_of_cell a1) (fun h => h)).trans a1
  have b2 := (hFA.cell (lt_of_cell a2) (fun h => h)).trans a2
  have b3 := (hFA.cell (lt_of_cell a3) (fun h => h)).trans a3
  have b4 := (hFA.cell (lt_of_cell a4) (fun h => h)).trans a4
  have HF := hide (hF0.trans hFA (fun _ _ h => h))
  clear hFA hF0 a0 a1 a2 a3 a4 hW0
  generalize w.heap.size = P at *
  have l0 : P < wA.heap.size := lt_of_cell b0
  have l1 : P < wA.heap.size + 1 := Nat.lt_succ_of_lt l0
  go_wp2_with fail
  obtain ⟨W1, hW1⟩ : ∃ W1, (wA.alloc (.cells #[.int .i64 f, .int .i64 K] 61)).alloc (.cells #[.int .i64 F2, .int .i64 N2] 61) = W1 := ⟨_, rfl⟩
  rw [hW1]
  obtain ⟨x0, x1, y0, y1, hF1⟩ := two2 wA _ _ _ _ _ W1 hW1
  refine ((unhide HC).2.2.1 _ ((unhide HF).trans hF1 (fun _ _ h => h))).mono ?_
  rintro e' wB ⟨rfl, hFB⟩
  have hF1B := hF1.trans hFB (fun _ _ h => h)
  have c1 := (hF1B.cell (lt_of_cell b1) (fun h => h)).trans b1
  have c2 := (hF1B.cell (lt_of_cell b2) (fun h => h)).trans b2
  have u0 := (hFB.cell (lt_of_cell x0) (fun h => h)).trans x0
  have u1 := (hFB.cell (lt_of_cell x1) (fun h => h)).trans x1
  have v0 := (hFB.cell (lt_of_cell y0) (fun h => h)).trans y0
  have v1 := (hFB.cell (lt_of_cell y1) (fun h => h)).trans y1
  have HF2 := hide ((unhide HF).trans hF1B (fun _ _ h => h))
  clear hF1 hFB hF1B hW1 x0 x1 y0 y1 b0 b1 b2 b3 b4 HF l0 l1
  generalize wA.heap.size = Z at *
  have k0 : P < wB.heap.size := lt_of_cell c1
  have k1 : Z < wB.heap.size := lt_of_cell u0
  have k2 : Z + 1 < wB.heap.size := lt_of_cell v0
  go_wp2_with fail
  obtain ⟨W2, hW2⟩ : ∃ W2, wB.alloc (.cells #[.int .i64 wi, .int .i64 tf, .int .i64 tn, .slice ro rn rc, .slice (some ⟨g, o, none⟩) N xc] 67) = W2 := ⟨_, rfl⟩
  rw [hW2]
  obtain ⟨⟨p0, p1, p2, p3, p4⟩, hF3⟩ := box5 wB _ _ _ _ _ _ W2 hW2
  refine ((unhide HC).2.1 _).mono ?_
  rintro e' wC ⟨rfl, hFC⟩
  have hF3C := hF3.trans hFC (fun _ _ h => h)
  have q0 := (hFC.cell (lt_of_cell p0) (fun h => h)).trans p0
  have q1 := (hFC.cell (lt_of_cell p1) (fun h => h)).trans p1
  have q2 := (hFC.cell (lt_of_cell p2) (fun h => h)).trans p2
  have q3 := (hFC.cell (lt_of_cell p3) (fun h => h)).trans p3
  have q4 := (hFC.cell (lt_of_cell p4) (fun h => h)).trans p4
  have m0 := (hF3C.cell (lt_of_cell v0) (fun h => h)).trans v0
  have m1 := (hF3C.cell (lt_of_cell v1) (fun h => h)).trans v1
  have HF4 := hide ((unhide HF2).trans hF3C (fun _ _ h => h))
  clear hF3 hFC hF3C hW2 p0 p1 p2 p3 p4 HF2 u0 u1 v0 v1 c1 c2 k0 k1 k2
  generalize wB.heap.size = Y at *
  go_wp2_with fail
  refine ((unhide HC).2.2.2 _ (unhide HF4)).mono ?_
  rintro e' wD ⟨uo, un, uc, rfl, hS, hFD⟩
  have HD := hide (And.intro hS ((unhide HF4).trans hFD (fun _ _ h => h)))
  clear hS hFD
  go_wp2_with fail
  go_returns
  exact ⟨uo, un, uc, rfl, (unhide HD).1, (unhide HD).2⟩
end Go.Proofs.YthamfidjilclpabDoor

namespace Go.Proofs.YthamfidjilclpabDoor
open Go.RowKit

theorem topv_wid (wi : Nat) (hw1 : 1 ≤ wi) (hw32 : wi ≤ 32) (r : List Nat) (hr : r.length = wi) (m : Nat) : ∀ f n tf tn (ps : List (List Nat)), n ≤ m → (topv wi r f n tf tn ps).length = wi := by
  intro f n tf tn ps _
  by_cases e : (f = tf ∧ n = tn) ∨ n < 2
  · rw [topv, dif_pos e]; exact hr
  · by_cases hl : tf < f + hf n
    · rw [topv_l (by omega) (by omega) hl]; exact nd_len wi hw1 hw32 _ _
    · rw [topv_r (by omega) (by omega) hl]; exact nd_len wi hw1 hw32 _ _
theorem getLastD_at (ps : List (List Nat)) (D : Nat) (h : ps.length = D + 1) : ps.getLastD [] = ps[D]'(by omega) := by
  have e : ps.length - 1 = D := by omega
  rw [List.getLastD_eq_getLast?, List.getLast?_eq_getElem?, e, List.getElem?_eq_getElem (by omega)]; rfl
set_option maxRecDepth 100000 in
set_option maxHeartbeats 2000000 in
/-- The root of a span as it comes out of a claim. -/
theorem top_any (wi : Nat) (hw1 : 1 ≤ wi) (hw32 : wi ≤ 32) (m : Nat) : ∀ (f n tf tn : Nat) (w : World) (ro : Option Addr) (rn rc : Nat) (r : List Nat) (x : Value) (vs : List Value) (ps : List (List Nat)), n ≤ m → f + n < 9223372036854775808 → Rch f n tf tn → GS w → Sl w (.slice ro rn rc) r → r.length = wi → Pcs w x vs ps → Cp x → ps.length = dep f n tf tn → (∀ p ∈ ps, p.length = wi) →
    Calls Tryd.prog 55 #[cv wi tf tn (.slice ro rn rc) x, sv f n] w fun e w' => ∃ uo un uc, e = .returned (.slice uo un uc) ∧ Sl w' (.slice uo un uc) (topv wi r f n tf tn ps) ∧ Fr (fun _ => False) w w' := by
  induction m with
  | zero =>
    intro f n tf tn w ro rn rc r x vs ps hm hb hr hg hs hrw hp hcx hpd hpw
    by_cases e : f = tf ∧ n = tn
    · obtain ⟨rfl, rfl⟩ := e
      rw [topv_eq]
      have eqs := fun w => eq_span f n f n w
      simp only [decide_true, and_self] at eqs
      have eg := Tryd.guard_span
      obtain ⟨xo, xc, rfl⟩ := hp.form
      have HS := hide hs
      clear hs hg hp hcx hpd hpw hrw
      generalize ps.length = N at *
      unfold sv cv
      go_enter Tryd.func55, Tryd.ntmps55
      go_wp2_with fail
      go_ret
      exact ⟨ro, rn, rc, rfl, (unhide HS).fr0 (((Fr.refl _ _).alloc _).alloc _), ((Fr.refl _ _).alloc _).alloc _⟩
    · have := (rch_ne hr e).1; omega
  | succ m ih =>
    intro f n tf tn w ro rn rc r x vs ps hm hb hr hg hs hrw hp hcx hpd hpw
    by_cases e : f = tf ∧ n = tn
    · obtain ⟨rfl, rfl⟩ := e
      rw [topv_eq]
      have eqs := fun w => eq_span f n f n w
      simp only [decide_true, and_self] at eqs
      have eg := Tryd.guard_span
      obtain ⟨xo, xc, rfl⟩ := hp.form
      have HS := hide hs
      clear hs hg hp hcx hpd hpw hrw
      generalize ps.length = N at *
      unfold sv cv
      go_enter Tryd.func55, Tryd.ntmps55
      go_wp2_with fail
      go_ret
      exact ⟨ro, rn, rc, rfl, (unhide HS).fr0 (((Fr.refl _ _).alloc _).alloc _), ((Fr.refl _ _).alloc _).alloc _⟩
    · obtain ⟨h2, r1, r2⟩ := rch_ne hr e
      have hlt := hf_lt n h2
      have hpos := hf_pos n
      have eqs := fun w => eq_span f n tf tn w
      rw [decide_eq_false e] at eqs
      have eg := Tryd.guard_span
      by_cases hl : tf < f + hf n
      · have hdp := dep_l h2 e hl
        obtain ⟨D, hD⟩ : ∃ D, dep f (hf n) tf tn = D := ⟨_, rfl⟩
        rw [hD] at hdp
        have hlen : ps.length = D + 1 := by rw [hpd, hdp]
        obtain ⟨xo, xc, rfl⟩ := hp.form
        rw [hlen] at hp hcx ⊢
        obtain ⟨g, o, v, rfl, hcell, -⟩ := hp.cell (Fr.refl _ _) D (by omega)
        have hDb : D ≤ n := by rw [← hD]; have := dep_le _ f (hf n) tf tn (Nat.le_refl _); omega
        have hDc : D < 9223372036854775807 := by have h1 := dep_le _ f n tf tn (Nat.le_refl _); omega
        have hcap : D + 1 ≤ xc := hcx _ _ _ rfl
        have hvD : vs[D]? = some v := by
          have hvl : D < vs.length := by rw [hp.len]; omega
          rcases hp.at_ with ⟨e', _⟩ | ⟨_, _, e', _⟩ | ⟨g', o', c', e', _, hc'⟩
          · simp at e'
          · simp at e'
          · simp only [Value.slice.injEq, Option.some.injEq, Addr.mk.injEq, and_true] at e'
            obtain ⟨⟨rfl, rfl⟩, _⟩ := e'
            have h1 := hc' D _ (List.getElem?_eq_getElem hvl)
            rw [h1] at hcell
            rw [List.getElem?_eq_getElem hvl, Option.some.inj hcell]
        have hsv : Sl w v ps[D] := hp.sl D v _ hvD (List.getElem?_eq_getElem (by omega))
        have hdl : ps.dropLast = ps.take D := by rw [List.dropLast_eq_take, hlen]; rfl
        have hgl : ps.getLastD [] = ps[D] := getLastD_at ps D hlen
        have hp' := hp.take D (by omega)
        have htop : ∀ w', Fr (fun _ => False) w w' → _ := fun w' hf' => ih f (hf n) tf tn w' ro rn rc r _ _ (ps.take D) (by omega) (by omega) (r1 hl) (hg.fr0 hf') (hs.fr0 hf') hrw (hp'.fr0 hf') (fun _ _ _ e => by cases e; omega) (by rw [List.length_take]; omega) (fun p hp => hpw p (List.mem_of_mem_take hp))
        rw [topv_l h2 e hl, hdl, hgl]
        have hTw := topv_wid wi hw1 hw32 r hrw _ f (hf n) tf tn (ps.take D) (Nat.le_refl _)
        have hAw := hpw ps[D] (List.getElem_mem _)
        obtain ⟨va, vn, vc, rfl⟩ : ∃ a n c, v = .slice a n c := by
          obtain ⟨a, c, e⟩ := hsv.form
          exact ⟨_, _, _, e⟩
        have hsd := fun (w' : World) (hf' : Fr (fun _ => False) w w') => sides_l wi tf tn f n D xc g o ro rn rc (.slice va vn vc) w' ((hf'.cell (lt_of_cell hcell) (fun h => h)).trans hcell) hcap hDc ⟨_, _, _, rfl⟩ h2 hb hl _ (fun w'' hf'' => htop w'' (hf'.trans hf'' (fun _ _ h => h)))
        generalize topv wi r f (hf n) tf tn (ps.take D) = T at *
        generalize ps[D] = A at *
        have hnd := nd_len wi hw1 hw32 T A
        have hnode : ∀ w' x y, GS w' → Sl w' x T → Sl w' y A → Calls Tryd.prog 33 #[.int .i64 wi, x, y] w' fun e w'' => ∃ yo, e = .returned (.slice yo wi wi) ∧ OB w' w'' yo wi (nd wi T A) := fun w' x y hg hx hy => by
          have := node_any (wi : Int) x y T A w' hg hx hy (by omega) (by omega)
          rw [hnd] at this
          exact this
        have HC := hide (And.intro hsd (And.intro hnode (And.intro hg (And.intro hsv (And.intro (nd_lt (wi : Int) T A) hnd)))))
        clear hDc hsd hnode hg hsv hp hp' htop hTw hAw hdl hgl hvD hDb hcap hcell hlen hdp hD hs hpw hrw hcx hpd ih r1 r2 hr hlt hpos hl hnd hm h2 hb e
        unfold sv cv at *
        go_enter Tryd.func55, Tryd.ntmps55
        go_wp2_with fail
        obtain ⟨W0, hW0⟩ : ∃ W0, (w.alloc (.cells #[.int .i64 wi, .int .i64 tf, .int .i64 tn, .slice ro rn rc, .slice (some ⟨g, o, none⟩) (D + 1) xc] 67)).alloc (.cells #[.int .i64 f, .int .i64 n] 61) = W0 := ⟨_, rfl⟩
        rw [hW0]
        obtain ⟨⟨a0, -⟩, -, -, hF0⟩ := box52 w _ _ _ _ _ _ _ _ _ W0 hW0
        refine ((unhide HC).1 _ hF0).mono ?_
        rintro e' wA ⟨uo, un, uc, rfl, hS, hFA⟩
        have b0 := (hFA.cell (lt_of_cell a0) (fun h => h)).trans a0
        have HA := hide (And.intro hS (hF0.trans hFA (fun _ _ h => h)))
        clear hFA hF0 a0 hW0 hS
        generalize w.heap.size = P at *
        go_wp2_with fail
        refine ((unhide HC).2.1 _ _ _ ((unhide HC).2.2.1.fr0 (unhide HA).2) (unhide HA).1 ((unhide HC).2.2.2.1.fr0 (unhide HA).2)).mono ?_
        rintro e' wB ⟨zo, rfl, hO⟩
        have hsl := hO.sl (unhide HC).2.2.2.2.1
        rw [(unhide HC).2.2.2.2.2] at hsl
        have HB := hide (And.intro hsl ((unhide HA).2.trans hO.fr (fun _ _ h => h)))
        clear hO hsl
        go_wp2_with fail
        go_ret
        exact ⟨zo, wi, wi, rfl, (unhide HB).1, (unhide HB).2⟩
      · have hdp := dep_r h2 e hl
        obtain ⟨D, hD⟩ : ∃ D, dep (f + hf n) (n - hf n) tf tn = D := ⟨_, rfl⟩
        rw [hD] at hdp
        have hlen : ps.length = D + 1 := by rw [hpd, hdp]
        obtain ⟨xo, xc, rfl⟩ := hp.form
        rw [hlen] at hp hcx ⊢
        obtain ⟨g, o, v, rfl, hcell, -⟩ := hp.cell (Fr.refl _ _) D (by omega)
        have hDb : D ≤ n := by rw [← hD]; have := dep_le _ (f + hf n) (n - hf n) tf tn (Nat.le_refl _); omega
        have hDc : D < 9223372036854775807 := by have h1 := dep_le _ f n tf tn (Nat.le_refl _); omega
        have hcap : D + 1 ≤ xc := hcx _ _ _ rfl
        have hvD : vs[D]? = some v := by
          have hvl : D < vs.length := by rw [hp.len]; omega
          rcases hp.at_ with ⟨e', _⟩ | ⟨_, _, e', _⟩ | ⟨g', o', c', e', _, hc'⟩
          · simp at e'
          · simp at e'
          · simp only [Value.slice.injEq, Option.some.injEq, Addr.mk.injEq, and_true] at e'
            obtain ⟨⟨rfl, rfl⟩, _⟩ := e'
            have h1 := hc' D _ (List.getElem?_eq_getElem hvl)
            rw [h1] at hcell
            rw [List.getElem?_eq_getElem hvl, Option.some.inj hcell]
        have hsv : Sl w v ps[D] := hp.sl D v _ hvD (List.getElem?_eq_getElem (by omega))
        have hdl : ps.dropLast = ps.take D := by rw [List.dropLast_eq_take, hlen]; rfl
        have hgl : ps.getLastD [] = ps[D] := getLastD_at ps D hlen
        have hp' := hp.take D (by omega)
        have htop : ∀ w', Fr (fun _ => False) w w' → _ := fun w' hf' => ih (f + hf n) (n - hf n) tf tn w' ro rn rc r _ _ (ps.take D) (by omega) (by omega) (r2 hl) (hg.fr0 hf') (hs.fr0 hf') hrw (hp'.fr0 hf') (fun _ _ _ e => by cases e; omega) (by rw [List.length_take]; omega) (fun p hp => hpw p (List.mem_of_mem_take hp))
        rw [topv_r h2 e hl, hdl, hgl]
        have hTw := topv_wid wi hw1 hw32 r hrw _ (f + hf n) (n - hf n) tf tn (ps.take D) (Nat.le_refl _)
        have hAw := hpw ps[D] (List.getElem_mem _)
        obtain ⟨va, vn, vc, rfl⟩ : ∃ a n c, v = .slice a n c := by
          obtain ⟨a, c, e⟩ := hsv.form
          exact ⟨_, _, _, e⟩
        have hsd := fun (w' : World) (hf' : Fr (fun _ => False) w w') => sides_r wi tf tn f n D xc g o ro rn rc (.slice va vn vc) w' ((hf'.cell (lt_of_cell hcell) (fun h => h)).trans hcell) hcap hDc ⟨_, _, _, rfl⟩ h2 hb hl _ (fun w'' hf'' => htop w'' (hf'.trans hf'' (fun _ _ h => h)))
        generalize topv wi r (f + hf n) (n - hf n) tf tn (ps.take D) = T at *
        generalize ps[D] = A at *
        have hnd := nd_len wi hw1 hw32 A T
        have hnode : ∀ w' x y, GS w' → Sl w' x A → Sl w' y T → Calls Tryd.prog 33 #[.int .i64 wi, x, y] w' fun e w'' => ∃ yo, e = .returned (.slice yo wi wi) ∧ OB w' w'' yo wi (nd wi A T) := fun w' x y hg hx hy => by
          have := node_any (wi : Int) x y A T w' hg hx hy (by omega) (by omega)
          rw [hnd] at this
          exact this
        have HC := hide (And.intro hsd (And.intro hnode (And.intro hg (And.intro hsv (And.intro (nd_lt (wi : Int) A T) hnd)))))
        clear hDc hsd hnode hg hsv hp hp' htop hTw hAw hdl hgl hvD hDb hcap hcell hlen hdp hD hs hpw hrw hcx hpd ih r1 r2 hr hlt hpos hl hnd hm h2 hb e
        unfold sv cv at *
        go_enter Tryd.func55, Tryd.ntmps55
        go_wp2_with fail
        obtain ⟨W0, hW0⟩ : ∃ W0, (w.alloc (.cells #[.int .i64 wi, .int .i64 tf, .int .i64 tn, .slice ro rn rc, .slice (some ⟨g, o, none⟩) (D + 1) xc] 67)).alloc (.cells #[.int .i64 f, .int .i64 n] 61) = W0 := ⟨_, rfl⟩
        rw [hW0]
        obtain ⟨⟨a0, -⟩, -, -, hF0⟩ := box52 w _ _ _ _ _ _ _ _ _ W0 hW0
        refine ((unhide HC).1 _ hF0).mono ?_
        rintro e' wA ⟨uo, un, uc, rfl, hS, hFA⟩
        have b0 := (hFA.cell (lt_of_cell a0) (fun h => h)).trans a0
        have HA := hide (And.intro hS (hF0.trans hFA (fun _ _ h => h)))
        clear hFA hF0 a0 hW0 hS
        generalize w.heap.size = P at *
        go_wp2_with fail
        refine ((unhide HC).2.1 _ _ _ ((unhide HC).2.2.1.fr0 (unhide HA).2) ((unhide HC).2.2.2.1.fr0 (unhide HA).2) (unhide HA).1).mono ?_
        rintro e' wB ⟨zo, rfl, hO⟩
        have hsl := hO.sl (unhide HC).2.2.2.2.1
        rw [(unhide HC).2.2.2.2.2] at hsl
        have HB := hide (And.intro hsl ((unhide HA).2.trans hO.fr (fun _ _ h => h)))
        clear hO hsl
        go_wp2_with fail
        go_ret
        exact ⟨zo, wi, wi, rfl, (unhide HB).1, (unhide HB).2⟩
end Go.Proofs.YthamfidjilclpabDoor

namespace Go.Proofs.YthamfidjilclpabDoor
open Go.RowKit

/-- Has each the width? -/
def wdq (j : Int) (ps : List (List Nat)) : Bool := ps.all fun p => decide ((p.length : Int) = j)
theorem wdq_take (j : Int) (ps : List (List Nat)) (k : Nat) (hk : k < ps.length) : wdq j (ps.take (k + 1)) = (wdq j (ps.take k) && decide ((ps[k].length : Int) = j)) := by
  rw [wdq, wdq, List.take_add_one, List.getElem?_eq_getElem hk, Option.toList_some, List.all_append]; simp
theorem wdq_false (j : Int) (ps : List (List Nat)) (k : Nat) (hk : k < ps.length) (h : ¬ (ps[k].length : Int) = j) : wdq j ps = false := by
  rw [wdq, List.all_eq_false]
  exact ⟨ps[k], List.getElem_mem hk, by simp [h]⟩
theorem wdq_true {j : Int} {ps : List (List Nat)} (h : wdq j ps = true) : ∀ p ∈ ps, (p.length : Int) = j := fun p hp => by
  rw [wdq, List.all_eq_true] at h
  simpa using h p hp
theorem Pcs.nth {w w' : World} {xo : Option Addr} {n xc : Nat} {vs : List Value} {ps : List (List Nat)} (h : Pcs w (.slice xo n xc) vs ps) (hf : Fr (fun _ => False) w w') (k : Nat) (hk : k < ps.length) : ∃ g o vo vc, xo = some ⟨g, o, none⟩ ∧ w'.cell? ⟨g, o + k, none⟩ = some (.slice vo ps[k].length vc) ∧ Sl w' (.slice vo ps[k].length vc) ps[k] := by
  obtain ⟨g, o, v, e, hc, hs, hcap, hlt, _⟩ := h.cell hf k hk
  obtain ⟨vo, vc, rfl⟩ := hs.form
  exact ⟨g, o, vo, vc, e, hc, hs, hcap, hlt.imp id (fun hh g o n c e => Nat.lt_of_lt_of_le (hh g o n c e) hf.size), h.byt _ (List.getElem_mem hk)⟩
set_option maxRecDepth 100000 in
set_option maxHeartbeats 1000000 in
/-- merkle.wide. -/
theorem wide_any (j : Int) (x : Value) (vs : List Value) (ps : List (List Nat)) (w : World) (hp : Pcs w x vs ps) (hn : ps.length < 4611686018427387904) :
    Calls Tryd.prog 53 #[.int .i64 j, x] w fun e w' => e = .returned (.bool (wdq j ps)) ∧ w' = w := by
  obtain ⟨xo, xc, rfl⟩ := hp.form
  have HG := hide (And.intro hp hn)
  clear hp hn
  generalize hN : ps.length = N at *
  go_enter Tryd.func53, Tryd.ntmps53
  go_wp2_with fail
  go_loopw [9] (fun iv wr => ∃ (k : Nat), k ≤ N ∧ iv = .int .i64 (k : Nat) ∧ wr = w ∧ wdq j (ps.take k) = true) (fun iv _ => N - (intOf iv).toNat)
  case atStart => exact ⟨0, Nat.zero_le _, rfl, rfl, by simp [wdq]⟩
  case round =>
    obtain ⟨k, hk, rfl, rfl, hw⟩ := hrel
    have hN8 := (unhide HG).2
    by_cases hlt : k < N
    · have hlt' : (k : Int) < (N : Int) := by omega
      have hke : k < ps.length := by omega
      obtain ⟨g, o, vo, vc, rfl, hcell, -⟩ := (unhide HG).1.nth (Fr.refl _ _) k hke
      by_cases he : (ps[k].length : Int) = j
      · have hw2 : wdq j (ps.take (k + 1)) = true := by rw [wdq_take j ps k hke, hw, decide_eq_true he]; rfl
        have HW := hide hw2
        clear hw2 hw
        have w1 : IntKind.i64.wrap ((k : Int) + 1) = (k : Int) + 1 := by rw [IntKind.wrap_i64]; omega
        have hee : ((ps[k].length : Int) == j) = true := by rw [he]; simp
        subst he
        generalize ps[k].length = EL at *
        go_wp2_with fail
        exact ⟨⟨k + 1, by omega, by go_num, by first | rfl | trivial, unhide HW⟩, by simp [intOf]; omega⟩
      · have hf := wdq_false j ps k hke he
        have HW := hide hf
        clear hf hw
        have hee : ((ps[k].length : Int) == j) = false := beq_false_of_ne he
        generalize ps[k].length = EL at *
        go_wp2_with fail
        go_ret
        exact ⟨by rw [unhide HW]; rfl, rfl⟩
    · have hkN : k = N := by omega
      have hlt' : ¬ (k : Int) < (N : Int) := by omega
      have htk : ps.take k = ps := List.take_of_length_le (by omega)
      rw [htk] at hw
      have HW := hide hw
      clear hw htk hkN
      go_wp2_with fail
      go_ret
      exact ⟨by rw [unhide HW]; rfl, rfl⟩
set_option maxRecDepth 100000 in
theorem ofEntry_any (wi i : Nat) (ro : Option Addr) (rn rc : Nat) (xo : Option Addr) (xn xc : Nat) (w : World) :
    Calls Tryd.prog 38 #[.int .i64 wi, .slice ro rn rc, .int .i64 i, .slice xo xn xc] w fun e w' => e = .returned (cv wi i 1 (.slice ro rn rc) (.slice xo xn xc)) ∧ Fr (fun _ => False) w w' := by
  unfold cv
  go_enter Tryd.func38, Tryd.ntmps38
  go_wp2_with fail
  go_returns
  exact ⟨rfl, (Fr.refl _ _).alloc _⟩
set_option maxRecDepth 100000 in
set_option maxHeartbeats 1000000 in
theorem fits_any (wi f n tf tn : Nat) (ro : Option Addr) (rn rc : Nat) (xo : Option Addr) (N xc : Nat) (w : World) (hb : f + n < 9223372036854775808) (hr : Rch f n tf tn) :
    Calls Tryd.prog 54 #[cv wi tf tn (.slice ro rn rc) (.slice xo N xc), sv f n] w fun e w' => e = .returned (.bool (decide (N = dep f n tf tn))) ∧ Fr (fun _ => False) w w' := by
  have hd := fun w => depth_any n f n tf tn w (Nat.le_refl _) hb hr
  unfold DepSays at hd
  have hee : ((N : Int) == ((dep f n tf tn : Nat) : Int)) = decide (N = dep f n tf tn) := by
    by_cases h : N = dep f n tf tn
    · simp [h]
    · rw [decide_eq_false h]; exact beq_false_of_ne (by omega)
  generalize dep f n tf tn = D at *
  generalize hB : decide (N = D) = B1 at *
  have HD := hide hd
  clear hd hr hb hB
  unfold cv sv at *
  go_enter Tryd.func54, Tryd.ntmps54
  go_wp2_with fail
  obtain ⟨W0, hW0⟩ : ∃ W0, (w.alloc (.cells #[.int .i64 wi, .int .i64 tf, .int .i64 tn, .slice ro rn rc, .slice xo N xc] 67)).alloc (.cells #[.int .i64 f, .int .i64 n] 61) = W0 := ⟨_, rfl⟩
  rw [hW0]
  obtain ⟨⟨a0, a1, a2, a3, a4⟩, b0, b1, hF0⟩ := box52 w _ _ _ _ _ _ _ _ _ W0 hW0
  have HF := hide hF0
  clear hF0 hW0 a0 a3
  generalize w.heap.size = P at *
  have hS : ∀ w', Fr (fun _ => False) W0 w' → w'.cell? ⟨P, 1, none⟩ = some (.int .i64 tf) ∧ w'.cell? ⟨P, 2, none⟩ = some (.int .i64 tn) ∧ w'.cell? ⟨P, 4, none⟩ = some (.slice xo N xc) ∧ w'.cell? ⟨P + 1, 0, none⟩ = some (.int .i64 f) ∧ w'.cell? ⟨P + 1, 1, none⟩ = some (.int .i64 n) := fun w' hf =>
    ⟨(hf.cell (lt_of_cell a1) (fun h => h)).trans a1, (hf.cell (lt_of_cell a2) (fun h => h)).trans a2, (hf.cell (lt_of_cell a4) (fun h => h)).trans a4, (hf.cell (lt_of_cell b0) (fun h => h)).trans b0, (hf.cell (lt_of_cell b1) (fun h => h)).trans b1⟩
  have HS := hide hS
  clear hS
  go_region_held3 (fun w' => w'.cell? ⟨P, 1, none⟩ = some (.int .i64 tf) ∧ w'.cell? ⟨P, 2, none⟩ = some (.int .i64 tn) ∧ w'.cell? ⟨P, 4, none⟩ = some (.slice xo N xc) ∧ w'.cell? ⟨P + 1, 0, none⟩ = some (.int .i64 f) ∧ w'.cell? ⟨P + 1, 1, none⟩ = some (.int .i64 n))
    (first | assumption | exact (unhide HS) _ (Fr.refl _ _).drew | exact (unhide HS) _ ((Fr.refl _ _).drew.trans fC (fun _ _ h => h)))
    (first
      | (go_at_call 91; refine ((unhide HD) _).mono ?_; rintro e wC ⟨rfl, fC⟩))
  have HE := hide ((unhide HF).drew.trans fC (fun _ _ h => h))
  clear fC
  go_wp2_with fail
  go_ret
  exact ⟨rfl, unhide HE⟩
theorem Sl.ints {w : World} {xo : Option Addr} {n c : Nat} {l : List Nat} (h : Sl w (.slice xo n c) l) : (l.map fun v : Nat => (v : Int)).length = n ∧ Lib.BytesIn w xo n (l.map fun v : Nat => (v : Int)) := by
  obtain ⟨a, c', e⟩ := h.form
  simp only [Value.slice.injEq] at e
  have hn : l.length = n := e.2.1.symm
  refine ⟨by simp [hn], ?_⟩
  by_cases h0 : l = []
  · subst h0
    have : n = 0 := by rw [← hn]; rfl
    subst this
    rcases xo with _ | a
    · exact Lib.BytesIn.nil _ _ _
    · exact Lib.BytesIn.of_cells (fun i hi => by simp at hi)
  · obtain ⟨g, o, rfl, _⟩ := src_cell h.s 0 (List.length_pos_iff.2 h0) h.b
    refine Lib.BytesIn.of_cells (fun i hi => ?_)
    have hi' : i < l.length := by omega
    obtain ⟨g', o', e', hc⟩ := src_cell h.s i hi' h.b
    simp only [Option.some.injEq, Addr.mk.injEq, and_true] at e'
    obtain ⟨rfl, rfl⟩ := e'
    rw [add_at2, hc]
    simp [List.getD, List.getElem?_eq_getElem hi']
theorem bytesOf_inj {a b : List Nat} (ha : ∀ v ∈ a, v < 256) (hb : ∀ v ∈ b, v < 256) : (Lib.bytesOf (a.map fun v : Nat => (v : Int)) == Lib.bytesOf (b.map fun v : Nat => (v : Int))) = decide (a = b) := by
  by_cases h : a = b
  · subst h; simp
  · rw [decide_eq_false h, beq_eq_false_iff_ne]
    intro e
    apply h
    have key : ∀ l : List Nat, (∀ v ∈ l, v < 256) → (Lib.bytesOf (l.map fun v : Nat => (v : Int))).map UInt8.toNat = l := fun l hl => by
      rw [Lib.bytesOf, List.map_map, List.map_map]
      conv => rhs; rw [← List.map_id l]
      apply List.map_congr_left
      intro v hv
      have := hl v hv
      simp
      omega
    rw [← key a ha, ← key b hb, e]
/-- bytes.Equal. -/
theorem beq_sl (x y : Value) (a b : List Nat) (w : World) (hx : Sl w x a) (hy : Sl w y b) : Calls Tryd.prog 35 #[x, y] w fun e w' => e = .returned (.bool (decide (a = b))) ∧ w' = w := by
  obtain ⟨xo, xc, rfl⟩ := hx.form
  obtain ⟨yo, yc, rfl⟩ := hy.form
  have := beq_any xo yo a.length xc b.length yc _ _ w hx.ints.1 hy.ints.1 hx.ints.2 hy.ints.2
  rw [bytesOf_inj hx.b hy.b] at this
  exact this
end Go.Proofs.YthamfidjilclpabDoor

namespace Go.Proofs.YthamfidjilclpabDoor
open Go.RowKit

theorem pcs2 {w : World} {x y : Value} {a b : List Nat} (hx : Sl w x a) (hy : Sl w y b) (W : World) (hW : w.alloc (.cells #[x, y] 23) = W) : Pcs W (.slice (some ⟨w.heap.size, 0, none⟩) 2 2) [x, y] [a, b] := by
  have hF1 : Fr (fun _ => False) w W := by rw [← hW]; exact (Fr.refl _ _).alloc _
  have hx1 := hx.fr0 hF1
  have hy1 := hy.fr0 hF1
  have hc : ∀ j, j < 2 → W.cell? ⟨w.heap.size, 0 + j, none⟩ = (#[x, y] : Array Value)[j]? := fun j hj => by rw [Nat.zero_add, ← hW, World.cell?_alloc_at _ _ _ _ rfl]
  have hc0 := hc 0 (by decide)
  have hl : w.heap.size < W.heap.size := lt_of_cell (v := x) hc0
  refine ⟨rfl, .inr (.inr ⟨w.heap.size, 0, 2, rfl, hl, fun j v hv => ?_⟩), fun j v p hv hp => ?_, fun p hp => ?_⟩
  · match j with
    | 0 => rw [hc 0 (by decide)]; simpa using hv
    | 1 => rw [hc 1 (by decide)]; simpa using hv
    | j + 2 => simp at hv
  · match j with
    | 0 => simp at hv hp; subst hv hp; exact ⟨hx1.s, hx1.cap, hx1.lt⟩
    | 1 => simp at hv hp; subst hv hp; exact ⟨hy1.s, hy1.cap, hy1.lt⟩
    | j + 2 => simp at hv
  · simp at hp
    rcases hp with rfl | rfl
    · exact hx1.b
    · exact hy1.b
/-- What CheckPath answers. -/
def chkP (j : Int) (leaf : List Nat) (i n : Int) (ps : List (List Nat)) (root : List Nat) : Bool :=
  decide (1 ≤ j ∧ j ≤ 32) && (decide (0 ≤ i) && (decide (i < n) && (wdq j [leaf, root] && (wdq j ps && (decide (ps.length = dep 0 n.toNat i.toNat 1) && decide (topv j.toNat leaf 0 n.toNat i.toNat 1 ps = root))))))
set_option maxRecDepth 100000 in
set_option maxHeartbeats 2000000 in
theorem checkPath_any (j i n : Int) (lv rv x : Value) (leaf root : List Nat) (vs : List Value) (ps : List (List Nat)) (w : World) (hg : GS w) (hl : Sl w lv leaf) (hr : Sl w rv root) (hp : Pcs w x vs ps) (hcx : Cp x) (hn : n < 9223372036854775808) (hps : ps.length < 4611686018427387904) :
    Calls Tryd.prog 18 #[.int .i64 j, lv, .int .i64 i, .int .i64 n, x, rv] w fun e w' => e = .returned (.bool (chkP j leaf i n ps root)) ∧ Fr (fun _ => False) w w' := by
  obtain ⟨lo, lc, rfl⟩ := hl.form
  obtain ⟨rr, rc, rfl⟩ := hr.form
  obtain ⟨xo, xc, rfl⟩ := hp.form
  by_cases h1o : j < 1 ∨ 32 < j
  · have h1 : ¬ (1 ≤ j ∧ j ≤ 32) := by omega
    have hB : chkP j leaf i n ps root = false := by rw [chkP, decide_eq_false h1]; rfl
    rw [hB]
    have HM := hide h1
    clear hg hl hr hp hcx hn hps hB h1 h1o
    generalize leaf.length = LL at *
    generalize root.length = RL at *
    generalize ps.length = PL at *
    go_enter Tryd.func18, Tryd.ntmps18
    go_wp2_with (go_at_call 52; refine (maybe_any j _).mono ?_; rintro e' w' ⟨rfl, hw'⟩; rw [hw', decide_eq_false (unhide HM)])
    go_ret
    exact ⟨rfl, Fr.refl _ _⟩
  · have h1 : 1 ≤ j ∧ j ≤ 32 := by omega
    clear h1o
    have HM := hide h1
    by_cases h2' : i < 0
    · have h2 : ¬ 0 ≤ i := by omega
      have hB : chkP j leaf i n ps root = false := by rw [chkP, decide_eq_true h1, decide_eq_false h2]; rfl
      rw [hB]
      clear hg hl hr hp hcx hn hps hB h1
      generalize leaf.length = LL at *
      generalize root.length = RL at *
      generalize ps.length = PL at *
      go_enter Tryd.func18, Tryd.ntmps18
      go_wp2_with (go_at_call 52; refine (maybe_any j _).mono ?_; rintro e' w' ⟨rfl, hw'⟩; rw [hw', decide_eq_true (unhide HM)])
      go_ret
      exact ⟨rfl, Fr.refl _ _⟩
    · have h2 : 0 ≤ i := by omega
      by_cases h3' : n ≤ i
      · have h3 : ¬ i < n := by omega
        have hB : chkP j leaf i n ps root = false := by rw [chkP, decide_eq_true h1, decide_eq_true h2, decide_eq_false h3]; rfl
        rw [hB]
        clear hg hl hr hp hcx hn hps hB h1
        generalize leaf.length = LL at *
        generalize root.length = RL at *
        generalize ps.length = PL at *
        go_enter Tryd.func18, Tryd.ntmps18
        go_wp2_with (go_at_call 52; refine (maybe_any j _).mono ?_; rintro e' w' ⟨rfl, hw'⟩; rw [hw', decide_eq_true (unhide HM)])
        go_ret
        exact ⟨rfl, Fr.refl _ _⟩
      · have h3 : i < n := by omega
        clear h2' h3'
        obtain ⟨wi, rfl⟩ : ∃ k : Nat, j = (k : Int) := ⟨j.toNat, by omega⟩
        obtain ⟨I, rfl⟩ : ∃ k : Nat, i = (k : Int) := ⟨i.toNat, by omega⟩
        obtain ⟨N, rfl⟩ : ∃ k : Nat, n = (k : Int) := ⟨n.toNat, by omega⟩
        have h2' : ¬ (I : Int) < 0 := by omega
        have h3' : ¬ (N : Int) ≤ (I : Int) := by omega
        have hIN : I < N := by omega
        have hrch := rch_one N 0 N I (Nat.le_refl _) (by omega) (by omega)
        obtain ⟨W1, hW1⟩ : ∃ W1, w.alloc (.cells #[.slice lo leaf.length lc, .slice rr root.length rc] 23) = W1 := ⟨_, rfl⟩
        have hF1 : Fr (fun _ => False) w W1 := by rw [← hW1]; exact (Fr.refl _ _).alloc _
        have hwd1 := wide_any wi _ _ [leaf, root] W1 (pcs2 hl hr W1 hW1) (by simp)
        have hwd2 := wide_any wi _ vs ps W1 (hp.fr0 hF1) hps
        have hce : chkP wi leaf I N ps root = (wdq wi [leaf, root] && (wdq wi ps && (decide (ps.length = dep 0 N I 1) && decide (topv wi leaf 0 N I 1 ps = root)))) := by
          rw [chkP, decide_eq_true h1, decide_eq_true h2, decide_eq_true h3]; rfl
        rw [hce]
        clear hce
        cases hq1 : wdq wi [leaf, root] with
        | false =>
          rw [hq1] at hwd1
          rw [Bool.false_and]
          have HC := hide (And.intro hwd1 hF1)
          clear hg hl hr hp hcx hn hps h1 h2 h3 hwd1 hwd2 hF1 hrch hIN hq1
          generalize leaf.length = LL at *
          generalize root.length = RL at *
          generalize ps.length = PL at *
          go_enter Tryd.func18, Tryd.ntmps18
          go_wp2_with (go_at_call 52; refine (maybe_any wi _).mono ?_; rintro e' w' ⟨rfl, hw'⟩; rw [hw', decide_eq_true (unhide HM)])
          refine (unhide HC).1.mono ?_
          rintro e' w2 ⟨rfl, rfl⟩
          go_wp2_with fail
          go_ret
          exact ⟨rfl, (unhide HC).2⟩
        | true =>
          rw [hq1] at hwd1
          rw [Bool.true_and]
          cases hq2 : wdq wi ps with
          | false =>
            rw [hq2] at hwd2
            rw [Bool.false_and]
            have HC := hide (And.intro hwd1 (And.intro hwd2 hF1))
            clear hg hl hr hp hcx hn hps h1 h2 h3 hwd1 hwd2 hF1 hrch hIN hq1 hq2
            generalize leaf.length = LL at *
            generalize root.length = RL at *
            generalize ps.length = PL at *
            go_enter Tryd.func18, Tryd.ntmps18
            go_wp2_with (go_at_call 52; refine (maybe_any wi _).mono ?_; rintro e' w' ⟨rfl, hw'⟩; rw [hw', decide_eq_true (unhide HM)])
            refine (unhide HC).1.mono ?_
            rintro e' w2 ⟨rfl, rfl⟩
            go_wp2_with fail
            refine (unhide HC).2.1.mono ?_
            rintro e' w3 ⟨rfl, rfl⟩
            go_wp2_with fail
            go_ret
            exact ⟨rfl, (unhide HC).2.2⟩
          | true =>
            rw [hq2] at hwd2
            rw [Bool.true_and]
            have hlw : leaf.length = wi := by have := wdq_true hq1 leaf (by simp); omega
            have hpw : ∀ p ∈ ps, p.length = wi := fun p hp => by have := wdq_true hq2 p hp; omega
            have hoe := fun w' => ofEntry_any wi I lo leaf.length lc xo ps.length xc w'
            have hft := fun w' => fits_any wi 0 N I 1 lo leaf.length lc xo ps.length xc w' (by omega) hrch
            by_cases hD : ps.length = dep 0 N I 1
            · have htop := fun w' (hf : Fr (fun _ => False) w w') => top_any wi (by omega) (by omega) N 0 N I 1 w' lo leaf.length lc leaf _ vs ps (Nat.le_refl _) (by omega) hrch (hg.fr0 hf) (hl.fr0 hf) hlw (hp.fr0 hf) hcx hD hpw
              rw [decide_eq_true hD] at hft ⊢
              rw [Bool.true_and]
              have HC := hide (And.intro hwd1 (And.intro hwd2 (And.intro hoe (And.intro hft (And.intro htop (And.intro hr hF1))))))
              clear hg hl hp hcx hn hps h1 h2 h3 hwd1 hwd2 hF1 hrch hIN hq1 hq2 hoe hft htop hD hpw hlw hr
              generalize topv wi leaf 0 N I 1 ps = TV at *
              obtain ⟨BB, hBB⟩ : ∃ BB, decide (TV = root) = BB := ⟨_, rfl⟩
              rw [hBB]
              have HBB := hide hBB
              clear hBB
              generalize leaf.length = LL at *
              generalize root.length = RL at *
              generalize ps.length = PL at *
              unfold sv cv at HC
              have e1 : ((1 : Nat) : Int) = 1 := rfl
              have e0 : ((0 : Nat) : Int) = 0 := rfl
              simp only [e1, e0] at HC
              clear e1 e0
              go_enter Tryd.func18, Tryd.ntmps18
              go_wp2_with (go_at_call 52; refine (maybe_any wi _).mono ?_; rintro e' w' ⟨rfl, hw'⟩; rw [hw', decide_eq_true (unhide HM)])
              refine (unhide HC).1.mono ?_
              rintro e' w2 ⟨rfl, rfl⟩
              go_wp2_with fail
              refine (unhide HC).2.1.mono ?_
              rintro e' w3 ⟨rfl, rfl⟩
              go_wp2_with fail
              refine ((unhide HC).2.2.1 _).mono ?_
              rintro e' wA ⟨rfl, hFA⟩
              have HA := hide ((unhide HC).2.2.2.2.2.2.trans hFA (fun _ _ h => h))
              clear hFA
              go_wp2_with fail
              obtain ⟨W2, hW2⟩ : ∃ W2, (wA.alloc (.cells #[.int .i64 wi, .int .i64 I, .int .i64 1, .slice lo LL lc, .slice xo PL xc] 67)).alloc (.cells #[.int .i64 0, .int .i64 N] 61) = W2 := ⟨_, rfl⟩
              rw [hW2]
              obtain ⟨⟨a0, a1, a2, a3, a4⟩, b0, b1, hF2⟩ := box52 wA _ _ _ _ _ _ _ _ _ W2 hW2
              refine ((unhide HC).2.2.2.1 _).mono ?_
              rintro e' wB ⟨rfl, hFB⟩
              have c0 := (hFB.cell (lt_of_cell a0) (fun h => h)).trans a0
              have c1 := (hFB.cell (lt_of_cell a1) (fun h => h)).trans a1
              have c2 := (hFB.cell (lt_of_cell a2) (fun h => h)).trans a2
              have c3 := (hFB.cell (lt_of_cell a3) (fun h => h)).trans a3
              have c4 := (hFB.cell (lt_of_cell a4) (fun h => h)).trans a4
              have d0 := (hFB.cell (lt_of_cell b0) (fun h => h)).trans b0
              have d1 := (hFB.cell (lt_of_cell b1) (fun h => h)).trans b1
              have HB := hide (((unhide HA).trans hF2 (fun _ _ h => h)).trans hFB (fun _ _ h => h))
              clear hF2 hFB hW2 a0 a1 a2 a3 a4 b0 b1 HA
              generalize wA.heap.size = P at *
              go_wp2_with fail
              refine ((unhide HC).2.2.2.2.1 _ (unhide HB)).mono ?_
              rintro e' wC ⟨uo, un, uc, rfl, hS, hFC⟩
              have HS := hide (And.intro hS ((unhide HB).trans hFC (fun _ _ h => h)))
              clear hS hFC
              go_wp2_with fail
              refine (beq_sl _ _ _ _ _ (unhide HS).1 ((unhide HC).2.2.2.2.2.1.fr0 (unhide HS).2)).mono ?_
              rintro e' wD ⟨rfl, rfl⟩
              rw [unhide HBB]
              go_wp2_with fail
              go_ret
              exact ⟨rfl, (unhide HS).2⟩
            · rw [decide_eq_false hD] at hft ⊢
              rw [Bool.false_and]
              have HC := hide (And.intro hwd1 (And.intro hwd2 (And.intro hoe (And.intro hft hF1))))
              clear hg hl hp hcx hn hps h1 h2 h3 hwd1 hwd2 hF1 hrch hIN hq1 hq2 hoe hft hD hpw hlw hr
              generalize leaf.length = LL at *
              generalize root.length = RL at *
              generalize ps.length = PL at *
              unfold sv cv at HC
              have e1 : ((1 : Nat) : Int) = 1 := rfl
              have e0 : ((0 : Nat) : Int) = 0 := rfl
              simp only [e1, e0] at HC
              clear e1 e0
              go_enter Tryd.func18, Tryd.ntmps18
              go_wp2_with (go_at_call 52; refine (maybe_any wi _).mono ?_; rintro e' w' ⟨rfl, hw'⟩; rw [hw', decide_eq_true (unhide HM)])
              refine (unhide HC).1.mono ?_
              rintro e' w2 ⟨rfl, rfl⟩
              go_wp2_with fail
              refine (unhide HC).2.1.mono ?_
              rintro e' w3 ⟨rfl, rfl⟩
              go_wp2_with fail
              refine ((unhide HC).2.2.1 _).mono ?_
              rintro e' wA ⟨rfl, hFA⟩
              have HA := hide ((unhide HC).2.2.2.2.trans hFA (fun _ _ h => h))
              clear hFA
              go_wp2_with fail
              refine ((unhide HC).2.2.2.1 _).mono ?_
              rintro e' wB ⟨rfl, hFB⟩
              have HB := hide ((unhide HA).trans ((((Fr.refl _ _).alloc _).alloc _).trans hFB (fun _ _ h => h)) (fun _ _ h => h))
              clear hFB
              go_wp2_with fail
              go_ret
              exact ⟨rfl, unhide HB⟩
end Go.Proofs.YthamfidjilclpabDoor

namespace Go.Proofs.YthamfidjilclpabDoor
open Go.RowKit

theorem OL.stepW {w wr w1 : World} {ao : Option Addr} {cp : Nat} {vs : List Value} {ps : List (List Nat)} (h : OL w wr ao cp vs ps) (l : List Nat) (wi : Nat) (hl : l.length = wi) (yo : Option Addr) (yc : Nat) (hO : OB wr w1 yo yc l) (hb : ∀ v ∈ l, v < 256) (hn : vs.length < 16000000) :
    ∃ ao' cp' w2, (Builtin.append_ #[22, 22] 22 #[.slice ao vs.length cp, .slice (some ⟨w1.heap.size, 0, none⟩) 1 1]).run Tryd.prog (w1.alloc (.cells #[.slice yo wi yc] 23)) = .ok (.slice ao' (vs.length + 1) cp') w2 ∧ OL w w2 ao' cp' (vs ++ [.slice yo wi yc]) (ps ++ [l]) := by
  subst hl
  exact h.step l yo yc hO hb hn
theorem boxAB (w : World) (a0 a1 a2 b0 b1 : Value) (ta tb : Nat) (W : World) (hW : (w.alloc (.cells #[a0, a1, a2] ta)).alloc (.cells #[b0, b1] tb) = W) :
    W.cell? ⟨w.heap.size + 1, 0, none⟩ = some b0 ∧ W.cell? ⟨w.heap.size + 1, 1, none⟩ = some b1 ∧ Fr (fun _ => False) w W := by
  subst hW
  have e1 : w.heap.size + 1 = (w.alloc (.cells #[a0, a1, a2] ta)).heap.size := by simp
  have B : ∀ j : Nat, ((w.alloc (.cells #[a0, a1, a2] ta)).alloc (.cells #[b0, b1] tb)).cell? ⟨w.heap.size + 1, j, none⟩ = (#[b0, b1] : Array Value)[j]? := fun j => by
    rw [e1, World.cell?_alloc_at _ _ _ _ rfl]
  exact ⟨B 0, B 1, ((Fr.refl _ _).alloc _).alloc _⟩
def BesSays (tb wi : Nat) (L : List (List Nat)) (f n tf tn : Nat) (w : World) : Prop :=
  Calls Tryd.prog 97 #[pv (.pointer (some ⟨tb, 0, none⟩)) f n, sv tf tn] w fun e w' => ∃ ao cp vs, e = .returned (.slice ao vs.length cp) ∧ OL w w' ao cp vs (bes wi L f n tf tn)
set_option maxRecDepth 100000 in
set_option maxHeartbeats 2000000 in
/-- The halves left aside on the way to a part. -/
theorem beside_any (tb wi : Nat) (hw1 : 1 ≤ wi) (hw32 : wi ≤ 32) (L : List (List Nat)) (m : Nat) : ∀ (f n tf tn : Nat) (w : World), n ≤ m → Tk w tb wi L → Al f n → f + n ≤ L.length → Rch f n tf tn → BesSays tb wi L f n tf tn w := by
  induction m with
  | zero =>
    intro f n tf tn w hm hT hA hL hr
    by_cases e : f = tf ∧ n = tn
    · obtain ⟨rfl, rfl⟩ := e
      unfold BesSays sv pv
      rw [bes_eq]
      have eqs := fun w => eq_span f n f n w
      simp only [decide_true, and_self] at eqs
      have eg := Tryd.guard_span
      go_enter Tryd.func97, Tryd.ntmps97
      go_wp2_with fail
      go_ret
      exact ⟨none, 0, [], rfl, (OL.nil _).base (((Fr.refl _ _).alloc _).alloc _)⟩
    · have := (rch_ne hr e).1; omega
  | succ m ih =>
    intro f n tf tn w hm hT hA hL hr
    by_cases e : f = tf ∧ n = tn
    · obtain ⟨rfl, rfl⟩ := e
      unfold BesSays sv pv
      rw [bes_eq]
      have eqs := fun w => eq_span f n f n w
      simp only [decide_true, and_self] at eqs
      have eg := Tryd.guard_span
      go_enter Tryd.func97, Tryd.ntmps97
      go_wp2_with fail
      go_ret
      exact ⟨none, 0, [], rfl, (OL.nil _).base (((Fr.refl _ _).alloc _).alloc _)⟩
    · obtain ⟨h2, r1, r2⟩ := rch_ne hr e
      have hlt := hf_lt n h2
      have hp := hf_pos n
      obtain ⟨hA1, hA2⟩ := hA.halves h2
      have hle := hT.len
      have eqs := fun w => eq_span f n tf tn w
      rw [decide_eq_false e] at eqs
      have eg := Tryd.guard_span
      have hpt := fun w => parts_any (some ⟨tb, 0, none⟩) f n w (by omega) h2
      have hbf := fun w => before_any tf tn (f + hf n) (n - hf n) w
      clear hle
      by_cases hl : tf < f + hf n
      · rw [decide_eq_true hl] at hbf
        have hrec := fun w' (hf' : Fr (fun _ => False) w w') => ih f (hf n) tf tn w' (by omega) (hT.fr0 hf') hA1 (by omega) (r1 hl)
        have hroot := fun w' (hf' : Fr (fun _ => False) w w') => root_any tb wi hw1 hw32 L _ (f + hf n) (n - hf n) w' (Nat.le_refl _) (hT.fr0 hf') hA2 (by omega)
        have hMw := hT.mw hw1 hw32 (f + hf n) (n - hf n)
        have hMb := hT.mb (f + hf n) (n - hf n)
        have hdl := dep_le _ f (hf n) tf tn (Nat.le_refl _)
        rw [← bes_len wi L _ f (hf n) tf tn (Nat.le_refl _)] at hdl
        unfold BesSays RootSays at *
        rw [bes_l h2 e hl]
        generalize bes wi L f (hf n) tf tn = BS at *
        generalize mth wi (blk L (f + hf n) (n - hf n)) = M at *
        have hbl : BS.length < 16000000 := by have := hT.len; omega
        clear hdl
        generalize f + hf n = F2 at *
        generalize n - hf n = N2 at *
        generalize hf n = K at *
        have HC := hide (And.intro hpt (And.intro hbf (And.intro hrec (And.intro hroot (And.intro hMw (And.intro hMb hbl))))))
        clear hpt hbf hrec hroot r1 r2 hr ih hlt hp hl hm h2 e hT hA1 hA2 hMw hMb hbl hL
        unfold sv pv at *
        go_enter Tryd.func97, Tryd.ntmps97
        go_wp2_with fail
        obtain ⟨W0, hW0⟩ : ∃ W0, (w.alloc (.cells #[.pointer (some ⟨tb, 0, none⟩), .int .i64 f, .int .i64 n] 63)).alloc (.cells #[.int .i64 tf, .int .i64 tn] 61) = W0 := ⟨_, rfl⟩
        rw [hW0]
        obtain ⟨b0, b1, hF0⟩ := boxAB w _ _ _ _ _ _ _ W0 hW0
        refine ((unhide HC).1 _).mono ?_
        rintro e' wA ⟨rfl, hFA⟩
        have c0 := (hFA.cell (lt_of_cell b0) (fun h => h)).trans b0
        have c1 := (hFA.cell (lt_of_cell b1) (fun h => h)).trans b1
        have HF := hide (hF0.trans hFA (fun _ _ h => h))
        clear hFA hF0 b0 b1 hW0
        generalize w.heap.size + 1 = PB at *
        have l0 : PB < wA.heap.size := lt_of_cell c0
        have l1 : PB < wA.heap.size + 1 := Nat.lt_succ_of_lt l0
        go_wp2_with fail
        obtain ⟨W1, hW1⟩ : ∃ W1, (wA.alloc (.cells #[.pointer (some ⟨tb, 0, none⟩), .int .i64 f, .int .i64 K] 63)).alloc (.cells #[.pointer (some ⟨tb, 0, none⟩), .int .i64 F2, .int .i64 N2] 63) = W1 := ⟨_, rfl⟩
        rw [hW1]
        obtain ⟨x0, x1, x2, y0, y1, y2, hF1⟩ := two3 wA _ _ _ _ _ _ _ W1 hW1
        refine ((unhide HC).2.1 _).mono ?_
        rintro e' wB ⟨rfl, hFB⟩
        have hF1B := hF1.trans hFB (fun _ _ h => h)
        have d0 := (hF1B.cell (lt_of_cell c0) (fun h => h)).trans c0
        have d1 := (hF1B.cell (lt_of_cell c1) (fun h => h)).trans c1
        have u0 := (hFB.cell (lt_of_cell x0) (fun h => h)).trans x0
        have u1 := (hFB.cell (lt_of_cell x1) (fun h => h)).trans x1
        have u2 := (hFB.cell (lt_of_cell x2) (fun h => h)).trans x2
        have v0 := (hFB.cell (lt_of_cell y0) (fun h => h)).trans y0
        have v1 := (hFB.cell (lt_of_cell y1) (fun h => h)).trans y1
        have v2 := (hFB.cell (lt_of_cell y2) (fun h => h)).trans y2
        have HF2 := hide ((unhide HF).trans hF1B (fun _ _ h => h))
        clear hF1 hFB hF1B hW1 x0 x1 x2 y0 y1 y2 c0 c1 HF l0 l1
        generalize wA.heap.size = Z at *
        have hS : ∀ w', Fr (fun _ => False) wB w' → w'.cell? ⟨Z, 0, none⟩ = some (.pointer (some ⟨tb, 0, none⟩)) ∧ w'.cell? ⟨Z, 1, none⟩ = some (.int .i64 f) ∧ w'.cell? ⟨Z, 2, none⟩ = some (.int .i64 K) ∧ w'.cell? ⟨Z + 1, 0, none⟩ = some (.pointer (some ⟨tb, 0, none⟩)) ∧ w'.cell? ⟨Z + 1, 1, none⟩ = some (.int .i64 F2) ∧ w'.cell? ⟨Z + 1, 2, none⟩ = some (.int .i64 N2) ∧ w'.cell? ⟨PB, 0, none⟩ = some (.int .i64 tf) ∧ w'.cell? ⟨PB, 1, none⟩ = some (.int .i64 tn) := fun w' hf =>
          ⟨(hf.cell (lt_of_cell u0) (fun h => h)).trans u0, (hf.cell (lt_of_cell u1) (fun h => h)).trans u1, (hf.cell (lt_of_cell u2) (fun h => h)).trans u2, (hf.cell (lt_of_cell v0) (fun h => h)).trans v0, (hf.cell (lt_of_cell v1) (fun h => h)).trans v1, (hf.cell (lt_of_cell v2) (fun h => h)).trans v2, (hf.cell (lt_of_cell d0) (fun h => h)).trans d0, (hf.cell (lt_of_cell d1) (fun h => h)).trans d1⟩
        have HS := hide hS
        clear hS
        go_wp2_with fail
        go_region_held3 (fun w' => w'.cell? ⟨Z, 0, none⟩ = some (.pointer (some ⟨tb, 0, none⟩)) ∧ w'.cell? ⟨Z, 1, none⟩ = some (.int .i64 f) ∧ w'.cell? ⟨Z, 2, none⟩ = some (.int .i64 K) ∧ w'.cell? ⟨Z + 1, 0, none⟩ = some (.pointer (some ⟨tb, 0, none⟩)) ∧ w'.cell? ⟨Z + 1, 1, none⟩ = some (.int .i64 F2) ∧ w'.cell? ⟨Z + 1, 2, none⟩ = some (.int .i64 N2) ∧ w'.cell? ⟨PB, 0, none⟩ = some (.int .i64 tf) ∧ w'.cell? ⟨PB, 1, none⟩ = some (.int .i64 tn))
          (first | assumption | exact (unhide HS) _ (Fr.refl _ _).drew | exact (unhide HS) _ fE | exact (unhide HS) _ (fD.alloc _) | exact (unhide HS) _ fD | exact (unhide HS) _ fC)
          (first
            | (go_at_call 97; refine ((unhide HC).2.2.1 _ (by exact (unhide HF2).drew)).mono ?_; rintro e wC ⟨ao, cp, us, rfl, oC⟩; have fC : Fr (fun _ => False) wB wC := (Fr.refl _ _).drew.trans oC.own.fr (fun _ _ h => h))
            | (go_at_call 75; refine ((unhide HC).2.2.2.1 _ (by exact (unhide HF2).trans fC (fun _ _ h => h))).mono ?_; rintro e wD ⟨yo, yc, rfl, oD⟩; have fD : Fr (fun _ => False) wB wD := fC.trans oD.fr (fun _ _ h => h))
            | (obtain ⟨ao2, cp2, wE, hr2, hO2⟩ := oC.stepW M wi (unhide HC).2.2.2.2.1 yo yc oD (unhide HC).2.2.2.2.2.1 (by rw [oC.len]; exact (unhide HC).2.2.2.2.2.2); have fE : Fr (fun _ => False) wB wE := (Fr.refl _ _).drew.trans hO2.own.fr (fun _ _ h => h); refine step_app rfl (.tmp 22) (.tmp 25) 22 22 rfl _ _ _ (by simp [Act.eval]) (by simp [Act.eval]) hr2 ?_))
        have HE := hide (hO2.base ((unhide HF2).drew))
        clear oC oD hO2 hr2 fC fD fE
        go_wp2_with fail
        go_ret
        exact ⟨ao2, cp2, _, by rw [List.length_append]; rfl, unhide HE⟩
      · rw [decide_eq_false hl] at hbf
        have hrec := fun w' (hf' : Fr (fun _ => False) w w') => ih (f + hf n) (n - hf n) tf tn w' (by omega) (hT.fr0 hf') hA2 (by omega) (r2 hl)
        have hroot := fun w' (hf' : Fr (fun _ => False) w w') => root_any tb wi hw1 hw32 L _ f (hf n) w' (Nat.le_refl _) (hT.fr0 hf') hA1 (by omega)
        have hMw := hT.mw hw1 hw32 f (hf n)
        have hMb := hT.mb f (hf n)
        have hdl := dep_le _ (f + hf n) (n - hf n) tf tn (Nat.le_refl _)
        rw [← bes_len wi L _ (f + hf n) (n - hf n) tf tn (Nat.le_refl _)] at hdl
        unfold BesSays RootSays at *
        rw [bes_r h2 e hl]
        generalize bes wi L (f + hf n) (n - hf n) tf tn = BS at *
        generalize mth wi (blk L f (hf n)) = M at *
        have hbl : BS.length < 16000000 := by have := hT.len; omega
        clear hdl
        generalize f + hf n = F2 at *
        generalize n - hf n = N2 at *
        generalize hf n = K at *
        have HC := hide (And.intro hpt (And.intro hbf (And.intro hrec (And.intro hroot (And.intro hMw (And.intro hMb hbl))))))
        clear hpt hbf hrec hroot r1 r2 hr ih hlt hp hl hm h2 e hT hA1 hA2 hMw hMb hbl hL
        unfold sv pv at *
        go_enter Tryd.func97, Tryd.ntmps97
        go_wp2_with fail
        obtain ⟨W0, hW0⟩ : ∃ W0, (w.alloc (.cells #[.pointer (some ⟨tb, 0, none⟩), .int .i64 f, .int .i64 n] 63)).alloc (.cells #[.int .i64 tf, .int .i64 tn] 61) = W0 := ⟨_, rfl⟩
        rw [hW0]
        obtain ⟨b0, b1, hF0⟩ := boxAB w _ _ _ _ _ _ _ W0 hW0
        refine ((unhide HC).1 _).mono ?_
        rintro e' wA ⟨rfl, hFA⟩
        have c0 := (hFA.cell (lt_of_cell b0) (fun h => h)).trans b0
        have c1 := (hFA.cell (lt_of_cell b1) (fun h => h)).trans b1
        have HF := hide (hF0.trans hFA (fun _ _ h => h))
        clear hFA hF0 b0 b1 hW0
        generalize w.heap.size + 1 = PB at *
        have l0 : PB < wA.heap.size := lt_of_cell c0
        have l1 : PB < wA.heap.size + 1 := Nat.lt_succ_of_lt l0
        go_wp2_with fail
        obtain ⟨W1, hW1⟩ : ∃ W1, (wA.alloc (.cells #[.pointer (some ⟨tb, 0, none⟩), .int .i64 f, .int .i64 K] 63)).alloc (.cells #[.pointer (some ⟨tb, 0, none⟩), .int .i64 F2, .int .i64 N2] 63) = W1 := ⟨_, rfl⟩
        rw [hW1]
        obtain ⟨x0, x1, x2, y0, y1, y2, hF1⟩ := two3 wA _ _ _ _ _ _ _ W1 hW1
        refine ((unhide HC).2.1 _).mono ?_
        rintro e' wB ⟨rfl, hFB⟩
        have hF1B := hF1.trans hFB (fun _ _ h => h)
        have d0 := (hF1B.cell (lt_of_cell c0) (fun h => h)).trans c0
        have d1 := (hF1B.cell (lt_of_cell c1) (fun h => h)).trans c1
        have u0 := (hFB.cell (lt_of_cell x0) (fun h => h)).trans x0
        have u1 := (hFB.cell (lt_of_cell x1) (fun h => h)).trans x1
        have u2 := (hFB.cell (lt_of_cell x2) (fun h => h)).trans x2
        have v0 := (hFB.cell (lt_of_cell y0) (fun h => h)).trans y0
        have v1 := (hFB.cell (lt_of_cell y1) (fun h => h)).trans y1
        have v2 := (hFB.cell (lt_of_cell y2) (fun h => h)).trans y2
        have HF2 := hide ((unhide HF).trans hF1B (fun _ _ h => h))
        clear hF1 hFB hF1B hW1 x0 x1 x2 y0 y1 y2 c0 c1 HF l0 l1
        generalize wA.heap.size = Z at *
        have hS : ∀ w', Fr (fun _ => False) wB w' → w'.cell? ⟨Z + 1, 0, none⟩ = some (.pointer (some ⟨tb, 0, none⟩)) ∧ w'.cell? ⟨Z + 1, 1, none⟩ = some (.int .i64 F2) ∧ w'.cell? ⟨Z + 1, 2, none⟩ = some (.int .i64 N2) ∧ w'.cell? ⟨Z, 0, none⟩ = some (.pointer (some ⟨tb, 0, none⟩)) ∧ w'.cell? ⟨Z, 1, none⟩ = some (.int .i64 f) ∧ w'.cell? ⟨Z, 2, none⟩ = some (.int .i64 K) ∧ w'.cell? ⟨PB, 0, none⟩ = some (.int .i64 tf) ∧ w'.cell? ⟨PB, 1, none⟩ = some (.int .i64 tn) := fun w' hf =>
          ⟨(hf.cell (lt_of_cell v0) (fun h => h)).trans v0, (hf.cell (lt_of_cell v1) (fun h => h)).trans v1, (hf.cell (lt_of_cell v2) (fun h => h)).trans v2, (hf.cell (lt_of_cell u0) (fun h => h)).trans u0, (hf.cell (lt_of_cell u1) (fun h => h)).trans u1, (hf.cell (lt_of_cell u2) (fun h => h)).trans u2, (hf.cell (lt_of_cell d0) (fun h => h)).trans d0, (hf.cell (lt_of_cell d1) (fun h => h)).trans d1⟩
        have HS := hide hS
        clear hS
        go_wp2_with fail
        go_region_held3 (fun w' => w'.cell? ⟨Z + 1, 0, none⟩ = some (.pointer (some ⟨tb, 0, none⟩)) ∧ w'.cell? ⟨Z + 1, 1, none⟩ = some (.int .i64 F2) ∧ w'.cell? ⟨Z + 1, 2, none⟩ = some (.int .i64 N2) ∧ w'.cell? ⟨Z, 0, none⟩ = some (.pointer (some ⟨tb, 0, none⟩)) ∧ w'.cell? ⟨Z, 1, none⟩ = some (.int .i64 f) ∧ w'.cell? ⟨Z, 2, none⟩ = some (.int .i64 K) ∧ w'.cell? ⟨PB, 0, none⟩ = some (.int .i64 tf) ∧ w'.cell? ⟨PB, 1, none⟩ = some (.int .i64 tn))
          (first | assumption | exact (unhide HS) _ (Fr.refl _ _).drew | exact (unhide HS) _ fE | exact (unhide HS) _ (fD.alloc _) | exact (unhide HS) _ fD | exact (unhide HS) _ fC)
          (first
            | (go_at_call 97; refine ((unhide HC).2.2.1 _ (by exact (unhide HF2).drew)).mono ?_; rintro e wC ⟨ao, cp, us, rfl, oC⟩; have fC : Fr (fun _ => False) wB wC := (Fr.refl _ _).drew.trans oC.own.fr (fun _ _ h => h))
            | (go_at_call 75; refine ((unhide HC).2.2.2.1 _ (by exact (unhide HF2).trans fC (fun _ _ h => h))).mono ?_; rintro e wD ⟨yo, yc, rfl, oD⟩; have fD : Fr (fun _ => False) wB wD := fC.trans oD.fr (fun _ _ h => h))
            | (obtain ⟨ao2, cp2, wE, hr2, hO2⟩ := oC.stepW M wi (unhide HC).2.2.2.2.1 yo yc oD (unhide HC).2.2.2.2.2.1 (by rw [oC.len]; exact (unhide HC).2.2.2.2.2.2); have fE : Fr (fun _ => False) wB wE := (Fr.refl _ _).drew.trans hO2.own.fr (fun _ _ h => h); refine step_app rfl (.tmp 29) (.tmp 32) 22 22 rfl _ _ _ (by simp [Act.eval]) (by simp [Act.eval]) hr2 ?_))
        have HE := hide (hO2.base ((unhide HF2).drew))
        clear oC oD hO2 hr2 fC fD fE
        go_wp2_with fail
        go_ret
        exact ⟨ao2, cp2, _, by rw [List.length_append]; rfl, unhide HE⟩
end Go.Proofs.YthamfidjilclpabDoor

namespace Go.Proofs.YthamfidjilclpabDoor
open Go.RowKit

set_option maxRecDepth 100000 in
set_option maxHeartbeats 1000000 in
theorem tpath_in (tb wi : Nat) (hw1 : 1 ≤ wi) (hw32 : wi ≤ 32) (L : List (List Nat)) (i n : Nat) (w : World) (hT : Tk w tb wi L) (hn : n ≤ L.length) (hi : i < n) :
    Calls Tryd.prog 62 #[.pointer (some ⟨tb, 0, none⟩), .int .i64 i, .int .i64 n] w fun e w' => ∃ ao cp vs, e = .returned (.tuple #[.slice ao vs.length cp, .int .i64 0]) ∧ OL w w' ao cp vs (bes wi L 0 n i 1) := by
  obtain ⟨c0, c1, htb⟩ := hT.c0
  have hhas : Calls Tryd.prog 73 #[.pointer (some ⟨tb, 0, none⟩), .int .i64 n] w fun e w' => e = .returned (.bool true) ∧ w' = w := by
    have := has_any tb L.length wi n w c0 c1
    rw [decide_eq_true (by omega)] at this
    exact this
  have hbes : ∀ w', Fr (fun _ => False) w w' → BesSays tb wi L 0 n i 1 w' := fun w' hf => beside_any tb wi hw1 hw32 L n 0 n i 1 w' (Nat.le_refl _) (hT.fr0 hf) (al_zero n) (by omega) (rch_one n 0 n i (Nat.le_refl _) (by omega) (by omega))
  unfold BesSays sv at hbes
  have HG := hide (And.intro hhas hbes)
  have q1 : ¬ (i : Int) < 0 := by omega
  have q2 : ¬ (n : Int) ≤ (i : Int) := by omega
  have q3 : ¬ n ≤ i := by omega
  clear hhas hbes hT c0 c1 htb hn
  go_enter Tryd.func62, Tryd.ntmps62
  go_wp2_with fail
  refine (unhide HG).1.mono ?_
  rintro e w0 ⟨rfl, rfl⟩
  go_wp2_with fail
  refine (first_any _ _ _).mono ?_
  rintro e w1 ⟨rfl, hF1⟩
  have H1 := hide hF1
  clear hF1
  go_wp2_with fail
  refine ((unhide HG).2 w1 (unhide H1)).mono ?_
  rintro e w2 ⟨ao, cp, vs, rfl, hO⟩
  have H2 := hide (hO.base (unhide H1))
  clear hO
  go_wp2_with fail
  go_returns
  exact ⟨ao, cp, vs, rfl, unhide H2⟩
set_option maxRecDepth 100000 in
theorem tpath_no (tb n : Nat) (wi i k : Int) (w : World) (c0 : w.cell? ⟨tb, 0, none⟩ = some (.int .i64 wi)) (c1 : w.cell? ⟨tb, 1, none⟩ = some (.int .i64 n)) (h : ¬ (1 ≤ wi ∧ wi ≤ 32 ∧ 0 ≤ k ∧ k ≤ n) ∨ i < 0 ∨ k ≤ i) :
    Calls Tryd.prog 62 #[.pointer (some ⟨tb, 0, none⟩), .int .i64 i, .int .i64 k] w fun e w' => e = .returned (.tuple #[.slice none 0 0, .int .i64 1]) ∧ w' = w := by
  have hhas := has_any tb n wi k w c0 c1
  by_cases hh : 1 ≤ wi ∧ wi ≤ 32 ∧ 0 ≤ k ∧ k ≤ n
  · rw [decide_eq_true hh] at hhas
    have HG := hide hhas
    have h' : i < 0 ∨ k ≤ i := by omega
    clear hhas h c0 c1
    by_cases hi : i < 0
    · clear h' hh
      go_enter Tryd.func62, Tryd.ntmps62
      go_wp2_with fail
      refine (unhide HG).mono ?_
      rintro e w0 ⟨rfl, rfl⟩
      go_wp2_with fail
      go_returns
      exact ⟨rfl, rfl⟩
    · have hk : k ≤ i := by omega
      clear h' hh
      go_enter Tryd.func62, Tryd.ntmps62
      go_wp2_with fail
      refine (unhide HG).mono ?_
      rintro e w0 ⟨rfl, rfl⟩
      go_wp2_with fail
      go_returns
      exact ⟨rfl, rfl⟩
  · rw [decide_eq_false hh] at hhas
    have HG := hide hhas
    clear hhas h hh c0 c1
    go_enter Tryd.func62, Tryd.ntmps62
    go_wp2_with fail
    refine (unhide HG).mono ?_
    rintro e w0 ⟨rfl, rfl⟩
    go_wp2_with fail
    go_returns
    exact ⟨rfl, rfl⟩
set_option maxRecDepth 100000 in
set_option maxHeartbeats 1000000 in
/-- merkle.Path, of an entry. -/
theorem mpath_in (wi : Nat) (hw1 : 1 ≤ wi) (hw32 : wi ≤ 32) (x : Value) (us : List Value) (es : List (List Nat)) (i : Nat) (w : World) (hg : GS w) (ht : GT w) (hp : Pcs w x us es) (hB : ∀ e ∈ es, e.length ≤ 16000000) (hn : es.length ≤ 8000000) (hi : i < es.length) :
    Calls Tryd.prog 24 #[.int .i64 wi, x, .int .i64 i] w fun e w' => ∃ ao cp vs, e = .returned (.tuple #[.slice ao vs.length cp, .int .i64 0]) ∧ OL w w' ao cp vs (bes wi (es.map (lf wi)) 0 es.length i 1) := by
  have hgr := grown_in wi hw1 hw32 x us es w hg hp hB hn
  have htr : ∀ w' tb, Tk w' tb wi (es.map (lf wi)) → _ := fun w' tb hT => tpath_in tb wi hw1 hw32 (es.map (lf wi)) i es.length w' hT (by rw [List.length_map]; exact Nat.le_refl _) hi
  obtain ⟨xo, xc, rfl⟩ := hp.form
  have HT := hide (fun (w' : World) (tb base : Nat) (xo : Option Addr) (cp : Nat) (vs : List Value) (rs : List (List Nat)) (hT : TrAt w' base tb wi es.length xo cp vs rs) hR hf => tk_of hw1 hw32 hT hR hg ht hf hn)
  have HG := hide (And.intro hgr htr)
  clear hgr htr hg ht hp hB hi hn
  generalize bes wi (es.map (lf wi)) 0 es.length i 1 = M at *
  generalize es.length = N at *
  go_enter Tryd.func24, Tryd.ntmps24
  go_wp2_with fail
  refine (unhide HG).1.mono ?_
  rintro e w1 ⟨rfl, yo, cp, vs, rs, hT, hR, hF⟩
  have hk := (unhide HT) _ _ _ _ _ _ _ hT hR hF
  have H1 := hide (And.intro hk hF)
  clear hk hF hT hR
  generalize w.heap.size = TB at *
  go_wp2_with fail
  refine ((unhide HG).2 w1 TB (unhide H1).1).mono ?_
  rintro e w2 ⟨ao, cp, vs, rfl, hO⟩
  have H2 := hide (hO.base (unhide H1).2)
  clear hO
  go_wp2_with fail
  go_returns
  exact ⟨ao, cp, vs, rfl, unhide H2⟩
set_option maxRecDepth 100000 in
set_option maxHeartbeats 1000000 in
theorem mpath_no (j : Int) (i : Int) (x : Value) (us : List Value) (es : List (List Nat)) (w : World) (hg : GS w) (hp : Pcs w x us es) (hB : ∀ e ∈ es, e.length ≤ 16000000) (hn : es.length ≤ 8000000) (hi : (j < 1 ∨ 32 < j) ∨ i < 0 ∨ (es.length : Int) ≤ i) :
    Calls Tryd.prog 24 #[.int .i64 j, x, .int .i64 i] w fun e w' => e = .returned (.tuple #[.slice none 0 0, .int .i64 1]) ∧ Fr (fun _ => False) w w' := by
  have hgr : Calls Tryd.prog 34 #[.int .i64 j, x] w fun e w' => e = .returned (.pointer (some ⟨w.heap.size, 0, none⟩)) ∧ w'.cell? ⟨w.heap.size, 0, none⟩ = some (.int .i64 j) ∧ w'.cell? ⟨w.heap.size, 1, none⟩ = some (.int .i64 es.length) ∧ Fr (fun _ => False) w w' := by
    by_cases hj : 1 ≤ j ∧ j ≤ 32
    · obtain ⟨wi, rfl⟩ : ∃ n : Nat, j = (n : Int) := ⟨j.toNat, by omega⟩
      refine (grown_in wi (by omega) (by omega) x us es w hg hp hB hn).mono ?_
      rintro e w' ⟨rfl, xo, cp, vs, rs, hT, _, hF⟩
      exact ⟨rfl, hT.cells.1, hT.cells.2.1, hF⟩
    · refine (grown_out j (by omega) x us es w hp hn).mono ?_
      rintro e w' ⟨rfl, hT, hF⟩
      exact ⟨rfl, hT.cells.1, hT.cells.2.1, hF⟩
  have htr : ∀ (w' : World) (tb : Nat), w'.cell? ⟨tb, 0, none⟩ = some (.int .i64 j) → w'.cell? ⟨tb, 1, none⟩ = some (.int .i64 es.length) → _ := fun w' tb h0 h1 => tpath_no tb es.length j i es.length w' h0 h1 (by omega)
  obtain ⟨xo, xc, rfl⟩ := hp.form
  have HG := hide (And.intro hgr htr)
  clear hgr htr hp hg hB hn hi
  generalize es.length = N at *
  go_enter Tryd.func24, Tryd.ntmps24
  go_wp2_with fail
  refine (unhide HG).1.mono ?_
  rintro e w1 ⟨rfl, h0, h1, hF⟩
  have H1 := hide (And.intro h0 (And.intro h1 hF))
  clear hF h0 h1
  generalize w.heap.size = TB at *
  go_wp2_with fail
  refine ((unhide HG).2 w1 TB (unhide H1).1 (unhide H1).2.1).mono ?_
  rintro e w2 ⟨rfl, rfl⟩
  go_wp2_with fail
  go_returns
  exact ⟨rfl, (unhide H1).2.2⟩
end Go.Proofs.YthamfidjilclpabDoor

namespace Go.Proofs.YthamfidjilclpabDoor
open Go.RowKit

set_option maxRecDepth 100000 in
set_option maxHeartbeats 1000000 in
theorem hex_O (s : ByteArray) (w : World) (hs : s.size < 1048576) : Calls Tryd.prog 51 #[.string s] w fun e w' => ∃ yo yc, e = .returned (.slice yo (hxl (bytesOf s)).length yc) ∧ OB w w' yo yc (hxl (bytesOf s)) := by
  go_enter Tryd.func51, Tryd.ntmps51
  go_wp2_with fail
  go_loopw [3, 4] (fun x i wr => ∃ k j : Nat, j = 2 * k ∧ j ≤ s.size ∧ i = .int .i64 j ∧ wr.ownsRow w.heap.size 5 1 x k (cellsOf (hxk (bytesOf s) k)) ∧ Fr (fun _ => False) w wr) (fun _ i _ => s.size - (intOf i).toNat)
  case atStart => exact ⟨0, 0, rfl, Nat.zero_le _, rfl, own_nil w _, Fr.refl _ _⟩
  case round =>
    obtain ⟨k, j, hj, hjs, rfl, ho, hF⟩ := hrel
    rename World => wr
    rename_i x'
    by_cases hlt : j + 1 < s.size
    · have hlt1 : j < s.size := by omega
      have hlt2 : j < s.data.size := hlt1
      have hlt3 : j + 1 < s.data.size := hlt
      have a0 : s[j].toNat < 256 := s[j].toNat_lt
      have a1 : s[j + 1].toNat < 256 := s[j + 1].toNat_lt
      have e0 : (bytesOf s).getD (2 * k) 0 = s[j].toNat := by
        rw [← hj, List.getD, List.getElem?_eq_getElem (by rw [bytesOf_length]; exact hlt1)]; simp [bytesOf]; rfl
      have e1 : (bytesOf s).getD (2 * k + 1) 0 = s[j + 1].toNat := by
        rw [← hj, List.getD, List.getElem?_eq_getElem (by rw [bytesOf_length]; exact hlt)]; simp [bytesOf]; rfl
      have hv : hbl (bytesOf s) k = (dg s[j].toNat * 16 % 256) ||| dg s[j + 1].toNat := by rw [hbl, e0, e1]
      have hj2 : j + 2 ≤ s.size := by omega
      obtain ⟨xo, xcap, rfl⟩ := own_form ho
      have x0 : ∀ w0 : World, (Instr.index 9 (.string s) (.int .i64 (j : Int))).run Tryd.prog w0 = .ok (.int .u8 (s[j].toNat : Int)) w0 := fun w0 => by
        rw [run_index_string _ _ _ _ _ Tryd.underlying9, dif_pos ⟨by omega, by omega⟩]
        simp only [Int.toNat_natCast]
      have x1 : ∀ w0 : World, (Instr.index 9 (.string s) (.int .i64 ((j : Int) + 1))).run Tryd.prog w0 = .ok (.int .u8 (s[j + 1].toNat : Int)) w0 := fun w0 => by
        have e : (j : Int) + 1 = ((j + 1 : Nat) : Int) := by omega
        rw [e, run_index_string _ _ _ _ _ Tryd.underlying9, dif_pos ⟨by omega, by omega⟩]
        simp only [Int.toNat_natCast]
      generalize s[j].toNat = A at *
      generalize s[j + 1].toNat = B1 at *
      have i1 : (j : Int) + 1 < (s.size : Int) := by omega
      have r0 : IntKind.i64.wrap ((j : Int) + 1) = (j : Int) + 1 := by rw [IntKind.wrap_i64]; omega
      have j0 : (0 : Int) ≤ (j : Int) + 1 := by omega
      have d0 := dg_lt A a0
      have d1 := dg_lt B1 a1
      have hd0 := fun w0 => digit_any A w0 a0
      have hd1 := fun w0 => digit_any B1 w0 a1
      generalize dg A = DA at *
      generalize dg B1 = DB at *
      have p1 : IntKind.u8.wrap ((DA : Int) * 16) = ((DA * 16 % 256 : Nat) : Int) := by rw [IntKind.wrap_u8]; omega
      have p1' : (DA : Int) * 16 % 256 = ((DA * 16 % 256 : Nat) : Int) := by omega
      have p2 := u8_or_nat (DA * 16 % 256) DB (Nat.mod_lt _ (by decide)) d1
      have vlt : (DA * 16 % 256) ||| DB < 256 := Nat.or_lt_two_pow (n := 8) (Nat.mod_lt _ (by decide)) d1
      generalize DA * 16 % 256 = P at *
      generalize P ||| DB = V at *
      have ho2 : (wr.alloc (.cells #[.int .u8 (V : Int)] 5)).drew.ownsRow w.heap.size 5 1 (.slice xo k xcap) k (cellsOf (hxk (bytesOf s) k)) := ownsRow_of_block (w' := (wr.alloc (.cells #[.int .u8 (V : Int)] 5)).drew) ho (fun g hg => Below.heap_alloc _ _ _ (ho.lt g hg).2)
      have hsr : Src (wr.alloc (.cells #[.int .u8 (V : Int)] 5)).drew (.slice (some ⟨wr.heap.size, 0, none⟩) 1 1) [V] := (lit_src wr [V] #[.int .u8 (V : Int)] 1 1 rfl (by simp [cellsOf, B, Nat.mod_eq_of_lt vlt])).fr0 (Fr.refl _ _).drew
      obtain ⟨ao, c', w2, hr, hown, hgrow, hat⟩ := run_app_sl _ 23 w.heap.size k _ _ _ [V] ho2 hsr (by simp; omega) (by have := hF.size; simp; omega)
      have hF2 : Fr (fun _ => False) w w2 := ((hF.alloc _).drew).grown hgrow (fun g hg => .inr (ho.lt g hg).1)
      have hnew : w2.ownsRow w.heap.size 5 1 (.slice ao (k + 1) c') (k + 1) (cellsOf (hxk (bytesOf s) (k + 1))) := by
        rw [hxk_succ, hv, cellsOf_append]; exact hown
      have hj' : j + 2 = 2 * (k + 1) := by omega
      have HR := hide hr
      have HV := hide (And.intro hnew (And.intro hF2 hj'))
      clear hv hj ho hF e0 e1 hlt1 hlt2 hlt3 ho2 hsr hr hown hgrow hat hF2 hnew hj'
      go_wp2_with fail
      go_region_held3 (fun _ => True) (trivial) (first
        | (go_at_call 90; refine (hd0 _).mono ?_; rintro e w' ⟨rfl, rfl⟩; clear hd0)
        | (go_at_call 90; refine (hd1 _).mono ?_; rintro e w' ⟨rfl, rfl⟩)
        | (refine step_app rfl (.tmp 12) (.tmp 24) 23 23 rfl (.slice xo k xcap) (.slice (some ⟨wr.heap.size, 0, none⟩) 1 1) _ (by simp [Act.eval]) (by simp [Act.eval]) (unhide HR) ?_))
      all_goals
        go_wp2_with fail
        exact ⟨⟨k + 1, j + 2, (unhide HV).2.2, hj2, by go_num, (unhide HV).1, (unhide HV).2.1⟩, by simp [intOf]; omega⟩
    · have hlt' : ¬ (j : Int) + 1 < (s.size : Int) := by omega
      have e : hxl (bytesOf s) = hxk (bytesOf s) k := by rw [hxl, bytesOf_length]; congr 1; omega
      obtain ⟨xo, xcap, rfl⟩ := own_form ho
      have hO : OB w wr xo xcap (hxk (bytesOf s) k) := ⟨by rw [hxk_len]; exact ho, hF⟩
      have hl := hxk_len (bytesOf s) k
      rw [← e] at hO hl
      have HV := hide (And.intro hO hl)
      clear hO hF ho e hj hl
      go_wp2_with fail
      go_ret
      exact ⟨xo, xcap, by rw [(unhide HV).2]; rfl, (unhide HV).1⟩
/-- A literal of slices of bytes. -/
theorem pcs_lit {w : World} {vs : List Value} {ps : List (List Nat)} (hl : vs.length = ps.length) (hs : ∀ (j : Nat) v p, vs[j]? = some v → ps[j]? = some p → Sl w v p) (W : World) (hW : w.alloc (.cells vs.toArray 23) = W) (n : Nat) (hn : vs.length = n) : Pcs W (.slice (some ⟨w.heap.size, 0, none⟩) n n) vs ps ∧ Fr (fun _ => False) w W := by
  have hF1 : Fr (fun _ => False) w W := by rw [← hW]; exact (Fr.refl _ _).alloc _
  have hc : ∀ j, W.cell? ⟨w.heap.size, 0 + j, none⟩ = vs.toArray[j]? := fun j => by rw [Nat.zero_add, ← hW, World.cell?_alloc_at _ _ _ _ rfl]
  have hlt : w.heap.size < W.heap.size := by rw [← hW]; simp
  refine ⟨⟨hl, .inr (.inr ⟨w.heap.size, 0, n, by rw [hn], hlt, fun j v hv => ?_⟩), fun j v p hv hp => ?_, fun p hp => ?_⟩, hF1⟩
  · rw [hc j]; simpa using hv
  · have := (hs j v p hv hp).fr0 hF1
    exact ⟨this.s, this.cap, this.lt⟩
  · obtain ⟨j, hj, rfl⟩ := List.getElem_of_mem hp
    exact (hs j (vs[j]'(by omega)) ps[j] (List.getElem?_eq_getElem _) (List.getElem?_eq_getElem hj)).b
/-- The entries of the document's examples. -/
def tes : List (List Nat) := [[], [0], [16], [32, 33], [48, 49], [64, 65, 66, 67], [80, 81, 82, 83, 84, 85, 86, 87], [96, 97, 98, 99, 100, 101, 102, 103, 104, 105, 106, 107, 108, 109, 110, 111]]
theorem hex_lit (s : ByteArray) (l : List Nat) (w : World) (hs : s.size < 1048576) (hl : hxl (bytesOf s) = l) (n : Nat) (hn : l.length = n) (hb : ∀ v ∈ l, v < 256) : Calls Tryd.prog 51 #[.string s] w fun e w' => ∃ yo yc, e = .returned (.slice yo n yc) ∧ Sl w' (.slice yo n yc) l ∧ Fr (fun _ => False) w w' := by
  refine (hex_O s w hs).mono ?_
  rintro e w' ⟨yo, yc, rfl, hO⟩
  rw [hl] at hO ⊢
  have := hO.sl hb
  rw [hn] at this ⊢
  exact ⟨yo, yc, rfl, this, hO.fr⟩
theorem sl_nil (w : World) : Sl w (.slice none 0 0) [] := ⟨.inl ⟨rfl, rfl⟩, fun _ _ _ e => by cases e; exact Nat.le_refl _, .inl rfl, fun _ h => by cases h⟩
set_option maxRecDepth 100000 in
set_option maxHeartbeats 4000000 in
theorem tests_any (w : World) : Calls Tryd.prog 50 #[] w fun e w' => ∃ g vs, e = .returned (.slice (some ⟨g, 0, none⟩) 8 8) ∧ Pcs w' (.slice (some ⟨g, 0, none⟩) 8 8) vs tes ∧ Fr (fun _ => False) w w' := by
  go_enter Tryd.func50, Tryd.ntmps50
  go_wp2_with fail
  refine (hex_lit ⟨#[48, 48]⟩ [0] _ (by decide) (by decide) 1 rfl (by decide)).mono ?_
  rintro e w1 ⟨a1, c1, rfl, hS, hF⟩
  have S1 := hide hS
  have F1 := hide hF
  clear hS hF
  go_wp2_with fail
  refine (hex_lit ⟨#[49, 48]⟩ [16] _ (by decide) (by decide) 1 rfl (by decide)).mono ?_
  rintro e w2 ⟨a2, c2, rfl, hS, hF⟩
  have S1 := hide ((unhide S1).fr0 hF)
  have S2 := hide hS
  have F2 := hide ((unhide F1).trans hF (fun _ _ h => h))
  clear hS hF
  go_wp2_with fail
  refine (hex_lit ⟨#[50, 48, 50, 49]⟩ [32, 33] _ (by decide) (by decide) 2 rfl (by decide)).mono ?_
  rintro e w3 ⟨a3, c3, rfl, hS, hF⟩
  have S1 := hide ((unhide S1).fr0 hF)
  have S2 := hide ((unhide S2).fr0 hF)
  have S3 := hide hS
  have F3 := hide ((unhide F2).trans hF (fun _ _ h => h))
  clear hS hF
  go_wp2_with fail
  refine (hex_lit ⟨#[51, 48, 51, 49]⟩ [48, 49] _ (by decide) (by decide) 2 rfl (by decide)).mono ?_
  rintro e w4 ⟨a4, c4, rfl, hS, hF⟩
  have S1 := hide ((unhide S1).fr0 hF)
  have S2 := hide ((unhide S2).fr0 hF)
  have S3 := hide ((unhide S3).fr0 hF)
  have S4 := hide hS
  have F4 := hide ((unhide F3).trans hF (fun _ _ h => h))
  clear hS hF
  go_wp2_with fail
  refine (hex_lit ⟨#[52, 48, 52, 49, 52, 50, 52, 51]⟩ [64, 65, 66, 67] _ (by decide) (by decide) 4 rfl (by decide)).mono ?_
  rintro e w5 ⟨a5, c5, rfl, hS, hF⟩
  have S1 := hide ((unhide S1).fr0 hF)
  have S2 := hide ((unhide S2).fr0 hF)
  have S3 := hide ((unhide S3).fr0 hF)
  have S4 := hide ((unhide S4).fr0 hF)
  have S5 := hide hS
  have F5 := hide ((unhide F4).trans hF (fun _ _ h => h))
  clear hS hF
  go_wp2_with fail
  refine (hex_lit ⟨#[53, 48, 53, 49, 53, 50, 53, 51, 53, 52, 53, 53, 53, 54, 53, 55]⟩ [80, 81, 82, 83, 84, 85, 86, 87] _ (by decide) (by decide) 8 rfl (by decide)).mono ?_
  rintro e w6 ⟨a6, c6, rfl, hS, hF⟩
  have S1 := hide ((unhide S1).fr0 hF)
  have S2 := hide ((unhide S2).fr0 hF)
  have S3 := hide ((unhide S3).fr0 hF)
  have S4 := hide ((unhide S4).fr0 hF)
  have S5 := hide ((unhide S5).fr0 hF)
  have S6 := hide hS
  have F6 := hide ((unhide F5).trans hF (fun _ _ h => h))
  clear hS hF
  go_wp2_with fail
  refine (hex_lit ⟨#[54, 48, 54, 49, 54, 50, 54, 51, 54, 52, 54, 53, 54, 54, 54, 55, 54, 56, 54, 57, 54, 97, 54, 98, 54, 99, 54, 100, 54, 101, 54, 102]⟩ [96, 97, 98, 99, 100, 101, 102, 103, 104, 105, 106, 107, 108, 109, 110, 111] _ (by decide) (by decide) 16 rfl (by decide)).mono ?_
  rintro e w7 ⟨a7, c7, rfl, hS, hF⟩
  have S1 := hide ((unhide S1).fr0 hF)
  have S2 := hide ((unhide S2).fr0 hF)
  have S3 := hide ((unhide S3).fr0 hF)
  have S4 := hide ((unhide S4).fr0 hF)
  have S5 := hide ((unhide S5).fr0 hF)
  have S6 := hide ((unhide S6).fr0 hF)
  have S7 := hide hS
  have F7 := hide ((unhide F6).trans hF (fun _ _ h => h))
  clear hS hF
  go_wp2_with fail
  go_ret
  obtain ⟨hP, hF⟩ := pcs_lit (w := w7) (vs := [.slice none 0 0, .slice a1 1 c1, .slice a2 1 c2, .slice a3 2 c3, .slice a4 2 c4, .slice a5 4 c5, .slice a6 8 c6, .slice a7 16 c7]) (ps := tes) rfl (fun j v p hv hp => by
    match j with
    | 0 => simp [tes] at hv hp; subst hv hp; exact sl_nil _
    | 1 => simp [tes] at hv hp; subst hv hp; exact unhide S1
    | 2 => simp [tes] at hv hp; subst hv hp; exact unhide S2
    | 3 => simp [tes] at hv hp; subst hv hp; exact unhide S3
    | 4 => simp [tes] at hv hp; subst hv hp; exact unhide S4
    | 5 => simp [tes] at hv hp; subst hv hp; exact unhide S5
    | 6 => simp [tes] at hv hp; subst hv hp; exact unhide S6
    | 7 => simp [tes] at hv hp; subst hv hp; exact unhide S7
    | j + 8 => simp at hv) _ rfl 8 rfl
  exact ⟨_, _, rfl, hP, (unhide F7).trans hF (fun _ _ h => h)⟩
end Go.Proofs.YthamfidjilclpabDoor

namespace Go.Proofs.YthamfidjilclpabDoor

/-- The hash of a tree, with a bound on the halvings. -/
def mthF (i : Int) : Nat → List (List Nat) → List Nat
  | 0, _ => []
  | k + 1, ps => if ps.length < 2 then (match ps with | [] => sm i [] | p :: _ => p) else nd i (mthF i k (ps.take (hf ps.length))) (mthF i k (ps.drop (hf ps.length)))
theorem mthF_eq (i : Int) (k : Nat) : ∀ ps : List (List Nat), ps.length < k → mthF i k ps = mth i ps := by
  induction k with
  | zero => intro ps h; omega
  | succ k ih =>
    intro ps h
    unfold mthF
    by_cases h2 : ps.length < 2
    · rw [if_pos h2]
      match ps, h2 with
      | [], _ => rw [mth_nil]
      | [p], _ => rw [mth_one]
    · have h3 := hf_lt ps.length (by omega)
      have h4 := hf_pos ps.length
      rw [if_neg h2, mth_two i ps (by omega), ih _ (by rw [List.length_take]; omega), ih _ (by rw [List.length_drop]; omega)]
def rootB : List Nat := [93, 201, 218, 121, 167, 6, 89, 169, 173, 85, 156, 183, 1, 222, 217, 162, 171, 157, 130, 58, 173, 47, 73, 96, 207, 227, 112, 239, 244, 96, 67, 40]
def leafB : List Nat := [110, 52, 11, 156, 255, 179, 122, 152, 156, 165, 68, 230, 187, 120, 10, 44, 120, 144, 29, 63, 179, 55, 56, 118, 133, 17, 163, 6, 23, 175, 160, 29]
theorem rootB_hex : hxl (bytesOf ⟨#[53, 100, 99, 57, 100, 97, 55, 57, 97, 55, 48, 54, 53, 57, 97, 57, 97, 100, 53, 53, 57, 99, 98, 55, 48, 49, 100, 101, 100, 57, 97, 50, 97, 98, 57, 100, 56, 50, 51, 97, 97, 100, 50, 102, 52, 57, 54, 48, 99, 102, 101, 51, 55, 48, 101, 102, 102, 52, 54, 48, 52, 51, 50, 56]⟩) = rootB := by decide +kernel
theorem leafB_hex : hxl (bytesOf ⟨#[54, 101, 51, 52, 48, 98, 57, 99, 102, 102, 98, 51, 55, 97, 57, 56, 57, 99, 97, 53, 52, 52, 101, 54, 98, 98, 55, 56, 48, 97, 50, 99, 55, 56, 57, 48, 49, 100, 51, 102, 98, 51, 51, 55, 51, 56, 55, 54, 56, 53, 49, 49, 97, 51, 48, 54, 49, 55, 97, 102, 97, 48, 49, 100]⟩) = leafB := by decide +kernel
theorem leaf_nil : lf 32 [] = leafB := by decide +kernel
theorem root_tes : mthF 32 9 (tes.map (lf 32)) = rootB := by decide +kernel
theorem root_tests : mth 32 (tes.map (lf 32)) = rootB := by rw [← mthF_eq 32 9 _ (by decide)]; exact root_tes
theorem dep_tests : dep 0 8 0 1 = 3 := by
  have h8 : hf 8 = 4 := by decide +kernel
  have h4 : hf 4 = 2 := by decide +kernel
  have h2 : hf 2 = 1 := by decide +kernel
  rw [dep_l (by decide) (by decide) (by rw [h8]; decide), h8, dep_l (by decide) (by decide) (by rw [h4]; decide), h4, dep_l (by decide) (by decide) (by rw [h2]; decide), h2, dep_eq]
end Go.Proofs.YthamfidjilclpabDoor

namespace Go.Proofs.YthamfidjilclpabDoor
open Go.RowKit

theorem bes_wid (wi : Nat) (hw1 : 1 ≤ wi) (hw32 : wi ≤ 32) (L : List (List Nat)) (hL : ∀ p ∈ L, p.length = wi) (m : Nat) : ∀ f n tf tn, n ≤ m → ∀ p ∈ bes wi L f n tf tn, p.length = wi := by
  induction m with
  | zero => intro f n tf tn h p hp; rw [bes, dif_pos (by omega)] at hp; cases hp
  | succ m ih =>
    intro f n tf tn h p hp
    by_cases e : (f = tf ∧ n = tn) ∨ n < 2
    · rw [bes, dif_pos e] at hp; cases hp
    · have hlt := hf_lt n (by omega)
      have hpos := hf_pos n
      by_cases hl : tf < f + hf n
      · rw [bes_l (by omega) (by omega) hl] at hp
        rcases List.mem_append.1 hp with hp | hp
        · exact ih _ _ _ _ (by omega) p hp
        · simp at hp; subst hp; exact mth_wid wi hw1 hw32 _ (fun p hp => hL p (blk_mem _ _ _ p hp))
      · rw [bes_r (by omega) (by omega) hl] at hp
        rcases List.mem_append.1 hp with hp | hp
        · exact ih _ _ _ _ (by omega) p hp
        · simp at hp; subst hp; exact mth_wid wi hw1 hw32 _ (fun p hp => hL p (blk_mem _ _ _ p hp))
theorem wdq_of {j : Int} {ps : List (List Nat)} (h : ∀ p ∈ ps, (p.length : Int) = j) : wdq j ps = true := by
  rw [wdq, List.all_eq_true]
  intro p hp
  simpa using h p hp
/-- A path that the tree tells is taken. -/
theorem chkP_bes (wi : Nat) (hw1 : 1 ≤ wi) (hw32 : wi ≤ 32) (L : List (List Nat)) (hL : ∀ p ∈ L, p.length = wi) (i : Nat) (hi : i < L.length) : chkP wi (L[i]) i L.length (bes wi L 0 L.length i 1) (mth wi L) = true := by
  have hb : blk L i 1 = [L[i]] := by
    rw [blk, List.drop_eq_getElem_cons hi]; rfl
  have ht := topv_bes wi L L.length 0 L.length i 1 (Nat.le_refl _) (by omega) (rch_one _ 0 L.length i (Nat.le_refl _) (by omega) (by omega))
  rw [hb, mth_one, blk_all] at ht
  rw [chkP, decide_eq_true (by omega), decide_eq_true (by omega), decide_eq_true (by omega), wdq_of (fun p hp => ?_), wdq_of (fun p hp => ?_), Int.toNat_natCast, Int.toNat_natCast, Int.toNat_natCast, bes_len _ _ _ _ _ _ _ (Nat.le_refl _), decide_eq_true rfl, ht, decide_eq_true rfl]
  · rfl
  · have := bes_wid wi hw1 hw32 L hL _ 0 L.length i 1 (Nat.le_refl _) p hp
    omega
  · simp at hp
    rcases hp with rfl | rfl
    · have := hL L[i] (List.getElem_mem _); omega
    · have := mth_wid wi hw1 hw32 L hL; omega
theorem chkP_tests : chkP 32 (lf 32 []) 0 8 (bes 32 (tes.map (lf 32)) 0 8 0 1) rootB = true := by
  have := chkP_bes 32 (by decide) (by decide) (tes.map (lf 32)) (map_lf_len 32 (by decide) (by decide) _) 0 (by simp [tes])
  have e : mth ((32 : Nat) : Int) (tes.map (lf 32)) = rootB := root_tests
  rw [e] at this
  exact this
set_option maxRecDepth 100000 in
set_option maxHeartbeats 4000000 in
theorem mlives_any (w : World) (hg : GS w) (ht : GT w) : Calls Tryd.prog 16 #[] w fun e w' => e = .returned (.bool true) ∧ Fr (fun _ => False) w w' := by
  have hB : ∀ e ∈ tes, e.length ≤ 16000000 := by decide
  have hnew : ∀ w', GS w' → Calls Tryd.prog 27 #[.int .i64 32] w' fun e w'' => ∃ tb, e = .returned (.pointer (some ⟨tb, 0, none⟩)) ∧ TrAt w'' w'.heap.size tb 32 0 none 0 [] [] ∧ 6 ≤ w'.heap.size ∧ w'.heap.size ≤ tb ∧ Fr (fun _ => False) w' w'' := fun w' hg' => by
    refine (mnew_any 32 w').mono ?_
    rintro e w'' ⟨rfl, h1, h2⟩
    exact ⟨_, rfl, h1, hg'.1.2, Nat.le_refl _, h2⟩
  have hadd : ∀ (w' : World) (base tb : Nat), GS w' → GT w' → TrAt w' base tb 32 0 none 0 [] [] → 6 ≤ base → Calls Tryd.prog 30 #[.pointer (some ⟨tb, 0, none⟩), .slice none 0 0] w' fun e w'' => e = .returned (.int .i64 0) ∧ Tk w'' tb 32 [lf 32 []] ∧ Fr (TOwn tb none []) w' w'' := fun w' base tb hg' ht' hT hb => by
    refine (add_in 32 (by decide) (by decide) base tb 0 hb w' none 0 [] [] (.slice none 0 0) [] hT hg' (sl_nil _) (by decide) (fun j row h => by simp at h) (by decide) (by decide)).mono ?_
    rintro e w'' ⟨rfl, xo, cp, vs, hT2, hF, _⟩
    have hlo : ∀ k, k < 6 → ¬ TOwn tb none [] k := fun k hk hO => by
      have := (hT.lt k hO).1; omega
    refine ⟨rfl, ⟨⟨base, xo, cp, vs, _, hT2, ?_⟩, hg'.fr hF hlo, ht'.fr hF hlo, fun p hp => ?_, fun p hp => ?_, by decide⟩, hF⟩
    · exact (rows_nil 32).add (by decide) (by decide) (lf 32 []) (fun p hp => by simp at hp; subst hp; exact lf_len 32 (by decide) (by decide) _)
    · simp at hp; subst hp; exact lf_len 32 (by decide) (by decide) _
    · simp at hp; subst hp; exact lf_lt _ _
  have hp0 := fun w' x vs (h1 : GS w') (h2 : GT w') (h3 : Pcs w' x vs tes) => mpath_in 32 (by decide) (by decide) x vs tes 0 w' h1 h2 h3 hB (by decide) (by decide)
  have hr0 : ∀ w' x vs, GS w' → GT w' → Pcs w' x vs tes → Calls Tryd.prog 17 #[.int .i64 32, x] w' fun e w'' => ∃ yo yc, e = .returned (.slice yo 32 yc) ∧ OB w' w'' yo yc rootB := fun w' x vs h1 h2 h3 => by
    have := mroot_in 32 (by decide) (by decide) x vs tes w' h1 h2 h3 hB (by decide)
    rw [← root_tests]
    exact this
  have hr1 : ∀ w' tb, Tk w' tb 32 [lf 32 []] → Calls Tryd.prog 32 #[.pointer (some ⟨tb, 0, none⟩), .int .i64 1] w' fun e w'' => ∃ yo yc, e = .returned (.tuple #[.slice yo 32 yc, .int .i64 0]) ∧ OB w' w'' yo yc leafB := fun w' tb h => by
    have := troot_in tb 32 (by decide) (by decide) _ 1 w' h (by decide)
    have e : mth (32 : Nat) (blk [lf 32 []] 0 1) = leafB := by
      have : blk [lf 32 []] 0 1 = [lf 32 []] := rfl
      rw [this, mth_one, leaf_nil]
    rw [← e]
    exact this
  have hlf : ∀ w', GS w' → Calls Tryd.prog 19 #[.int .i64 32, .slice none 0 0] w' fun e w'' => ∃ yo, e = .returned (.slice yo 32 32) ∧ OB w' w'' yo 32 (lf 32 []) := fun w' h => by
    have := leaf_any 32 (.slice none 0 0) [] w' h (sl_nil _) (by decide)
    have e : (lf 32 []).length = 32 := lf_len 32 (by decide) (by decide) _
    rw [e] at this
    exact this
  have hbl : (bes 32 (tes.map (lf 32)) 0 8 0 1).length = 3 := by rw [bes_len _ _ _ _ _ _ _ (Nat.le_refl _), dep_tests]
  have hck := chkP_tests
  have e8 : tes.length = 8 := rfl
  simp only [e8] at hp0
  have e0 : ((0 : Nat) : Int) = 0 := rfl
  have e32 : ((32 : Nat) : Int) = 32 := rfl
  simp only [e0, e32] at hp0
  generalize bes 32 (tes.map (lf 32)) 0 8 0 1 = BS at *
  have hrb : ∀ v ∈ rootB, v < 256 := by decide
  have hlb : ∀ v ∈ leafB, v < 256 := by decide
  have HG := hide (And.intro hg ht)
  have HC := hide (And.intro hnew (And.intro hadd (And.intro hp0 (And.intro hr0 (And.intro hr1 (And.intro hlf (And.intro hbl (And.intro hck (And.intro hrb hlb)))))))))
  clear hnew hadd hp0 hr0 hr1 hlf hbl hck hrb hlb hg ht hB e8 e0 e32
  go_enter Tryd.func16, Tryd.ntmps16
  go_wp2_with fail
  refine (tests_any w).mono ?_
  rintro e w1 ⟨g1, vs1, rfl, hP, hF⟩
  have F1 := hide hF
  have P1 := hide hP
  clear hF hP
  go_wp2_with fail
  refine ((unhide HC).2.2.1 _ _ _ ((unhide HG).1.fr0 (unhide F1)) ((unhide HG).2.fr0 (unhide F1)) (unhide P1)).mono ?_
  rintro e w2 ⟨ao, cp, us, rfl, hO⟩
  have hus : us.length = 3 := hO.len.trans (unhide HC).2.2.2.2.2.2.1
  rw [hus]
  have F2 := hide ((unhide F1).trans hO.own.fr (fun _ _ h => h))
  have P2 := hide ((unhide P1).fr0 hO.own.fr)
  have O2 := hide hO
  have HU := hide hus
  clear hO hus
  go_wp2_with fail
  refine ((unhide HC).1 _ ((unhide HG).1.fr0 (unhide F2))).mono ?_
  rintro e w3 ⟨tb, rfl, hT, hb1, hb2, hF⟩
  have T3 := hide (And.intro hT (And.intro hb1 hb2))
  have F23 := hide hF
  have F3 := hide ((unhide F2).trans hF (fun _ _ h => h))
  have P3 := hide ((unhide P2).fr0 hF)
  have O3 := hide ((unhide O2).fr0 hF)
  clear hT hb1 hb2 hF
  go_wp2_with fail
  refine ((unhide HC).2.1 _ _ _ ((unhide HG).1.fr0 (unhide F3)) ((unhide HG).2.fr0 (unhide F3)) (unhide T3).1 (unhide T3).2.1).mono ?_
  rintro e w4 ⟨rfl, hT, hF⟩
  have hF24 : Fr (fun _ => False) w2 w4 := (unhide F23).trans hF (fun k hk hO => by
    have h2 := (unhide T3).2.2
    rcases hO with rfl | ⟨o, e⟩ | ⟨v, hv, _⟩
    · omega
    · cases e
    · cases hv)
  have F4 := hide ((unhide F2).trans hF24 (fun _ _ h => h))
  have P4 := hide ((unhide P2).fr0 hF24)
  have O4 := hide ((unhide O2).fr0 hF24)
  have T4 := hide hT
  clear hT hF hF24 T3 F3
  go_wp2_with fail
  refine ((unhide HC).2.2.2.2.1 _ _ (unhide T4)).mono ?_
  rintro e w5 ⟨lo, lc, rfl, hO⟩
  have F5 := hide ((unhide F4).trans hO.fr (fun _ _ h => h))
  have P5 := hide ((unhide P4).fr0 hO.fr)
  have O5 := hide ((unhide O4).fr0 hO.fr)
  have L5 := hide (hO.sl (unhide HC).2.2.2.2.2.2.2.2.2)
  clear hO
  go_wp2_with fail
  refine ((unhide HC).2.2.2.1 _ _ _ ((unhide HG).1.fr0 (unhide F5)) ((unhide HG).2.fr0 (unhide F5)) (unhide P5)).mono ?_
  rintro e w6 ⟨ro, rc, rfl, hO⟩
  have F6 := hide ((unhide F5).trans hO.fr (fun _ _ h => h))
  have O6 := hide ((unhide O5).fr0 hO.fr)
  have L6 := hide ((unhide L5).fr0 hO.fr)
  have R6 := hide (hO.sl (unhide HC).2.2.2.2.2.2.2.2.1)
  clear hO
  go_wp2_with fail
  refine (hex_lit ⟨#[53, 100, 99, 57, 100, 97, 55, 57, 97, 55, 48, 54, 53, 57, 97, 57, 97, 100, 53, 53, 57, 99, 98, 55, 48, 49, 100, 101, 100, 57, 97, 50, 97, 98, 57, 100, 56, 50, 51, 97, 97, 100, 50, 102, 52, 57, 54, 48, 99, 102, 101, 51, 55, 48, 101, 102, 102, 52, 54, 48, 52, 51, 50, 56]⟩ rootB _ (by decide) rootB_hex 32 rfl (by decide)).mono ?_
  rintro e w7 ⟨xo, xc, rfl, hS, hF⟩
  have F7 := hide ((unhide F6).trans hF (fun _ _ h => h))
  have O7 := hide ((unhide O6).fr0 hF)
  have L7 := hide ((unhide L6).fr0 hF)
  have R7 := hide (And.intro ((unhide R6).fr0 hF) hS)
  clear hS hF
  go_wp2_with fail
  refine (same_T (unhide R7).1.s (unhide R7).2.s (by decide) (sameB_refl _)).mono ?_
  rintro e w8 ⟨rfl, hF⟩
  have F8 := hide ((unhide F7).trans hF (fun _ _ h => h))
  have O8 := hide ((unhide O7).fr0 hF)
  have L8 := hide ((unhide L7).fr0 hF)
  clear hF R7 R6
  go_wp2_with fail
  refine ((unhide HC).2.2.2.2.2.1 _ ((unhide HG).1.fr0 (unhide F8))).mono ?_
  rintro e w9 ⟨fo, rfl, hO⟩
  have F9 := hide ((unhide F8).trans hO.fr (fun _ _ h => h))
  have O9 := hide ((unhide O8).fr0 hO.fr)
  have L9 := hide ((unhide L8).fr0 hO.fr)
  have hsl := hO.sl (lf_lt 32 [])
  have e32 : (lf 32 []).length = 32 := lf_len 32 (by decide) (by decide) _
  rw [e32] at hsl
  have K9 := hide hsl
  clear hO hsl e32
  go_wp2_with fail
  refine (hex_lit ⟨#[53, 100, 99, 57, 100, 97, 55, 57, 97, 55, 48, 54, 53, 57, 97, 57, 97, 100, 53, 53, 57, 99, 98, 55, 48, 49, 100, 101, 100, 57, 97, 50, 97, 98, 57, 100, 56, 50, 51, 97, 97, 100, 50, 102, 52, 57, 54, 48, 99, 102, 101, 51, 55, 48, 101, 102, 102, 52, 54, 48, 52, 51, 50, 56]⟩ rootB _ (by decide) rootB_hex 32 rfl (by decide)).mono ?_
  rintro e w10 ⟨yo, yc, rfl, hS, hF⟩
  have F10 := hide ((unhide F9).trans hF (fun _ _ h => h))
  have O10 := hide ((unhide O9).fr0 hF)
  have L10 := hide ((unhide L9).fr0 hF)
  have K10 := hide (And.intro ((unhide K9).fr0 hF) hS)
  clear hS hF
  have hpc := (unhide O10).pcs
  have hcp := (unhide O10).cap
  rw [unhide HU] at hpc hcp
  have PC := hide (And.intro hpc hcp)
  clear hpc hcp
  go_wp2_with fail
  refine (checkPath_any 32 0 8 _ _ _ _ _ us BS _ ((unhide HG).1.fr0 (unhide F10)) (unhide K10).1 (unhide K10).2 (unhide PC).1 (fun _ _ _ e => by cases e; exact (unhide PC).2) (by decide) (by rw [(unhide HC).2.2.2.2.2.2.1]; decide)).mono ?_
  rintro e w11 ⟨rfl, hF⟩
  rw [(unhide HC).2.2.2.2.2.2.2.1]
  have F11 := hide ((unhide F10).trans hF (fun _ _ h => h))
  have L11 := hide ((unhide L10).fr0 hF)
  clear hF
  go_wp2_with fail
  refine (hex_lit ⟨#[54, 101, 51, 52, 48, 98, 57, 99, 102, 102, 98, 51, 55, 97, 57, 56, 57, 99, 97, 53, 52, 52, 101, 54, 98, 98, 55, 56, 48, 97, 50, 99, 55, 56, 57, 48, 49, 100, 51, 102, 98, 51, 51, 55, 51, 56, 55, 54, 56, 53, 49, 49, 97, 51, 48, 54, 49, 55, 97, 102, 97, 48, 49, 100]⟩ leafB _ (by decide) leafB_hex 32 rfl (by decide)).mono ?_
  rintro e w12 ⟨zo, zc, rfl, hS, hF⟩
  have F12 := hide ((unhide F11).trans hF (fun _ _ h => h))
  have L12 := hide (And.intro ((unhide L11).fr0 hF) hS)
  clear hS hF
  go_wp2_with fail
  refine (same_T (unhide L12).1.s (unhide L12).2.s (by decide) (sameB_refl _)).mono ?_
  rintro e w13 ⟨rfl, hF⟩
  have F13 := hide ((unhide F12).trans hF (fun _ _ h => h))
  clear hF
  go_wp2_with fail
  go_ret
  exact ⟨rfl, unhide F13⟩
end Go.Proofs.YthamfidjilclpabDoor

