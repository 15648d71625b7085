import Derived.Test.YthamfidjilclpaaDoorPk1
import Derived.Laws.StructEq
namespace Go.Proofs.YthamfidjilclpaaDoor
open Go.RowKit

set_option maxRecDepth 100000 in
theorem troot_in (tb wi : Nat) (hw1 : 1 ≤ wi) (hw32 : wi ≤ 32) (L : List (List Nat)) (n : Nat) (w : World) (hT : Tk w tb wi L) (hn : n ≤ L.length) :
    Calls Tryd.prog 40 #[.pointer (some ⟨tb, 0, none⟩), .int .i64 n] w fun e w' => ∃ yo yc, e = .returned (.tuple #[.slice yo wi yc, .int .i64 0]) ∧ OB w w' yo yc (mth wi (blk L 0 n)) := by
  obtain ⟨c0, c1, htb⟩ := hT.c0
  have hhas : Calls Tryd.prog 55 #[.pointer (some ⟨tb, 0, none⟩), .int .i64 n] w fun e w' => e = .returned (.bool true) ∧ w' = w := by
    have := has_any tb L.length wi n w c0 c1
    rw [decide_eq_true (by omega)] at this
    exact this
  have hroot : ∀ w', Fr (fun _ => False) w w' → RootSays tb wi L 0 n w' := fun w' hf => root_any tb wi hw1 hw32 L n 0 n w' (Nat.le_refl _) (hT.fr0 hf) (al_zero n) (by omega)
  unfold RootSays at hroot
  have HG := hide (And.intro hhas hroot)
  clear hhas hroot hT c0 c1 htb
  go_enter Tryd.func40, Tryd.ntmps40
  go_wp2_with fail
  refine (unhide HG).1.mono ?_
  rintro e w0 ⟨rfl, rfl⟩
  go_wp2_with fail
  refine (first_any _ _ _).mono ?_
  rintro e w1 ⟨rfl, hF1⟩
  have H1 := hide hF1
  clear hF1
  go_wp2_with fail
  refine ((unhide HG).2 w1 (unhide H1)).mono ?_
  rintro e w2 ⟨yo, yc, rfl, hO⟩
  have H2 := hide (hO.base' (unhide H1))
  clear hO
  go_wp2_with fail
  go_returns
  exact ⟨yo, yc, rfl, unhide H2⟩
set_option maxRecDepth 100000 in
theorem troot_no (tb n : Nat) (wi k : Int) (w : World) (c0 : w.cell? ⟨tb, 0, none⟩ = some (.int .i64 wi)) (c1 : w.cell? ⟨tb, 1, none⟩ = some (.int .i64 n)) (h : ¬ (1 ≤ wi ∧ wi ≤ 32 ∧ 0 ≤ k ∧ k ≤ n)) :
    Calls Tryd.prog 40 #[.pointer (some ⟨tb, 0, none⟩), .int .i64 k] w fun e w' => e = .returned (.tuple #[.slice none 0 0, .int .i64 1]) ∧ w' = w := by
  have hhas : Calls Tryd.prog 55 #[.pointer (some ⟨tb, 0, none⟩), .int .i64 k] w fun e w' => e = .returned (.bool false) ∧ w' = w := by
    have := has_any tb n wi k w c0 c1
    rw [decide_eq_false h] at this
    exact this
  have HG := hide hhas
  clear hhas h c0 c1
  go_enter Tryd.func40, Tryd.ntmps40
  go_wp2_with fail
  refine (unhide HG).mono ?_
  rintro e w0 ⟨rfl, rfl⟩
  go_wp2_with fail
  go_returns
  exact ⟨rfl, rfl⟩
/-- A tree of entries. -/
theorem tk_of {w w' : World} {tb wi : Nat} (hw1 : 1 ≤ wi) (hw32 : wi ≤ 32) {es : List (List Nat)} {base : Nat} {xo : Option Addr} {cp : Nat} {vs : List Value} {rs : List (List Nat)} (hT : TrAt w' base tb wi es.length xo cp vs rs) (hR : RowsOf wi (es.map (lf wi)) 0 rs) (hg : GS w) (ht : GT w) (hf : Fr (fun _ => False) w w') (hn : es.length ≤ 8000000) : Tk w' tb wi (es.map (lf wi)) :=
  ⟨⟨base, xo, cp, vs, rs, by rw [List.length_map]; exact hT, hR⟩, hg.fr0 hf, ht.fr0 hf, map_lf_len wi hw1 hw32 es, fun p hp => by
    obtain ⟨e, _, rfl⟩ := List.mem_map.1 hp
    exact lf_lt _ _, by rw [List.length_map]; exact hn⟩
set_option maxRecDepth 100000 in
theorem mroot_in (wi : Nat) (hw1 : 1 ≤ wi) (hw32 : wi ≤ 32) (x : Value) (us : List Value) (es : List (List Nat)) (w : World) (hg : GS w) (ht : GT w) (hp : Pcs w x us es) (hB : ∀ e ∈ es, e.length ≤ 16000000) (hn : es.length ≤ 8000000) :
    Calls Tryd.prog 25 #[.int .i64 wi, x] w fun e w' => ∃ yo yc, e = .returned (.slice yo wi yc) ∧ OB w w' yo yc (mth wi (es.map (lf wi))) := by
  have hgr := grown_in wi hw1 hw32 x us es w hg hp hB hn
  have htr : ∀ w' tb, Tk w' tb wi (es.map (lf wi)) → Calls Tryd.prog 40 #[.pointer (some ⟨tb, 0, none⟩), .int .i64 es.length] w' fun e w'' => ∃ yo yc, e = .returned (.tuple #[.slice yo wi yc, .int .i64 0]) ∧ OB w' w'' yo yc (mth wi (es.map (lf wi))) := fun w' tb hT => by
    have h := troot_in tb wi hw1 hw32 (es.map (lf wi)) es.length w' hT (by rw [List.length_map]; exact Nat.le_refl _)
    have e : blk (es.map (lf wi)) 0 es.length = es.map (lf wi) := by
      have := blk_all (es.map (lf wi)); rwa [List.length_map] at this
    rw [e] at h
    exact h
  obtain ⟨xo, xc, rfl⟩ := hp.form
  have HG := hide (And.intro hgr (And.intro htr (And.intro hg (And.intro ht hn))))
  have HT := hide (fun (w' : World) (tb base : Nat) (xo : Option Addr) (cp : Nat) (vs : List Value) (rs : List (List Nat)) (hT : TrAt w' base tb wi es.length xo cp vs rs) hR hf => tk_of hw1 hw32 hT hR hg ht hf hn)
  clear hgr htr hg ht hp hB
  generalize mth wi (es.map (lf wi)) = M at *
  generalize es.length = N at *
  go_enter Tryd.func25, Tryd.ntmps25
  go_wp2_with fail
  refine (unhide HG).1.mono ?_
  rintro e w1 ⟨rfl, yo, cp, vs, rs, hT, hR, hF⟩
  have hk := (unhide HT) _ _ _ _ _ _ _ hT hR hF
  have H1 := hide (And.intro hk hF)
  clear hk hF hT hR
  generalize w.heap.size = TB at *
  go_wp2_with fail
  refine ((unhide HG).2.1 w1 TB (unhide H1).1).mono ?_
  rintro e w2 ⟨yo, yc, rfl, hO⟩
  have H2 := hide (hO.base' (unhide H1).2)
  clear hO
  go_wp2_with fail
  go_ret
  exact ⟨yo, yc, rfl, unhide H2⟩
set_option maxRecDepth 100000 in
theorem mroot_out (i : Int) (hi : i < 1 ∨ 32 < i) (x : Value) (us : List Value) (es : List (List Nat)) (w : World) (hp : Pcs w x us es) (hn : es.length ≤ 8000000) :
    Calls Tryd.prog 25 #[.int .i64 i, x] w fun e w' => e = .returned (.slice none 0 0) ∧ Fr (fun _ => False) w w' := by
  have hgr := grown_out i hi x us es w hp hn
  have htr : ∀ (w' : World) (tb base : Nat) xo cp vs rs, TrAt w' base tb i es.length xo cp vs rs → Calls Tryd.prog 40 #[.pointer (some ⟨tb, 0, none⟩), .int .i64 es.length] w' fun e w'' => e = .returned (.tuple #[.slice none 0 0, .int .i64 1]) ∧ w'' = w' := fun w' tb base xo cp vs rs hT =>
    troot_no tb es.length i es.length w' hT.cells.1 hT.cells.2.1 (by omega)
  obtain ⟨xo, xc, rfl⟩ := hp.form
  have HG := hide (And.intro hgr htr)
  clear hgr htr hp
  generalize es.length = N at *
  go_enter Tryd.func25, Tryd.ntmps25
  go_wp2_with fail
  refine (unhide HG).1.mono ?_
  rintro e w1 ⟨rfl, hT, hF⟩
  have H1 := hide (And.intro hT hF)
  clear hF hT
  generalize w.heap.size = TB at *
  go_wp2_with fail
  refine ((unhide HG).2 w1 TB _ _ _ _ _ (unhide H1).1).mono ?_
  rintro e w2 ⟨rfl, rfl⟩
  go_wp2_with fail
  go_ret
  exact ⟨rfl, (unhide H1).2⟩
theorem dep_le (m : Nat) : ∀ f n tf tn, n ≤ m → dep f n tf tn ≤ n := by
  induction m with
  | zero => intro f n tf tn h; rw [dep, dif_pos (by omega)]; exact Nat.zero_le _
  | succ m ih =>
    intro f n tf tn h
    by_cases e : (f = tf ∧ n = tn) ∨ n < 2
    · rw [dep, dif_pos e]; exact Nat.zero_le _
    · have hlt := hf_lt n (by omega)
      have hp := hf_pos n
      by_cases hl : tf < f + hf n
      · rw [dep_l (by omega) (by omega) hl]
        have := ih f (hf n) tf tn (by omega)
        omega
      · rw [dep_r (by omega) (by omega) hl]
        have := ih (f + hf n) (n - hf n) tf tn (by omega)
        omega
end Go.Proofs.YthamfidjilclpaaDoor

namespace Go.Proofs.YthamfidjilclpaaDoor
open Go.RowKit

theorem Tryd.guard_span : Tryd.prog.eqGuardType Tryd.prog.depth 69 = false := by kernel_rfl
theorem Tryd.held_span : Tryd.prog.stoodInHeld 69 = false := by kernel_rfl
theorem Tryd.fields_span : Tryd.prog.underlying 69 = some (.struct (Tryd.prog.fieldsOf 69)) := by kernel_rfl
/-- Are two spans the same? -/
theorem eq_span (f n g m : Nat) (w : World) : (binOp .eql 69 (.agg #[.int .i64 f, .int .i64 n]) (.agg #[.int .i64 g, .int .i64 m])).run Tryd.prog w = .ok (.bool (decide (f = g ∧ n = m))) w := by
  rw [run_eql_struct, show (10000 : Nat) = 9999 + 1 from rfl, run_equalIn_agg _ 9999 _ _ _ Tryd.fields_span Tryd.held_span]
  have ig : ((f : Int) == (g : Int)) = decide (f = g) := by
    by_cases h : f = g
    · simp [h]
    · simp [h]; omega
  have im : ((n : Int) == (m : Int)) = decide (n = m) := by
    by_cases h : n = m
    · simp [h]
    · simp [h]; omega
  simp [Program.fieldsOf, Tryd.underlying69, Op.eqFields, go_sem, ig, im]
  by_cases h1 : f = g
  · by_cases h2 : n = m
    · simp [h1, h2]
    · simp [h1, h2]
  · simp [h1]
theorem two2 (w : World) (a0 a1 b0 b1 : Value) (ty : Nat) (W : World) (hW : (w.alloc (.cells #[a0, a1] ty)).alloc (.cells #[b0, b1] ty) = W) :
    W.cell? ⟨w.heap.size, 0, none⟩ = some a0 ∧ W.cell? ⟨w.heap.size, 1, none⟩ = some a1 ∧ W.cell? ⟨w.heap.size + 1, 0, none⟩ = some b0 ∧ W.cell? ⟨w.heap.size + 1, 1, none⟩ = some b1 ∧ Fr (fun _ => False) w W := by
  subst hW
  have e1 : w.heap.size + 1 = (w.alloc (.cells #[a0, a1] ty)).heap.size := by simp
  have A : ∀ j : Nat, ((w.alloc (.cells #[a0, a1] ty)).alloc (.cells #[b0, b1] ty)).cell? ⟨w.heap.size, j, none⟩ = (#[a0, a1] : Array Value)[j]? := fun j => by
    rw [World.cell?_alloc_past _ _ _ (by simp), World.cell?_alloc_at _ _ _ _ rfl]
  have B : ∀ j : Nat, ((w.alloc (.cells #[a0, a1] ty)).alloc (.cells #[b0, b1] ty)).cell? ⟨w.heap.size + 1, j, none⟩ = (#[b0, b1] : Array Value)[j]? := fun j => by
    rw [e1, World.cell?_alloc_at _ _ _ _ rfl]
  exact ⟨A 0, A 1, B 0, B 1, ((Fr.refl _ _).alloc _).alloc _⟩
def DepSays (f n tf tn : Nat) (w : World) : Prop := Calls Tryd.prog 83 #[sv f n, sv tf tn] w fun e w' => e = .returned (.int .i64 (dep f n tf tn : Nat)) ∧ Fr (fun _ => False) w w'
set_option maxRecDepth 100000 in
set_option maxHeartbeats 1000000 in
theorem depth_any (m : Nat) : ∀ (f n tf tn : Nat) (w : World), n ≤ m → f + n < 9223372036854775808 → Rch f n tf tn → DepSays f n tf tn w := by
  induction m with
  | zero =>
    intro f n tf tn w hm hb hr
    by_cases e : f = tf ∧ n = tn
    · obtain ⟨rfl, rfl⟩ := e
      unfold DepSays sv
      rw [dep_eq]
      have eqs := fun w => eq_span f n f n w
      simp only [decide_true, and_self] at eqs
      have eg := Tryd.guard_span
      go_enter Tryd.func83, Tryd.ntmps83
      go_wp2_with fail
      go_ret
      exact ⟨rfl, ((Fr.refl _ _).alloc _).alloc _⟩
    · have := (rch_ne hr e).1; omega
  | succ m ih =>
    intro f n tf tn w hm hb hr
    by_cases e : f = tf ∧ n = tn
    · obtain ⟨rfl, rfl⟩ := e
      unfold DepSays sv
      rw [dep_eq]
      have eqs := fun w => eq_span f n f n w
      simp only [decide_true, and_self] at eqs
      have eg := Tryd.guard_span
      go_enter Tryd.func83, Tryd.ntmps83
      go_wp2_with fail
      go_ret
      exact ⟨rfl, ((Fr.refl _ _).alloc _).alloc _⟩
    · obtain ⟨h2, r1, r2⟩ := rch_ne hr e
      have hlt := hf_lt n h2
      have hp := hf_pos n
      have eqs := fun w => eq_span f n tf tn w
      rw [decide_eq_false e] at eqs
      have eg := Tryd.guard_span
      have hhv := fun w => halves_any f n w hb h2
      have hbf := fun w => before_any tf tn (f + hf n) (n - hf n) w
      by_cases hl : tf < f + hf n
      · rw [decide_eq_true hl] at hbf
        have hrec := fun w => ih f (hf n) tf tn w (by omega) (by omega) (r1 hl)
        have hdl := dep_le _ f (hf n) tf tn (Nat.le_refl _)
        unfold DepSays at hrec ⊢
        rw [dep_l h2 e hl]
        generalize dep f (hf n) tf tn = D at *
        have w1 : IntKind.i64.wrap (1 + (D : Int)) = 1 + (D : Int) := by rw [IntKind.wrap_i64]; omega
        have hD : ((D + 1 : Nat) : Int) = 1 + (D : Int) := by omega
        rw [hD]
        clear hD hdl
        generalize f + hf n = F2 at *
        generalize n - hf n = N2 at *
        generalize hf n = K at *
        have HC := hide (And.intro hhv (And.intro hbf hrec))
        clear hhv hbf hrec r1 r2 hr ih hlt hp hl hb hm h2 e
        unfold sv at HC ⊢
        go_enter Tryd.func83, Tryd.ntmps83
        go_wp2_with fail
        obtain ⟨W0, hW0⟩ : ∃ W0, (w.alloc (.cells #[.int .i64 f, .int .i64 n] 69)).alloc (.cells #[.int .i64 tf, .int .i64 tn] 69) = W0 := ⟨_, rfl⟩
        rw [hW0]
        obtain ⟨-, -, b0, b1, hF0⟩ := two2 w _ _ _ _ _ W0 hW0
        refine ((unhide HC).1 _).mono ?_
        rintro e' wA ⟨rfl, hFA⟩
        have c0 := (hFA.cell (lt_of_cell b0) (fun h => h)).trans b0
        have c1 := (hFA.cell (lt_of_cell b1) (fun h => h)).trans b1
        have HF := hide (hF0.trans hFA (fun _ _ h => h))
        clear hFA hF0 b0 b1 hW0
        generalize w.heap.size + 1 = PB at *
        have l0 : PB < wA.heap.size := lt_of_cell c0
        have l1 : PB < wA.heap.size + 1 := Nat.lt_succ_of_lt l0
        go_wp2_with fail
        obtain ⟨W1, hW1⟩ : ∃ W1, (wA.alloc (.cells #[.int .i64 f, .int .i64 K] 69)).alloc (.cells #[.int .i64 F2, .int .i64 N2] 69) = W1 := ⟨_, rfl⟩
        rw [hW1]
        obtain ⟨x0, x1, y0, y1, hF1⟩ := two2 wA _ _ _ _ _ W1 hW1
        refine ((unhide HC).2.1 _).mono ?_
        rintro e' wB ⟨rfl, hFB⟩
        have hF1B := hF1.trans hFB (fun _ _ h => h)
        have d0 := (hF1B.cell (lt_of_cell c0) (fun h => h)).trans c0
        have d1 := (hF1B.cell (lt_of_cell c1) (fun h => h)).trans c1
        have z0 := (hFB.cell (lt_of_cell x0) (fun h => h)).trans x0
        have z1 := (hFB.cell (lt_of_cell x1) (fun h => h)).trans x1
        have HF2 := hide ((unhide HF).trans hF1B (fun _ _ h => h))
        clear hF1 hFB hF1B hW1 x0 x1 y0 y1 c0 c1 HF
        generalize wA.heap.size = Z at *
        go_wp2_with fail
        refine ((unhide HC).2.2 _).mono ?_
        rintro e' wC ⟨rfl, hFC⟩
        have HF3 := hide ((unhide HF2).trans hFC (fun _ _ h => h))
        clear hFC
        go_wp2_with fail
        go_ret
        exact ⟨rfl, unhide HF3⟩
      · rw [decide_eq_false hl] at hbf
        have hrec := fun w => ih (f + hf n) (n - hf n) tf tn w (by omega) (by omega) (r2 hl)
        have hdl := dep_le _ (f + hf n) (n - hf n) tf tn (Nat.le_refl _)
        unfold DepSays at hrec ⊢
        rw [dep_r h2 e hl]
        generalize dep (f + hf n) (n - hf n) tf tn = D at *
        have w1 : IntKind.i64.wrap (1 + (D : Int)) = 1 + (D : Int) := by rw [IntKind.wrap_i64]; omega
        have hD : ((D + 1 : Nat) : Int) = 1 + (D : Int) := by omega
        rw [hD]
        clear hD hdl
        generalize f + hf n = F2 at *
        generalize n - hf n = N2 at *
        generalize hf n = K at *
        have HC := hide (And.intro hhv (And.intro hbf hrec))
        clear hhv hbf hrec r1 r2 hr ih hlt hp hl hb hm h2 e
        unfold sv at HC ⊢
        go_enter Tryd.func83, Tryd.ntmps83
        go_wp2_with fail
        obtain ⟨W0, hW0⟩ : ∃ W0, (w.alloc (.cells #[.int .i64 f, .int .i64 n] 69)).alloc (.cells #[.int .i64 tf, .int .i64 tn] 69) = W0 := ⟨_, rfl⟩
        rw [hW0]
        obtain ⟨-, -, b0, b1, hF0⟩ := two2 w _ _ _ _ _ W0 hW0
        refine ((unhide HC).1 _).mono ?_
        rintro e' wA ⟨rfl, hFA⟩
        have c0 := (hFA.cell (lt_of_cell b0) (fun h => h)).trans b0
        have c1 := (hFA.cell (lt_of_cell b1) (fun h => h)).trans b1
        have HF := hide (hF0.trans hFA (fun _ _ h => h))
        clear hFA hF0 b0 b1 hW0
        generalize w.heap.size + 1 = PB at *
        have l0 : PB < wA.heap.size := lt_of_cell c0
        have l1 : PB < wA.heap.size + 1 := Nat.lt_succ_of_lt l0
        go_wp2_with fail
        obtain ⟨W1, hW1⟩ : ∃ W1, (wA.alloc (.cells #[.int .i64 f, .int .i64 K] 69)).alloc (.cells #[.int .i64 F2, .int .i64 N2] 69) = W1 := ⟨_, rfl⟩
        rw [hW1]
        obtain ⟨x0, x1, y0, y1, hF1⟩ := two2 wA _ _ _ _ _ W1 hW1
        refine ((unhide HC).2.1 _).mono ?_
        rintro e' wB ⟨rfl, hFB⟩
        have hF1B := hF1.trans hFB (fun _ _ h => h)
        have d0 := (hF1B.cell (lt_of_cell c0) (fun h => h)).trans c0
        have d1 := (hF1B.cell (lt_of_cell c1) (fun h => h)).trans c1
        have z0 := (hFB.cell (lt_of_cell y0) (fun h => h)).trans y0
        have z1 := (hFB.cell (lt_of_cell y1) (fun h => h)).trans y1
        have HF2 := hide ((unhide HF).trans hF1B (fun _ _ h => h))
        clear hF1 hFB hF1B hW1 x0 x1 y0 y1 c0 c1 HF
        generalize wA.heap.size + 1 = Z at *
        go_wp2_with fail
        refine ((unhide HC).2.2 _).mono ?_
        rintro e' wC ⟨rfl, hFC⟩
        have HF3 := hide ((unhide HF2).trans hFC (fun _ _ h => h))
        clear hFC
        go_wp2_with fail
        go_ret
        exact ⟨rfl, unhide HF3⟩
end Go.Proofs.YthamfidjilclpaaDoor

namespace Go.Proofs.YthamfidjilclpaaDoor
open Go.RowKit

/-- A claim. -/
def cv (wi tf tn : Nat) (rv x : Value) : Value := .agg #[.int .i64 wi, .int .i64 tf, .int .i64 tn, rv, x]
theorem box52 (w : World) (a0 a1 a2 a3 a4 b0 b1 : Value) (ta tb : Nat) (W : World) (hW : (w.alloc (.cells #[a0, a1, a2, a3, a4] ta)).alloc (.cells #[b0, b1] tb) = W) :
    (W.cell? ⟨w.heap.size, 0, none⟩ = some a0 ∧ W.cell? ⟨w.heap.size, 1, none⟩ = some a1 ∧ W.cell? ⟨w.heap.size, 2, none⟩ = some a2 ∧ W.cell? ⟨w.heap.size, 3, none⟩ = some a3 ∧ W.cell? ⟨w.heap.size, 4, none⟩ = some a4) ∧ W.cell? ⟨w.heap.size + 1, 0, none⟩ = some b0 ∧ W.cell? ⟨w.heap.size + 1, 1, none⟩ = some b1 ∧ Fr (fun _ => False) w W := by
  subst hW
  have e1 : w.heap.size + 1 = (w.alloc (.cells #[a0, a1, a2, a3, a4] ta)).heap.size := by simp
  have A : ∀ j : Nat, ((w.alloc (.cells #[a0, a1, a2, a3, a4] ta)).alloc (.cells #[b0, b1] tb)).cell? ⟨w.heap.size, j, none⟩ = (#[a0, a1, a2, a3, a4] : Array Value)[j]? := fun j => by
    rw [World.cell?_alloc_past _ _ _ (by simp), World.cell?_alloc_at _ _ _ _ rfl]
  have B : ∀ j : Nat, ((w.alloc (.cells #[a0, a1, a2, a3, a4] ta)).alloc (.cells #[b0, b1] tb)).cell? ⟨w.heap.size + 1, j, none⟩ = (#[b0, b1] : Array Value)[j]? := fun j => by
    rw [e1, World.cell?_alloc_at _ _ _ _ rfl]
  exact ⟨⟨A 0, A 1, A 2, A 3, A 4⟩, B 0, B 1, ((Fr.refl _ _).alloc _).alloc _⟩
theorem box5 (w : World) (a0 a1 a2 a3 a4 : Value) (ta : Nat) (W : World) (hW : w.alloc (.cells #[a0, a1, a2, a3, a4] ta) = W) :
    (W.cell? ⟨w.heap.size, 0, none⟩ = some a0 ∧ W.cell? ⟨w.heap.size, 1, none⟩ = some a1 ∧ W.cell? ⟨w.heap.size, 2, none⟩ = some a2 ∧ W.cell? ⟨w.heap.size, 3, none⟩ = some a3 ∧ W.cell? ⟨w.heap.size, 4, none⟩ = some a4) ∧ Fr (fun _ => False) w W := by
  subst hW
  have A : ∀ j : Nat, (w.alloc (.cells #[a0, a1, a2, a3, a4] ta)).cell? ⟨w.heap.size, j, none⟩ = (#[a0, a1, a2, a3, a4] : Array Value)[j]? := fun j => by
    rw [World.cell?_alloc_at _ _ _ _ rfl]
  exact ⟨⟨A 0, A 1, A 2, A 3, A 4⟩, (Fr.refl _ _).alloc _⟩
set_option maxRecDepth 100000 in
set_option maxHeartbeats 1000000 in
theorem inner_any (wi tf tn N xc g o : Nat) (ro : Option Addr) (rn rc : Nat) (v : Value) (w : World) (hc : w.cell? ⟨g, o + N, none⟩ = some v) (hcp : N + 1 ≤ xc) (hN : N < 9223372036854775807) (hv : ∃ a n c, v = .slice a n c) :
    Calls Tryd.prog 96 #[cv wi tf tn (.slice ro rn rc) (.slice (some ⟨g, o, none⟩) (N + 1) xc)] w fun e w' => e = .returned (.tuple #[cv wi tf tn (.slice ro rn rc) (.slice (some ⟨g, o, none⟩) N xc), v]) ∧ Fr (fun _ => False) w w' := by
  obtain ⟨a, n, c, rfl⟩ := hv
  unfold cv
  have w1 : IntKind.i64.wrap ((N : Int) + 1 - 1) = (N : Int) := by rw [IntKind.wrap_i64]; omega
  have hgl : g < w.heap.size := lt_of_cell hc
  have hgl1 : g < w.heap.size + 1 := Nat.lt_succ_of_lt hgl
  have q1 : (N : Int) < (N : Int) + 1 := by omega
  have q2 : (N : Int) ≤ (xc : Int) := by omega
  go_enter Tryd.func96, Tryd.ntmps96
  go_wp2_with fail
  go_returns
  exact ⟨rfl, ((Fr.refl _ _).alloc _).alloc _⟩
set_option maxRecDepth 100000 in
set_option maxHeartbeats 1000000 in
theorem sides_l (wi tf tn f n N xc g o : Nat) (ro : Option Addr) (rn rc : Nat) (v : Value) (w : World) (hc : w.cell? ⟨g, o + N, none⟩ = some v) (hcp : N + 1 ≤ xc) (hN : N < 9223372036854775807) (hv : ∃ a n c, v = .slice a n c) (h2 : 2 ≤ n) (hb : f + n < 9223372036854775808) (hl : tf < f + hf n) (M : List Nat)
    (ht : ∀ w', Fr (fun _ => False) w w' → Calls Tryd.prog 53 #[cv wi tf tn (.slice ro rn rc) (.slice (some ⟨g, o, none⟩) N xc), sv f (hf n)] w' fun e w'' => ∃ uo un uc, e = .returned (.slice uo un uc) ∧ Sl w'' (.slice uo un uc) M ∧ Fr (fun _ => False) w' w'') :
    Calls Tryd.prog 84 #[cv wi tf tn (.slice ro rn rc) (.slice (some ⟨g, o, none⟩) (N + 1) xc), sv f n] w fun e w' => ∃ uo un uc, e = .returned (.tuple #[.slice uo un uc, v]) ∧ Sl w' (.slice uo un uc) M ∧ Fr (fun _ => False) w w' := by
  obtain ⟨va, vn, vc, rfl⟩ := hv
  have hin := fun (w' : World) (hf : Fr (fun _ => False) w w') => inner_any wi tf tn N xc g o ro rn rc (.slice va vn vc) w' ((hf.cell (lt_of_cell hc) (fun h => h)).trans hc) hcp hN ⟨_, _, _, rfl⟩
  have hhv := fun w => halves_any f n w hb h2
  have hbf := fun w => before_any tf tn (f + hf n) (n - hf n) w
  rw [decide_eq_true hl] at hbf
  clear hl hc hcp hN hb h2
  generalize f + hf n = F2 at *
  generalize n - hf n = N2 at *
  generalize hf n = K at *
  have HC := hide (And.intro hhv (And.intro hbf (And.intro hin ht)))
  clear hhv hbf hin ht
  unfold sv cv at *
  go_enter Tryd.func84, Tryd.ntmps84
  go_wp2_with fail
  obtain ⟨W0, hW0⟩ : ∃ W0, (w.alloc (.cells #[.int .i64 wi, .int .i64 tf, .int .i64 tn, .slice ro rn rc, .slice (some ⟨g, o, none⟩) (N + 1) xc] 71)).alloc (.cells #[.int .i64 f, .int .i64 n] 69) = W0 := ⟨_, rfl⟩
  rw [hW0]
  obtain ⟨⟨a0, a1, a2, a3, a4⟩, -, -, hF0⟩ := box52 w _ _ _ _ _ _ _ _ _ W0 hW0
  refine ((unhide HC).1 _).mono ?_
  rintro e' wA ⟨rfl, hFA⟩
  have b0 := (hFA.cell (lt_of_cell a0) (fun h => h)).trans a0
  have b1 := (hFA.cell (lt_of_cell a1) (fun h => h)).trans a1
  have b2 := (hFA.cell (lt_of_cell a2) (fun h => h)).trans a2
  have b3 := (hFA.cell (lt_of_cell a3) (fun h => h)).trans a3
  have b4 := (hFA.cell (lt_of_cell a4) (fun h => h)).trans a4
  have HF := hide (hF0.trans hFA (fun _ _ h => h))
  clear hFA hF0 a0 a1 a2 a3 a4 hW0
  generalize w.heap.size = P at *
  have l0 : P < wA.heap.size := lt_of_cell b0
  have l1 : P < wA.heap.size + 1 := Nat.lt_succ_of_lt l0
  go_wp2_with fail
  obtain ⟨W1, hW1⟩ : ∃ W1, (wA.alloc (.cells #[.int .i64 f, .int .i64 K] 69)).alloc (.cells #[.int .i64 F2, .int .i64 N2] 69) = W1 := ⟨_, rfl⟩
  rw [hW1]
  obtain ⟨x0, x1, y0, y1, hF1⟩ := two2 wA _ _ _ _ _ W1 hW1
  refine ((unhide HC).2.2.1 _ ((unhide HF).trans hF1 (fun _ _ h => h))).mono ?_
  rintro e' wB ⟨rfl, hFB⟩
  have hF1B := hF1.trans hFB (fun _ _ h => h)
  have c1 := (hF1B.cell (lt_of_cell b1) (fun h => h)).trans b1
  have c2 := (hF1B.cell (lt_of_cell b2) (fun h => h)).trans b2
  have u0 := (hFB.cell (lt_of_cell x0) (fun h => h)).trans x0
  have u1 := (hFB.cell (lt_of_cell x1) (fun h => h)).trans x1
  have v0 := (hFB.cell (lt_of_cell y0) (fun h => h)).trans y0
  have v1 := (hFB.cell (lt_of_cell y1) (fun h => h)).trans y1
  have HF2 := hide ((unhide HF).trans hF1B (fun _ _ h => h))
  clear hF1 hFB hF1B hW1 x0 x1 y0 y1 b0 b1 b2 b3 b4 HF l0 l1
  generalize wA.heap.size = Z at *
  have k0 : P < wB.heap.size := lt_of_cell c1
  have k1 : Z < wB.heap.size := lt_of_cell u0
  have k2 : Z + 1 < wB.heap.size := lt_of_cell v0
  go_wp2_with fail
  obtain ⟨W2, hW2⟩ : ∃ W2, wB.alloc (.cells #[.int .i64 wi, .int .i64 tf, .int .i64 tn, .slice ro rn rc, .slice (some ⟨g, o, none⟩) N xc] 71) = W2 := ⟨_, rfl⟩
  rw [hW2]
  obtain ⟨⟨p0, p1, p2, p3, p4⟩, hF3⟩ := box5 wB _ _ _ _ _ _ W2 hW2
  refine ((unhide HC).2.1 _).mono ?_
  rintro e' wC ⟨rfl, hFC⟩
  have hF3C := hF3.trans hFC (fun _ _ h => h)
  have q0 := (hFC.cell (lt_of_cell p0) (fun h => h)).trans p0
  have q1 := (hFC.cell (lt_of_cell p1) (fun h => h)).trans p1
  have q2 := (hFC.cell (lt_of_cell p2) (fun h => h)).trans p2
  have q3 := (hFC.cell (lt_of_cell p3) (fun h => h)).trans p3
  have q4 := (hFC.cell (lt_of_cell p4) (fun h => h)).trans p4
  have m0 := (hF3C.cell (lt_of_cell u0) (fun h => h)).trans u0
  have m1 := (hF3C.cell (lt_of_cell u1) (fun h => h)).trans u1
  have HF4 := hide ((unhide HF2).trans hF3C (fun _ _ h => h))
  clear hF3 hFC hF3C hW2 p0 p1 p2 p3 p4 HF2 u0 u1 v0 v1 c1 c2 k0 k1 k2
  generalize wB.heap.size = Y at *
  go_wp2_with fail
  refine ((unhide HC).2.2.2 _ (unhide HF4)).mono ?_
  rintro e' wD ⟨uo, un, uc, rfl, hS, hFD⟩
  have HD := hide (And.intro hS ((unhide HF4).trans hFD (fun _ _ h => h)))
  clear hS hFD
  go_wp2_with fail
  go_returns
  exact ⟨uo, un, uc, rfl, (unhide HD).1, (unhide HD).2⟩
set_option maxRecDepth 100000 in
set_option maxHeartbeats 1000000 in
theorem sides_r (wi tf tn f n N xc g o : Nat) (ro : Option Addr) (rn rc : Nat) (v : Value) (w : World) (hc : w.cell? ⟨g, o + N, none⟩ = some v) (hcp : N + 1 ≤ xc) (hN : N < 9223372036854775807) (hv : ∃ a n c, v = .slice a n c) (h2 : 2 ≤ n) (hb : f + n < 9223372036854775808) (hl : ¬ tf < f + hf n) (M : List Nat)
    (ht : ∀ w', Fr (fun _ => False) w w' → Calls Tryd.prog 53 #[cv wi tf tn (.slice ro rn rc) (.slice (some ⟨g, o, none⟩) N xc), sv (f + hf n) (n - hf n)] w' fun e w'' => ∃ uo un uc, e = .returned (.slice uo un uc) ∧ Sl w'' (.slice uo un uc) M ∧ Fr (fun _ => False) w' w'') :
    Calls Tryd.prog 84 #[cv wi tf tn (.slice ro rn rc) (.slice (some ⟨g, o, none⟩) (N + 1) xc), sv f n] w fun e w' => ∃ uo un uc, e = .returned (.tuple #[v, .slice uo un uc]) ∧ Sl w' (.slice uo un uc) M ∧ Fr (fun _ => False) w w' := by
  obtain ⟨va, vn, vc, rfl⟩ := hv
  have hin := fun (w' : World) (hf : Fr (fun _ => False) w w') => inner_any wi tf tn N xc g o ro rn rc (.slice va vn vc) w' ((hf.cell (lt_of_cell hc) (fun h => h)).trans hc) hcp hN ⟨_, _, _, rfl⟩
  have hhv := fun w => halves_any f n w hb h2
  have hbf := fun w => before_any tf tn (f + hf n) (n - hf n) w
  rw [decide_eq_false hl] at hbf
  clear hl hc hcp hN hb h2
  generalize f + hf n = F2 at *
  generalize n - hf n = N2 at *
  generalize hf n = K at *
  have HC := hide (And.intro hhv (And.intro hbf (And.intro hin ht)))
  clear hhv hbf hin ht
  unfold sv cv at *
  go_enter Tryd.func84, Tryd.ntmps84
  go_wp2_with fail
  obtain ⟨W0, hW0⟩ : ∃ W0, (w.alloc (.cells #[.int .i64 wi, .int .i64 tf, .int .i64 tn, .slice ro rn rc, .slice (some ⟨g, o, none⟩) (N + 1) xc] 71)).alloc (.cells #[.int .i64 f, .int .i64 n] 69) = W0 := ⟨_, rfl⟩
  rw [hW0]
  obtain ⟨⟨a0, a1, a2, a3, a4⟩, -, -, hF0⟩ := box52 w _ _ _ _ _ _ _ _ _ W0 hW0
  refine ((unhide HC).1 _).mono ?_
  rintro e' wA ⟨rfl, hFA⟩
  have b0 := (hFA.cell (lt_of_cell a0) (fun h => h)).trans a0
  have b1 := (hFA.cell (lt_of_cell a1) (fun h => h)).trans a1
  have b2 := (hFA.cell (lt_of_cell a2) (fun h => h)).trans a2
  have b3 := (hFA.cell (lt_of_cell a3) (fun h => h)).trans a3
  have b4 := (hFA.cell (lt_of_cell a4) (fun h => h)).trans a4
  have HF := hide (hF0.trans hFA (fun _ _ h => h))
  clear hFA hF0 a0 a1 a2 a3 a4 hW0
  generalize w.heap.size = P at *
  have l0 : P < wA.heap.size := lt_of_cell b0
  have l1 : P < wA.heap.size + 1 := Nat.lt_succ_of_lt l0
  go_wp2_with fail
  obtain ⟨W1, hW1⟩ : ∃ W1, (wA.alloc (.cells #[.int .i64 f, .int .i64 K] 69)).alloc (.cells #[.int .i64 F2, .int .i64 N2] 69) = W1 := ⟨_, rfl⟩
  rw [hW1]
  obtain ⟨x0, x1, y0, y1, hF1⟩ := two2 wA _ _ _ _ _ W1 hW1
  refine ((unhide HC).2.2.1 _ ((unhide HF).trans hF1 (fun _ _ h => h))).mono ?_
  rintro e' wB ⟨rfl, hFB⟩
  have hF1B := hF1.trans hFB (fun _ _ h => h)
  have c1 := (hF1B.cell (lt_of_cell b1) (fun h => h)).trans b1
  have c2 := (hF1B.cell (lt_of_cell b2) (fun h => h)).trans b2
  have u0 := (hFB.cell (lt_of_cell x0) (fun h => h)).trans x0
  have u1 := (hFB.cell (lt_of_cell x1) (fun h => h)).trans x1
  have v0 := (hFB.cell (lt_of_cell y0) (fun h => h)).trans y0
  have v1 := (hFB.cell (lt_of_cell y1) (fun h => h)).trans y1
  have HF2 := hide ((unhide HF).trans hF1B (fun _ _ h => h))
  clear hF1 hFB hF1B hW1 x0 x1 y0 y1 b0 b1 b2 b3 b4 HF l0 l1
  generalize wA.heap.size = Z at *
  have k0 : P < wB.heap.size := lt_of_cell c1
  have k1 : Z < wB.heap.size := lt_of_cell u0
  have k2 : Z + 1 < wB.heap.size := lt_of_cell v0
  go_wp2_with fail
  obtain ⟨W2, hW2⟩ : ∃ W2, wB.alloc (.cells #[.int .i64 wi, .int .i64 tf, .int .i64 tn, .slice ro rn rc, .slice (some ⟨g, o, none⟩) N xc] 71) = W2 := ⟨_, rfl⟩
  rw [hW2]
  obtain ⟨⟨p0, p1, p2, p3, p4⟩, hF3⟩ := box5 wB _ _ _ _ _ _ W2 hW2
  refine ((unhide HC).2.1 _).mono ?_
  rintro e' wC ⟨rfl, hFC⟩
  have hF3C := hF3.trans hFC (fun _ _ h => h)
  have q0 := (hFC.cell (lt_of_cell p0) (fun h => h)).trans p0
  have q1 := (hFC.cell (lt_of_cell p1) (fun h => h)).trans p1
  have q2 := (hFC.cell (lt_of_cell p2) (fun h => h)).trans p2
  have q3 := (hFC.cell (lt_of_cell p3) (fun h => h)).trans p3
  have q4 := (hFC.cell (lt_of_cell p4) (fun h => h)).trans p4
  have m0 := (hF3C.cell (lt_of_cell v0) (fun h => h)).trans v0
  have m1 := (hF3C.cell (lt_of_cell v1) (fun h => h)).trans v1
  have HF4 := hide ((unhide HF2).trans hF3C (fun _ _ h => h))
  clear hF3 hFC hF3C hW2 p0 p1 p2 p3 p4 HF2 u0 u1 v0 v1 c1 c2 k0 k1 k2
  generalize wB.heap.size = Y at *
  go_wp2_with fail
  refine ((unhide HC).2.2.2 _ (unhide HF4)).mono ?_
  rintro e' wD ⟨uo, un, uc, rfl, hS, hFD⟩
  have HD := hide (And.intro hS ((unhide HF4).trans hFD (fun _ _ h => h)))
  clear hS hFD
  go_wp2_with fail
  go_returns
  exact ⟨uo, un, uc, rfl, (unhide HD).1, (unhide HD).2⟩
end Go.Proofs.YthamfidjilclpaaDoor

namespace Go.Proofs.YthamfidjilclpaaDoor
open Go.RowKit

theorem topv_wid (wi : Nat) (hw1 : 1 ≤ wi) (hw32 : wi ≤ 32) (r : List Nat) (hr : r.length = wi) (m : Nat) : ∀ f n tf tn (ps : List (List Nat)), n ≤ m → (topv wi r f n tf tn ps).length = wi := by
  intro f n tf tn ps _
  by_cases e : (f = tf ∧ n = tn) ∨ n < 2
  · rw [topv, dif_pos e]; exact hr
  · by_cases hl : tf < f + hf n
    · rw [topv_l (by omega) (by omega) hl]; exact nd_len wi hw1 hw32 _ _
    · rw [topv_r (by omega) (by omega) hl]; exact nd_len wi hw1 hw32 _ _
theorem getLastD_at (ps : List (List Nat)) (D : Nat) (h : ps.length = D + 1) : ps.getLastD [] = ps[D]'(by omega) := by
  have e : ps.length - 1 = D := by omega
  rw [List.getLastD_eq_getLast?, List.getLast?_eq_getElem?, e, List.getElem?_eq_getElem (by omega)]; rfl
set_option maxRecDepth 100000 in
set_option maxHeartbeats 2000000 in
/-- The root of a span as it comes out of a claim. -/
theorem top_any (wi : Nat) (hw1 : 1 ≤ wi) (hw32 : wi ≤ 32) (m : Nat) : ∀ (f n tf tn : Nat) (w : World) (ro : Option Addr) (rn rc : Nat) (r : List Nat) (x : Value) (vs : List Value) (ps : List (List Nat)), n ≤ m → f + n < 9223372036854775808 → Rch f n tf tn → GS w → Sl w (.slice ro rn rc) r → r.length = wi → Pcs w x vs ps → Cp x → ps.length = dep f n tf tn → (∀ p ∈ ps, p.length = wi) →
    Calls Tryd.prog 53 #[cv wi tf tn (.slice ro rn rc) x, sv f n] w fun e w' => ∃ uo un uc, e = .returned (.slice uo un uc) ∧ Sl w' (.slice uo un uc) (topv wi r f n tf tn ps) ∧ Fr (fun _ => False) w w' := by
  induction m with
  | zero =>
    intro f n tf tn w ro rn rc r x vs ps hm hb hr hg hs hrw hp hcx hpd hpw
    by_cases e : f = tf ∧ n = tn
    · obtain ⟨rfl, rfl⟩ := e
      rw [topv_eq]
      have eqs := fun w => eq_span f n f n w
      simp only [decide_true, and_self] at eqs
      have eg := Tryd.guard_span
      obtain ⟨xo, xc, rfl⟩ := hp.form
      have HS := hide hs
      clear hs hg hp hcx hpd hpw hrw
      generalize ps.length = N at *
      unfold sv cv
      go_enter Tryd.func53, Tryd.ntmps53
      go_wp2_with fail
      go_ret
      exact ⟨ro, rn, rc, rfl, (unhide HS).fr0 (((Fr.refl _ _).alloc _).alloc _), ((Fr.refl _ _).alloc _).alloc _⟩
    · have := (rch_ne hr e).1; omega
  | succ m ih =>
    intro f n tf tn w ro rn rc r x vs ps hm hb hr hg hs hrw hp hcx hpd hpw
    by_cases e : f = tf ∧ n = tn
    · obtain ⟨rfl, rfl⟩ := e
      rw [topv_eq]
      have eqs := fun w => eq_span f n f n w
      simp only [decide_true, and_self] at eqs
      have eg := Tryd.guard_span
      obtain ⟨xo, xc, rfl⟩ := hp.form
      have HS := hide hs
      clear hs hg hp hcx hpd hpw hrw
      generalize ps.length = N at *
      unfold sv cv
      go_enter Tryd.func53, Tryd.ntmps53
      go_wp2_with fail
      go_ret
      exact ⟨ro, rn, rc, rfl, (unhide HS).fr0 (((Fr.refl _ _).alloc _).alloc _), ((Fr.refl _ _).alloc _).alloc _⟩
    · obtain ⟨h2, r1, r2⟩ := rch_ne hr e
      have hlt := hf_lt n h2
      have hpos := hf_pos n
      have eqs := fun w => eq_span f n tf tn w
      rw [decide_eq_false e] at eqs
      have eg := Tryd.guard_span
      by_cases hl : tf < f + hf n
      · have hdp := dep_l h2 e hl
        obtain ⟨D, hD⟩ : ∃ D, dep f (hf n) tf tn = D := ⟨_, rfl⟩
        rw [hD] at hdp
        have hlen : ps.length = D + 1 := by rw [hpd, hdp]
        obtain ⟨xo, xc, rfl⟩ := hp.form
        rw [hlen] at hp hcx ⊢
        obtain ⟨g, o, v, rfl, hcell, -⟩ := hp.cell (Fr.refl _ _) D (by omega)
        have hDb : D ≤ n := by rw [← hD]; have := dep_le _ f (hf n) tf tn (Nat.le_refl _); omega
        have hDc : D < 9223372036854775807 := by have h1 := dep_le _ f n tf tn (Nat.le_refl _); omega
        have hcap : D + 1 ≤ xc := hcx _ _ _ rfl
        have hvD : vs[D]? = some v := by
          have hvl : D < vs.length := by rw [hp.len]; omega
          rcases hp.at_ with ⟨e', _⟩ | ⟨_, _, e', _⟩ | ⟨g', o', c', e', _, hc'⟩
          · simp at e'
          · simp at e'
          · simp only [Value.slice.injEq, Option.some.injEq, Addr.mk.injEq, and_true] at e'
            obtain ⟨⟨rfl, rfl⟩, _⟩ := e'
            have h1 := hc' D _ (List.getElem?_eq_getElem hvl)
            rw [h1] at hcell
            rw [List.getElem?_eq_getElem hvl, Option.some.inj hcell]
        have hsv : Sl w v ps[D] := hp.sl D v _ hvD (List.getElem?_eq_getElem (by omega))
        have hdl : ps.dropLast = ps.take D := by rw [List.dropLast_eq_take, hlen]; rfl
        have hgl : ps.getLastD [] = ps[D] := getLastD_at ps D hlen
        have hp' := hp.take D (by omega)
        have htop : ∀ w', Fr (fun _ => False) w w' → _ := fun w' hf' => ih f (hf n) tf tn w' ro rn rc r _ _ (ps.take D) (by omega) (by omega) (r1 hl) (hg.fr0 hf') (hs.fr0 hf') hrw (hp'.fr0 hf') (fun _ _ _ e => by cases e; omega) (by rw [List.length_take]; omega) (fun p hp => hpw p (List.mem_of_mem_take hp))
        rw [topv_l h2 e hl, hdl, hgl]
        have hTw := topv_wid wi hw1 hw32 r hrw _ f (hf n) tf tn (ps.take D) (Nat.le_refl _)
        have hAw := hpw ps[D] (List.getElem_mem _)
        obtain ⟨va, vn, vc, rfl⟩ : ∃ a n c, v = .slice a n c := by
          obtain ⟨a, c, e⟩ := hsv.form
          exact ⟨_, _, _, e⟩
        have hsd := fun (w' : World) (hf' : Fr (fun _ => False) w w') => sides_l wi tf tn f n D xc g o ro rn rc (.slice va vn vc) w' ((hf'.cell (lt_of_cell hcell) (fun h => h)).trans hcell) hcap hDc ⟨_, _, _, rfl⟩ h2 hb hl _ (fun w'' hf'' => htop w'' (hf'.trans hf'' (fun _ _ h => h)))
        generalize topv wi r f (hf n) tf tn (ps.take D) = T at *
        generalize ps[D] = A at *
        have hnd := nd_len wi hw1 hw32 T A
        have hnode : ∀ w' x y, GS w' → Sl w' x T → Sl w' y A → Calls Tryd.prog 27 #[.int .i64 wi, x, y] w' fun e w'' => ∃ yo, e = .returned (.slice yo wi wi) ∧ OB w' w'' yo wi (nd wi T A) := fun w' x y hg hx hy => by
          have := node_any (wi : Int) x y T A w' hg hx hy (by omega) (by omega)
          rw [hnd] at this
          exact this
        have HC := hide (And.intro hsd (And.intro hnode (And.intro hg (And.intro hsv (And.intro (nd_lt (wi : Int) T A) hnd)))))
        clear hDc hsd hnode hg hsv hp hp' htop hTw hAw hdl hgl hvD hDb hcap hcell hlen hdp hD hs hpw hrw hcx hpd ih r1 r2 hr hlt hpos hl hnd hm h2 hb e
        unfold sv cv at *
        go_enter Tryd.func53, Tryd.ntmps53
        go_wp2_with fail
        obtain ⟨W0, hW0⟩ : ∃ W0, (w.alloc (.cells #[.int .i64 wi, .int .i64 tf, .int .i64 tn, .slice ro rn rc, .slice (some ⟨g, o, none⟩) (D + 1) xc] 71)).alloc (.cells #[.int .i64 f, .int .i64 n] 69) = W0 := ⟨_, rfl⟩
        rw [hW0]
        obtain ⟨⟨a0, -⟩, -, -, hF0⟩ := box52 w _ _ _ _ _ _ _ _ _ W0 hW0
        refine ((unhide HC).1 _ hF0).mono ?_
        rintro e' wA ⟨uo, un, uc, rfl, hS, hFA⟩
        have b0 := (hFA.cell (lt_of_cell a0) (fun h => h)).trans a0
        have HA := hide (And.intro hS (hF0.trans hFA (fun _ _ h => h)))
        clear hFA hF0 a0 hW0 hS
        generalize w.heap.size = P at *
        go_wp2_with fail
        refine ((unhide HC).2.1 _ _ _ ((unhide HC).2.2.1.fr0 (unhide HA).2) (unhide HA).1 ((unhide HC).2.2.2.1.fr0 (unhide HA).2)).mono ?_
        rintro e' wB ⟨zo, rfl, hO⟩
        have hsl := hO.sl (unhide HC).2.2.2.2.1
        rw [(unhide HC).2.2.2.2.2] at hsl
        have HB := hide (And.intro hsl ((unhide HA).2.trans hO.fr (fun _ _ h => h)))
        clear hO hsl
        go_wp2_with fail
        go_ret
        exact ⟨zo, wi, wi, rfl, (unhide HB).1, (unhide HB).2⟩
      · have hdp := dep_r h2 e hl
        obtain ⟨D, hD⟩ : ∃ D, dep (f + hf n) (n - hf n) tf tn = D := ⟨_, rfl⟩
        rw [hD] at hdp
        have hlen : ps.length = D + 1 := by rw [hpd, hdp]
        obtain ⟨xo, xc, rfl⟩ := hp.form
        rw [hlen] at hp hcx ⊢
        obtain ⟨g, o, v, rfl, hcell, -⟩ := hp.cell (Fr.refl _ _) D (by omega)
        have hDb : D ≤ n := by rw [← hD]; have := dep_le _ (f + hf n) (n - hf n) tf tn (Nat.le_refl _); omega
        have hDc : D < 9223372036854775807 := by have h1 := dep_le _ f n tf tn (Nat.le_refl _); omega
        have hcap : D + 1 ≤ xc := hcx _ _ _ rfl
        have hvD : vs[D]? = some v := by
          have hvl : D < vs.length := by rw [hp.len]; omega
          rcases hp.at_ with ⟨e', _⟩ | ⟨_, _, e', _⟩ | ⟨g', o', c', e', _, hc'⟩
          · simp at e'
          · simp at e'
          · simp only [Value.slice.injEq, Option.some.injEq, Addr.mk.injEq, and_true] at e'
            obtain ⟨⟨rfl, rfl⟩, _⟩ := e'
            have h1 := hc' D _ (List.getElem?_eq_getElem hvl)
            rw [h1] at hcell
            rw [List.getElem?_eq_getElem hvl, Option.some.inj hcell]
        have hsv : Sl w v ps[D] := hp.sl D v _ hvD (List.getElem?_eq_getElem (by omega))
        have hdl : ps.dropLast = ps.take D := by rw [List.dropLast_eq_take, hlen]; rfl
        have hgl : ps.getLastD [] = ps[D] := getLastD_at ps D hlen
        have hp' := hp.take D (by omega)
        have htop : ∀ w', Fr (fun _ => False) w w' → _ := fun w' hf' => ih (f + hf n) (n - hf n) tf tn w' ro rn rc r _ _ (ps.take D) (by omega) (by omega) (r2 hl) (hg.fr0 hf') (hs.fr0 hf') hrw (hp'.fr0 hf') (fun _ _ _ e => by cases e; omega) (by rw [List.length_take]; omega) (fun p hp => hpw p (List.mem_of_mem_take hp))
        rw [topv_r h2 e hl, hdl, hgl]
        have hTw := topv_wid wi hw1 hw32 r hrw _ (f + hf n) (n - hf n) tf tn (ps.take D) (Nat.le_refl _)
        have hAw := hpw ps[D] (List.getElem_mem _)
        obtain ⟨va, vn, vc, rfl⟩ : ∃ a n c, v = .slice a n c := by
          obtain ⟨a, c, e⟩ := hsv.form
          exact ⟨_, _, _, e⟩
        have hsd := fun (w' : World) (hf' : Fr (fun _ => False) w w') => sides_r wi tf tn f n D xc g o ro rn rc (.slice va vn vc) w' ((hf'.cell (lt_of_cell hcell) (fun h => h)).trans hcell) hcap hDc ⟨_, _, _, rfl⟩ h2 hb hl _ (fun w'' hf'' => htop w'' (hf'.trans hf'' (fun _ _ h => h)))
        generalize topv wi r (f + hf n) (n - hf n) tf tn (ps.take D) = T at *
        generalize ps[D] = A at *
        have hnd := nd_len wi hw1 hw32 A T
        have hnode : ∀ w' x y, GS w' → Sl w' x A → Sl w' y T → Calls Tryd.prog 27 #[.int .i64 wi, x, y] w' fun e w'' => ∃ yo, e = .returned (.slice yo wi wi) ∧ OB w' w'' yo wi (nd wi A T) := fun w' x y hg hx hy => by
          have := node_any (wi : Int) x y A T w' hg hx hy (by omega) (by omega)
          rw [hnd] at this
          exact this
        have HC := hide (And.intro hsd (And.intro hnode (And.intro hg (And.intro hsv (And.intro (nd_lt (wi : Int) A T) hnd)))))
        clear hDc hsd hnode hg hsv hp hp' htop hTw hAw hdl hgl hvD hDb hcap hcell hlen hdp hD hs hpw hrw hcx hpd ih r1 r2 hr hlt hpos hl hnd hm h2 hb e
        unfold sv cv at *
        go_enter Tryd.func53, Tryd.ntmps53
        go_wp2_with fail
        obtain ⟨W0, hW0⟩ : ∃ W0, (w.alloc (.cells #[.int .i64 wi, .int .i64 tf, .int .i64 tn, .slice ro rn rc, .slice (some ⟨g, o, none⟩) (D + 1) xc] 71)).alloc (.cells #[.int .i64 f, .int .i64 n] 69) = W0 := ⟨_, rfl⟩
        rw [hW0]
        obtain ⟨⟨a0, -⟩, -, -, hF0⟩ := box52 w _ _ _ _ _ _ _ _ _ W0 hW0
        refine ((unhide HC).1 _ hF0).mono ?_
        rintro e' wA ⟨uo, un, uc, rfl, hS, hFA⟩
        have b0 := (hFA.cell (lt_of_cell a0) (fun h => h)).trans a0
        have HA := hide (And.intro hS (hF0.trans hFA (fun _ _ h => h)))
        clear hFA hF0 a0 hW0 hS
        generalize w.heap.size = P at *
        go_wp2_with fail
        refine ((unhide HC).2.1 _ _ _ ((unhide HC).2.2.1.fr0 (unhide HA).2) ((unhide HC).2.2.2.1.fr0 (unhide HA).2) (unhide HA).1).mono ?_
        rintro e' wB ⟨zo, rfl, hO⟩
        have hsl := hO.sl (unhide HC).2.2.2.2.1
        rw [(unhide HC).2.2.2.2.2] at hsl
        have HB := hide (And.intro hsl ((unhide HA).2.trans hO.fr (fun _ _ h => h)))
        clear hO hsl
        go_wp2_with fail
        go_ret
        exact ⟨zo, wi, wi, rfl, (unhide HB).1, (unhide HB).2⟩
end Go.Proofs.YthamfidjilclpaaDoor

namespace Go.Proofs.YthamfidjilclpaaDoor
open Go.RowKit

/-- Has each the width? -/
def wdq (j : Int) (ps : List (List Nat)) : Bool := ps.all fun p => decide ((p.length : Int) = j)
theorem wdq_take (j : Int) (ps : List (List Nat)) (k : Nat) (hk : k < ps.length) : wdq j (ps.take (k + 1)) = (wdq j (ps.take k) && decide ((ps[k].length : Int) = j)) := by
  rw [wdq, wdq, List.take_add_one, List.getElem?_eq_getElem hk, Option.toList_some, List.all_append]; simp
theorem wdq_false (j : Int) (ps : List (List Nat)) (k : Nat) (hk : k < ps.length) (h : ¬ (ps[k].length : Int) = j) : wdq j ps = false := by
  rw [wdq, List.all_eq_false]
  exact ⟨ps[k], List.getElem_mem hk, by simp [h]⟩
theorem wdq_true {j : Int} {ps : List (List Nat)} (h : wdq j ps = true) : ∀ p ∈ ps, (p.length : Int) = j := fun p hp => by
  rw [wdq, List.all_eq_true] at h
  simpa using h p hp
theorem Pcs.nth {w w' : World} {xo : Option Addr} {n xc : Nat} {vs : List Value} {ps : List (List Nat)} (h : Pcs w (.slice xo n xc) vs ps) (hf : Fr (fun _ => False) w w') (k : Nat) (hk : k < ps.length) : ∃ g o vo vc, xo = some ⟨g, o, none⟩ ∧ w'.cell? ⟨g, o + k, none⟩ = some (.slice vo ps[k].length vc) ∧ Sl w' (.slice vo ps[k].length vc) ps[k] := by
  obtain ⟨g, o, v, e, hc, hs, hcap, hlt, _⟩ := h.cell hf k hk
  obtain ⟨vo, vc, rfl⟩ := hs.form
  exact ⟨g, o, vo, vc, e, hc, hs, hcap, hlt.imp id (fun hh g o n c e => Nat.lt_of_lt_of_le (hh g o n c e) hf.size), h.byt _ (List.getElem_mem hk)⟩
set_option maxRecDepth 100000 in
set_option maxHeartbeats 1000000 in
/-- merkle.wide. -/
theorem wide_any (j : Int) (x : Value) (vs : List Value) (ps : List (List Nat)) (w : World) (hp : Pcs w x vs ps) (hn : ps.length < 4611686018427387904) :
    Calls Tryd.prog 49 #[.int .i64 j, x] w fun e w' => e = .returned (.bool (wdq j ps)) ∧ w' = w := by
  obtain ⟨xo, xc, rfl⟩ := hp.form
  have HG := hide (And.intro hp hn)
  clear hp hn
  generalize hN : ps.length = N at *
  go_enter Tryd.func49, Tryd.ntmps49
  go_wp2_with fail
  go_loopw [9] (fun iv wr => ∃ (k : Nat), k ≤ N ∧ iv = .int .i64 (k : Nat) ∧ wr = w ∧ wdq j (ps.take k) = true) (fun iv _ => N - (intOf iv).toNat)
  case atStart => exact ⟨0, Nat.zero_le _, rfl, rfl, by simp [wdq]⟩
  case round =>
    obtain ⟨k, hk, rfl, rfl, hw⟩ := hrel
    have hN8 := (unhide HG).2
    by_cases hlt : k < N
    · have hlt' : (k : Int) < (N : Int) := by omega
      have hke : k < ps.length := by omega
      obtain ⟨g, o, vo, vc, rfl, hcell, -⟩ := (unhide HG).1.nth (Fr.refl _ _) k hke
      by_cases he : (ps[k].length : Int) = j
      · have hw2 : wdq j (ps.take (k + 1)) = true := by rw [wdq_take j ps k hke, hw, decide_eq_true he]; rfl
        have HW := hide hw2
        clear hw2 hw
        have w1 : IntKind.i64.wrap ((k : Int) + 1) = (k : Int) + 1 := by rw [IntKind.wrap_i64]; omega
        have hee : ((ps[k].length : Int) == j) = true := by rw [he]; simp
        subst he
        generalize ps[k].length = EL at *
        go_wp2_with fail
        exact ⟨⟨k + 1, by omega, by go_num, by first | rfl | trivial, unhide HW⟩, by simp [intOf]; omega⟩
      · have hf := wdq_false j ps k hke he
        have HW := hide hf
        clear hf hw
        have hee : ((ps[k].length : Int) == j) = false := beq_false_of_ne he
        generalize ps[k].length = EL at *
        go_wp2_with fail
        go_ret
        exact ⟨by rw [unhide HW]; rfl, rfl⟩
    · have hkN : k = N := by omega
      have hlt' : ¬ (k : Int) < (N : Int) := by omega
      have htk : ps.take k = ps := List.take_of_length_le (by omega)
      rw [htk] at hw
      have HW := hide hw
      clear hw htk hkN
      go_wp2_with fail
      go_ret
      exact ⟨by rw [unhide HW]; rfl, rfl⟩
set_option maxRecDepth 100000 in
theorem ofEntry_any (wi i : Nat) (ro : Option Addr) (rn rc : Nat) (xo : Option Addr) (xn xc : Nat) (w : World) :
    Calls Tryd.prog 50 #[.int .i64 wi, .slice ro rn rc, .int .i64 i, .slice xo xn xc] w fun e w' => e = .returned (cv wi i 1 (.slice ro rn rc) (.slice xo xn xc)) ∧ Fr (fun _ => False) w w' := by
  unfold cv
  go_enter Tryd.func50, Tryd.ntmps50
  go_wp2_with fail
  go_returns
  exact ⟨rfl, (Fr.refl _ _).alloc _⟩
set_option maxRecDepth 100000 in
set_option maxHeartbeats 1000000 in
theorem fits_any (wi f n tf tn : Nat) (ro : Option Addr) (rn rc : Nat) (xo : Option Addr) (N xc : Nat) (w : World) (hb : f + n < 9223372036854775808) (hr : Rch f n tf tn) :
    Calls Tryd.prog 51 #[cv wi tf tn (.slice ro rn rc) (.slice xo N xc), sv f n] w fun e w' => e = .returned (.bool (decide (N = dep f n tf tn))) ∧ Fr (fun _ => False) w w' := by
  have hd := fun w => depth_any n f n tf tn w (Nat.le_refl _) hb hr
  unfold DepSays at hd
  have hee : ((N : Int) == ((dep f n tf tn : Nat) : Int)) = decide (N = dep f n tf tn) := by
    by_cases h : N = dep f n tf tn
    · simp [h]
    · rw [decide_eq_false h]; exact beq_false_of_ne (by omega)
  generalize dep f n tf tn = D at *
  generalize hB : decide (N = D) = B1 at *
  have HD := hide hd
  clear hd hr hb hB
  unfold cv sv at *
  go_enter Tryd.func51, Tryd.ntmps51
  go_wp2_with fail
  obtain ⟨W0, hW0⟩ : ∃ W0, (w.alloc (.cells #[.int .i64 wi, .int .i64 tf, .int .i64 tn, .slice ro rn rc, .slice xo N xc] 71)).alloc (.cells #[.int .i64 f, .int .i64 n] 69) = W0 := ⟨_, rfl⟩
  rw [hW0]
  obtain ⟨⟨a0, a1, a2, a3, a4⟩, b0, b1, hF0⟩ := box52 w _ _ _ _ _ _ _ _ _ W0 hW0
  have HF := hide hF0
  clear hF0 hW0 a0 a3
  generalize w.heap.size = P at *
  have hS : ∀ w', Fr (fun _ => False) W0 w' → w'.cell? ⟨P, 1, none⟩ = some (.int .i64 tf) ∧ w'.cell? ⟨P, 2, none⟩ = some (.int .i64 tn) ∧ w'.cell? ⟨P, 4, none⟩ = some (.slice xo N xc) ∧ w'.cell? ⟨P + 1, 0, none⟩ = some (.int .i64 f) ∧ w'.cell? ⟨P + 1, 1, none⟩ = some (.int .i64 n) := fun w' hf =>
    ⟨(hf.cell (lt_of_cell a1) (fun h => h)).trans a1, (hf.cell (lt_of_cell a2) (fun h => h)).trans a2, (hf.cell (lt_of_cell a4) (fun h => h)).trans a4, (hf.cell (lt_of_cell b0) (fun h => h)).trans b0, (hf.cell (lt_of_cell b1) (fun h => h)).trans b1⟩
  have HS := hide hS
  clear hS
  go_region_held3 (fun w' => w'.cell? ⟨P, 1, none⟩ = some (.int .i64 tf) ∧ w'.cell? ⟨P, 2, none⟩ = some (.int .i64 tn) ∧ w'.cell? ⟨P, 4, none⟩ = some (.slice xo N xc) ∧ w'.cell? ⟨P + 1, 0, none⟩ = some (.int .i64 f) ∧ w'.cell? ⟨P + 1, 1, none⟩ = some (.int .i64 n))
    (first | assumption | exact (unhide HS) _ (Fr.refl _ _).drew | exact (unhide HS) _ ((Fr.refl _ _).drew.trans fC (fun _ _ h => h)))
    (first
      | (go_at_call 83; refine ((unhide HD) _).mono ?_; rintro e wC ⟨rfl, fC⟩))
  have HE := hide ((unhide HF).drew.trans fC (fun _ _ h => h))
  clear fC
  go_wp2_with fail
  go_ret
  exact ⟨rfl, unhide HE⟩
theorem Sl.ints {w : World} {xo : Option Addr} {n c : Nat} {l : List Nat} (h : Sl w (.slice xo n c) l) : (l.map fun v : Nat => (v : Int)).length = n ∧ Lib.BytesIn w xo n (l.map fun v : Nat => (v : Int)) := by
  obtain ⟨a, c', e⟩ := h.form
  simp only [Value.slice.injEq] at e
  have hn : l.length = n := e.2.1.symm
  refine ⟨by simp [hn], ?_⟩
  by_cases h0 : l = []
  · subst h0
    have : n = 0 := by rw [← hn]; rfl
    subst this
    rcases xo with _ | a
    · exact Lib.BytesIn.nil _ _ _
    · exact Lib.BytesIn.of_cells (fun i hi => by simp at hi)
  · obtain ⟨g, o, rfl, _⟩ := src_cell h.s 0 (List.length_pos_iff.2 h0) h.b
    refine Lib.BytesIn.of_cells (fun i hi => ?_)
    have hi' : i < l.length := by omega
    obtain ⟨g', o', e', hc⟩ := src_cell h.s i hi' h.b
    simp only [Option.some.injEq, Addr.mk.injEq, and_true] at e'
    obtain ⟨rfl, rfl⟩ := e'
    rw [add_at2, hc]
    simp [List.getD, List.getElem?_eq_getElem hi']
theorem bytesOf_inj {a b : List Nat} (ha : ∀ v ∈ a, v < 256) (hb : ∀ v ∈ b, v < 256) : (Lib.bytesOf (a.map fun v : Nat => (v : Int)) == Lib.bytesOf (b.map fun v : Nat => (v : Int))) = decide (a = b) := by
  by_cases h : a = b
  · subst h; simp
  · rw [decide_eq_false h, beq_eq_false_iff_ne]
    intro e
    apply h
    have key : ∀ l : List Nat, (∀ v ∈ l, v < 256) → (Lib.bytesOf (l.map fun v : Nat => (v : Int))).map UInt8.toNat = l := fun l hl => by
      rw [Lib.bytesOf, List.map_map, List.map_map]
      conv => rhs; rw [← List.map_id l]
      apply List.map_congr_left
      intro v hv
      have := hl v hv
      simp
      omega
    rw [← key a ha, ← key b hb, e]
/-- bytes.Equal. -/
theorem beq_sl (x y : Value) (a b : List Nat) (w : World) (hx : Sl w x a) (hy : Sl w y b) : Calls Tryd.prog 52 #[x, y] w fun e w' => e = .returned (.bool (decide (a = b))) ∧ w' = w := by
  obtain ⟨xo, xc, rfl⟩ := hx.form
  obtain ⟨yo, yc, rfl⟩ := hy.form
  have := beq_any xo yo a.length xc b.length yc _ _ w hx.ints.1 hy.ints.1 hx.ints.2 hy.ints.2
  rw [bytesOf_inj hx.b hy.b] at this
  exact this
end Go.Proofs.YthamfidjilclpaaDoor

namespace Go.Proofs.YthamfidjilclpaaDoor
open Go.RowKit

theorem pcs2 {w : World} {x y : Value} {a b : List Nat} (hx : Sl w x a) (hy : Sl w y b) (W : World) (hW : w.alloc (.cells #[x, y] 26) = W) : Pcs W (.slice (some ⟨w.heap.size, 0, none⟩) 2 2) [x, y] [a, b] := by
  have hF1 : Fr (fun _ => False) w W := by rw [← hW]; exact (Fr.refl _ _).alloc _
  have hx1 := hx.fr0 hF1
  have hy1 := hy.fr0 hF1
  have hc : ∀ j, j < 2 → W.cell? ⟨w.heap.size, 0 + j, none⟩ = (#[x, y] : Array Value)[j]? := fun j hj => by rw [Nat.zero_add, ← hW, World.cell?_alloc_at _ _ _ _ rfl]
  have hc0 := hc 0 (by decide)
  have hl : w.heap.size < W.heap.size := lt_of_cell (v := x) hc0
  refine ⟨rfl, .inr (.inr ⟨w.heap.size, 0, 2, rfl, hl, fun j v hv => ?_⟩), fun j v p hv hp => ?_, fun p hp => ?_⟩
  · match j with
    | 0 => rw [hc 0 (by decide)]; simpa using hv
    | 1 => rw [hc 1 (by decide)]; simpa using hv
    | j + 2 => simp at hv
  · match j with
    | 0 => simp at hv hp; subst hv hp; exact ⟨hx1.s, hx1.cap, hx1.lt⟩
    | 1 => simp at hv hp; subst hv hp; exact ⟨hy1.s, hy1.cap, hy1.lt⟩
    | j + 2 => simp at hv
  · simp at hp
    rcases hp with rfl | rfl
    · exact hx1.b
    · exact hy1.b
/-- What CheckPath answers. -/
def chkP (j : Int) (leaf : List Nat) (i n : Int) (ps : List (List Nat)) (root : List Nat) : Bool :=
  decide (1 ≤ j ∧ j ≤ 32) && (decide (0 ≤ i) && (decide (i < n) && (wdq j [leaf, root] && (wdq j ps && (decide (ps.length = dep 0 n.toNat i.toNat 1) && decide (topv j.toNat leaf 0 n.toNat i.toNat 1 ps = root))))))
set_option maxRecDepth 100000 in
set_option maxHeartbeats 2000000 in
theorem checkPath_any (j i n : Int) (lv rv x : Value) (leaf root : List Nat) (vs : List Value) (ps : List (List Nat)) (w : World) (hg : GS w) (hl : Sl w lv leaf) (hr : Sl w rv root) (hp : Pcs w x vs ps) (hcx : Cp x) (hn : n < 9223372036854775808) (hps : ps.length < 4611686018427387904) :
    Calls Tryd.prog 19 #[.int .i64 j, lv, .int .i64 i, .int .i64 n, x, rv] w fun e w' => e = .returned (.bool (chkP j leaf i n ps root)) ∧ Fr (fun _ => False) w w' := by
  obtain ⟨lo, lc, rfl⟩ := hl.form
  obtain ⟨rr, rc, rfl⟩ := hr.form
  obtain ⟨xo, xc, rfl⟩ := hp.form
  by_cases h1o : j < 1 ∨ 32 < j
  · have h1 : ¬ (1 ≤ j ∧ j ≤ 32) := by omega
    have hB : chkP j leaf i n ps root = false := by rw [chkP, decide_eq_false h1]; rfl
    rw [hB]
    have HM := hide h1
    clear hg hl hr hp hcx hn hps hB h1 h1o
    generalize leaf.length = LL at *
    generalize root.length = RL at *
    generalize ps.length = PL at *
    go_enter Tryd.func19, Tryd.ntmps19
    go_wp2_with (go_at_call 48; refine (maybe_any j _).mono ?_; rintro e' w' ⟨rfl, hw'⟩; rw [hw', decide_eq_false (unhide HM)])
    go_ret
    exact ⟨rfl, Fr.refl _ _⟩
  · have h1 : 1 ≤ j ∧ j ≤ 32 := by omega
    clear h1o
    have HM := hide h1
    by_cases h2' : i < 0
    · have h2 : ¬ 0 ≤ i := by omega
      have hB : chkP j leaf i n ps root = false := by rw [chkP, decide_eq_true h1, decide_eq_false h2]; rfl
      rw [hB]
      clear hg hl hr hp hcx hn hps hB h1
      generalize leaf.length = LL at *
      generalize root.length = RL at *
      generalize ps.length = PL at *
      go_enter Tryd.func19, Tryd.ntmps19
      go_wp2_with (go_at_call 48; refine (maybe_any j _).mono ?_; rintro e' w' ⟨rfl, hw'⟩; rw [hw', decide_eq_true (unhide HM)])
      go_ret
      exact ⟨rfl, Fr.refl _ _⟩
    · have h2 : 0 ≤ i := by omega
      by_cases h3' : n ≤ i
      · have h3 : ¬ i < n := by omega
        have hB : chkP j leaf i n ps root = false := by rw [chkP, decide_eq_true h1, decide_eq_true h2, decide_eq_false h3]; rfl
        rw [hB]
        clear hg hl hr hp hcx hn hps hB h1
        generalize leaf.length = LL at *
        generalize root.length = RL at *
        generalize ps.length = PL at *
        go_enter Tryd.func19, Tryd.ntmps19
        go_wp2_with (go_at_call 48; refine (maybe_any j _).mono ?_; rintro e' w' ⟨rfl, hw'⟩; rw [hw', decide_eq_true (unhide HM)])
        go_ret
        exact ⟨rfl, Fr.refl _ _⟩
      · have h3 : i < n := by omega
        clear h2' h3'
        obtain ⟨wi, rfl⟩ : ∃ k : Nat, j = (k : Int) := ⟨j.toNat, by omega⟩
        obtain ⟨I, rfl⟩ : ∃ k : Nat, i = (k : Int) := ⟨i.toNat, by omega⟩
        obtain ⟨N, rfl⟩ : ∃ k : Nat, n = (k : Int) := ⟨n.toNat, by omega⟩
        have h2' : ¬ (I : Int) < 0 := by omega
        have h3' : ¬ (N : Int) ≤ (I : Int) := by omega
        have hIN : I < N := by omega
        have hrch := rch_one N 0 N I (Nat.le_refl _) (by omega) (by omega)
        obtain ⟨W1, hW1⟩ : ∃ W1, w.alloc (.cells #[.slice lo leaf.length lc, .slice rr root.length rc] 26) = W1 := ⟨_, rfl⟩
        have hF1 : Fr (fun _ => False) w W1 := by rw [← hW1]; exact (Fr.refl _ _).alloc _
        have hwd1 := wide_any wi _ _ [leaf, root] W1 (pcs2 hl hr W1 hW1) (by simp)
        have hwd2 := wide_any wi _ vs ps W1 (hp.fr0 hF1) hps
        have hce : chkP wi leaf I N ps root = (wdq wi [leaf, root] && (wdq wi ps && (decide (ps.length = dep 0 N I 1) && decide (topv wi leaf 0 N I 1 ps = root)))) := by
          rw [chkP, decide_eq_true h1, decide_eq_true h2, decide_eq_true h3]; rfl
        rw [hce]
        clear hce
        cases hq1 : wdq wi [leaf, root] with
        | false =>
          rw [hq1] at hwd1
          rw [Bool.false_and]
          have HC := hide (And.intro hwd1 hF1)
          clear hg hl hr hp hcx hn hps h1 h2 h3 hwd1 hwd2 hF1 hrch hIN hq1
          generalize leaf.length = LL at *
          generalize root.length = RL at *
          generalize ps.length = PL at *
          go_enter Tryd.func19, Tryd.ntmps19
          go_wp2_with (go_at_call 48; refine (maybe_any wi _).mono ?_; rintro e' w' ⟨rfl, hw'⟩; rw [hw', decide_eq_true (unhide HM)])
          refine (unhide HC).1.mono ?_
          rintro e' w2 ⟨rfl, rfl⟩
          go_wp2_with fail
          go_ret
          exact ⟨rfl, (unhide HC).2⟩
        | true =>
          rw [hq1] at hwd1
          rw [Bool.true_and]
          cases hq2 : wdq wi ps with
          | false =>
            rw [hq2] at hwd2
            rw [Bool.false_and]
            have HC := hide (And.intro hwd1 (And.intro hwd2 hF1))
            clear hg hl hr hp hcx hn hps h1 h2 h3 hwd1 hwd2 hF1 hrch hIN hq1 hq2
            generalize leaf.length = LL at *
            generalize root.length = RL at *
            generalize ps.length = PL at *
            go_enter Tryd.func19, Tryd.ntmps19
            go_wp2_with (go_at_call 48; refine (maybe_any wi _).mono ?_; rintro e' w' ⟨rfl, hw'⟩; rw [hw', decide_eq_true (unhide HM)])
            refine (unhide HC).1.mono ?_
            rintro e' w2 ⟨rfl, rfl⟩
            go_wp2_with fail
            refine (unhide HC).2.1.mono ?_
            rintro e' w3 ⟨rfl, rfl⟩
            go_wp2_with fail
            go_ret
            exact ⟨rfl, (unhide HC).2.2⟩
          | true =>
            rw [hq2] at hwd2
            rw [Bool.true_and]
            have hlw : leaf.length = wi := by have := wdq_true hq1 leaf (by simp); omega
            have hpw : ∀ p ∈ ps, p.length = wi := fun p hp => by have := wdq_true hq2 p hp; omega
            have hoe := fun w' => ofEntry_any wi I lo leaf.length lc xo ps.length xc w'
            have hft := fun w' => fits_any wi 0 N I 1 lo leaf.length lc xo ps.length xc w' (by omega) hrch
            by_cases hD : ps.length = dep 0 N I 1
            · have htop := fun w' (hf : Fr (fun _ => False) w w') => top_any wi (by omega) (by omega) N 0 N I 1 w' lo leaf.length lc leaf _ vs ps (Nat.le_refl _) (by omega) hrch (hg.fr0 hf) (hl.fr0 hf) hlw (hp.fr0 hf) hcx hD hpw
              rw [decide_eq_true hD] at hft ⊢
              rw [Bool.true_and]
              have HC := hide (And.intro hwd1 (And.intro hwd2 (And.intro hoe (And.intro hft (And.intro htop (And.intro hr hF1))))))
              clear hg hl hp hcx hn hps h1 h2 h3 hwd1 hwd2 hF1 hrch hIN hq1 hq2 hoe hft htop hD hpw hlw hr
              generalize topv wi leaf 0 N I 1 ps = TV at *
              obtain ⟨BB, hBB⟩ : ∃ BB, decide (TV = root) = BB := ⟨_, rfl⟩
              rw [hBB]
              have HBB := hide hBB
              clear hBB
              generalize leaf.length = LL at *
              generalize root.length = RL at *
              generalize ps.length = PL at *
              unfold sv cv at HC
              have e1 : ((1 : Nat) : Int) = 1 := rfl
              have e0 : ((0 : Nat) : Int) = 0 := rfl
              simp only [e1, e0] at HC
              clear e1 e0
              go_enter Tryd.func19, Tryd.ntmps19
              go_wp2_with (go_at_call 48; refine (maybe_any wi _).mono ?_; rintro e' w' ⟨rfl, hw'⟩; rw [hw', decide_eq_true (unhide HM)])
              refine (unhide HC).1.mono ?_
              rintro e' w2 ⟨rfl, rfl⟩
              go_wp2_with fail
              refine (unhide HC).2.1.mono ?_
              rintro e' w3 ⟨rfl, rfl⟩
              go_wp2_with fail
              refine ((unhide HC).2.2.1 _).mono ?_
              rintro e' wA ⟨rfl, hFA⟩
              have HA := hide ((unhide HC).2.2.2.2.2.2.trans hFA (fun _ _ h => h))
              clear hFA
              go_wp2_with fail
              obtain ⟨W2, hW2⟩ : ∃ W2, (wA.alloc (.cells #[.int .i64 wi, .int .i64 I, .int .i64 1, .slice lo LL lc, .slice xo PL xc] 71)).alloc (.cells #[.int .i64 0, .int .i64 N] 69) = W2 := ⟨_, rfl⟩
              rw [hW2]
              obtain ⟨⟨a0, a1, a2, a3, a4⟩, b0, b1, hF2⟩ := box52 wA _ _ _ _ _ _ _ _ _ W2 hW2
              refine ((unhide HC).2.2.2.1 _).mono ?_
              rintro e' wB ⟨rfl, hFB⟩
              have c0 := (hFB.cell (lt_of_cell a0) (fun h => h)).trans a0
              have c1 := (hFB.cell (lt_of_cell a1) (fun h => h)).trans a1
              have c2 := (hFB.cell (lt_of_cell a2) (fun h => h)).trans a2
              have c3 := (hFB.cell (lt_of_cell a3) (fun h => h)).trans a3
              have c4 := (hFB.cell (lt_of_cell a4) (fun h => h)).trans a4
              have d0 := (hFB.cell (lt_of_cell b0) (fun h => h)).trans b0
              have d1 := (hFB.cell (lt_of_cell b1) (fun h => h)).trans b1
              have HB := hide (((unhide HA).trans hF2 (fun _ _ h => h)).trans hFB (fun _ _ h => h))
              clear hF2 hFB hW2 a0 a1 a2 a3 a4 b0 b1 HA
              generalize wA.heap.size = P at *
              go_wp2_with fail
              refine ((unhide HC).2.2.2.2.1 _ (unhide HB)).mono ?_
              rintro e' wC ⟨uo, un, uc, rfl, hS, hFC⟩
              have HS := hide (And.intro hS ((unhide HB).trans hFC (fun _ _ h => h)))
              clear hS hFC
              go_wp2_with fail
              refine (beq_sl _ _ _ _ _ (unhide HS).1 ((unhide HC).2.2.2.2.2.1.fr0 (unhide HS).2)).mono ?_
              rintro e' wD ⟨rfl, rfl⟩
              rw [unhide HBB]
              go_wp2_with fail
              go_ret
              exact ⟨rfl, (unhide HS).2⟩
            · rw [decide_eq_false hD] at hft ⊢
              rw [Bool.false_and]
              have HC := hide (And.intro hwd1 (And.intro hwd2 (And.intro hoe (And.intro hft hF1))))
              clear hg hl hp hcx hn hps h1 h2 h3 hwd1 hwd2 hF1 hrch hIN hq1 hq2 hoe hft hD hpw hlw hr
              generalize leaf.length = LL at *
              generalize root.length = RL at *
              generalize ps.length = PL at *
              unfold sv cv at HC
              have e1 : ((1 : Nat) : Int) = 1 := rfl
              have e0 : ((0 : Nat) : Int) = 0 := rfl
              simp only [e1, e0] at HC
              clear e1 e0
              go_enter Tryd.func19, Tryd.ntmps19
              go_wp2_with (go_at_call 48; refine (maybe_any wi _).mono ?_; rintro e' w' ⟨rfl, hw'⟩; rw [hw', decide_eq_true (unhide HM)])
              refine (unhide HC).1.mono ?_
              rintro e' w2 ⟨rfl, rfl⟩
              go_wp2_with fail
              refine (unhide HC).2.1.mono ?_
              rintro e' w3 ⟨rfl, rfl⟩
              go_wp2_with fail
              refine ((unhide HC).2.2.1 _).mono ?_
              rintro e' wA ⟨rfl, hFA⟩
              have HA := hide ((unhide HC).2.2.2.2.trans hFA (fun _ _ h => h))
              clear hFA
              go_wp2_with fail
              refine ((unhide HC).2.2.2.1 _).mono ?_
              rintro e' wB ⟨rfl, hFB⟩
              have HB := hide ((unhide HA).trans ((((Fr.refl _ _).alloc _).alloc _).trans hFB (fun _ _ h => h)) (fun _ _ h => h))
              clear hFB
              go_wp2_with fail
              go_ret
              exact ⟨rfl, unhide HB⟩
end Go.Proofs.YthamfidjilclpaaDoor

namespace Go.Proofs.YthamfidjilclpaaDoor
open Go.RowKit

theorem OL.stepW {w wr w1 : World} {ao : Option Addr} {cp : Nat} {vs : List Value} {ps : List (List Nat)} (h : OL w wr ao cp vs ps) (l : List Nat) (wi : Nat) (hl : l.length = wi) (yo : Option Addr) (yc : Nat) (hO : OB wr w1 yo yc l) (hb : ∀ v ∈ l, v < 256) (hn : vs.length < 16000000) :
    ∃ ao' cp' w2, (Builtin.append_ #[22, 22] 22 #[.slice ao vs.length cp, .slice (some ⟨w1.heap.size, 0, none⟩) 1 1]).run Tryd.prog (w1.alloc (.cells #[.slice yo wi yc] 26)) = .ok (.slice ao' (vs.length + 1) cp') w2 ∧ OL w w2 ao' cp' (vs ++ [.slice yo wi yc]) (ps ++ [l]) := by
  subst hl
  exact h.step l yo yc hO hb hn
theorem boxAB (w : World) (a0 a1 a2 b0 b1 : Value) (ta tb : Nat) (W : World) (hW : (w.alloc (.cells #[a0, a1, a2] ta)).alloc (.cells #[b0, b1] tb) = W) :
    W.cell? ⟨w.heap.size + 1, 0, none⟩ = some b0 ∧ W.cell? ⟨w.heap.size + 1, 1, none⟩ = some b1 ∧ Fr (fun _ => False) w W := by
  subst hW
  have e1 : w.heap.size + 1 = (w.alloc (.cells #[a0, a1, a2] ta)).heap.size := by simp
  have B : ∀ j : Nat, ((w.alloc (.cells #[a0, a1, a2] ta)).alloc (.cells #[b0, b1] tb)).cell? ⟨w.heap.size + 1, j, none⟩ = (#[b0, b1] : Array Value)[j]? := fun j => by
    rw [e1, World.cell?_alloc_at _ _ _ _ rfl]
  exact ⟨B 0, B 1, ((Fr.refl _ _).alloc _).alloc _⟩
def BesSays (tb wi : Nat) (L : List (List Nat)) (f n tf tn : Nat) (w : World) : Prop :=
  Calls Tryd.prog 77 #[pv (.pointer (some ⟨tb, 0, none⟩)) f n, sv tf tn] w fun e w' => ∃ ao cp vs, e = .returned (.slice ao vs.length cp) ∧ OL w w' ao cp vs (bes wi L f n tf tn)
set_option maxRecDepth 100000 in
set_option maxHeartbeats 2000000 in
/-- The halves left aside on the way to a part. -/
theorem beside_any (tb wi : Nat) (hw1 : 1 ≤ wi) (hw32 : wi ≤ 32) (L : List (List Nat)) (m : Nat) : ∀ (f n tf tn : Nat) (w : World), n ≤ m → Tk w tb wi L → Al f n → f + n ≤ L.length → Rch f n tf tn → BesSays tb wi L f n tf tn w := by
  induction m with
  | zero =>
    intro f n tf tn w hm hT hA hL hr
    by_cases e : f = tf ∧ n = tn
    · obtain ⟨rfl, rfl⟩ := e
      unfold BesSays sv pv
      rw [bes_eq]
      have eqs := fun w => eq_span f n f n w
      simp only [decide_true, and_self] at eqs
      have eg := Tryd.guard_span
      go_enter Tryd.func77, Tryd.ntmps77
      go_wp2_with fail
      go_ret
      exact ⟨none, 0, [], rfl, (OL.nil _).base (((Fr.refl _ _).alloc _).alloc _)⟩
    · have := (rch_ne hr e).1; omega
  | succ m ih =>
    intro f n tf tn w hm hT hA hL hr
    by_cases e : f = tf ∧ n = tn
    · obtain ⟨rfl, rfl⟩ := e
      unfold BesSays sv pv
      rw [bes_eq]
      have eqs := fun w => eq_span f n f n w
      simp only [decide_true, and_self] at eqs
      have eg := Tryd.guard_span
      go_enter Tryd.func77, Tryd.ntmps77
      go_wp2_with fail
      go_ret
      exact ⟨none, 0, [], rfl, (OL.nil _).base (((Fr.refl _ _).alloc _).alloc _)⟩
    · obtain ⟨h2, r1, r2⟩ := rch_ne hr e
      have hlt := hf_lt n h2
      have hp := hf_pos n
      obtain ⟨hA1, hA2⟩ := hA.halves h2
      have hle := hT.len
      have eqs := fun w => eq_span f n tf tn w
      rw [decide_eq_false e] at eqs
      have eg := Tryd.guard_span
      have hpt := fun w => parts_any (some ⟨tb, 0, none⟩) f n w (by omega) h2
      have hbf := fun w => before_any tf tn (f + hf n) (n - hf n) w
      clear hle
      by_cases hl : tf < f + hf n
      · rw [decide_eq_true hl] at hbf
        have hrec := fun w' (hf' : Fr (fun _ => False) w w') => ih f (hf n) tf tn w' (by omega) (hT.fr0 hf') hA1 (by omega) (r1 hl)
        have hroot := fun w' (hf' : Fr (fun _ => False) w w') => root_any tb wi hw1 hw32 L _ (f + hf n) (n - hf n) w' (Nat.le_refl _) (hT.fr0 hf') hA2 (by omega)
        have hMw := hT.mw hw1 hw32 (f + hf n) (n - hf n)
        have hMb := hT.mb (f + hf n) (n - hf n)
        have hdl := dep_le _ f (hf n) tf tn (Nat.le_refl _)
        rw [← bes_len wi L _ f (hf n) tf tn (Nat.le_refl _)] at hdl
        unfold BesSays RootSays at *
        rw [bes_l h2 e hl]
        generalize bes wi L f (hf n) tf tn = BS at *
        generalize mth wi (blk L (f + hf n) (n - hf n)) = M at *
        have hbl : BS.length < 16000000 := by have := hT.len; omega
        clear hdl
        generalize f + hf n = F2 at *
        generalize n - hf n = N2 at *
        generalize hf n = K at *
        have HC := hide (And.intro hpt (And.intro hbf (And.intro hrec (And.intro hroot (And.intro hMw (And.intro hMb hbl))))))
        clear hpt hbf hrec hroot r1 r2 hr ih hlt hp hl hm h2 e hT hA1 hA2 hMw hMb hbl hL
        unfold sv pv at *
        go_enter Tryd.func77, Tryd.ntmps77
        go_wp2_with fail
        obtain ⟨W0, hW0⟩ : ∃ W0, (w.alloc (.cells #[.pointer (some ⟨tb, 0, none⟩), .int .i64 f, .int .i64 n] 79)).alloc (.cells #[.int .i64 tf, .int .i64 tn] 69) = W0 := ⟨_, rfl⟩
        rw [hW0]
        obtain ⟨b0, b1, hF0⟩ := boxAB w _ _ _ _ _ _ _ W0 hW0
        refine ((unhide HC).1 _).mono ?_
        rintro e' wA ⟨rfl, hFA⟩
        have c0 := (hFA.cell (lt_of_cell b0) (fun h => h)).trans b0
        have c1 := (hFA.cell (lt_of_cell b1) (fun h => h)).trans b1
        have HF := hide (hF0.trans hFA (fun _ _ h => h))
        clear hFA hF0 b0 b1 hW0
        generalize w.heap.size + 1 = PB at *
        have l0 : PB < wA.heap.size := lt_of_cell c0
        have l1 : PB < wA.heap.size + 1 := Nat.lt_succ_of_lt l0
        go_wp2_with fail
        obtain ⟨W1, hW1⟩ : ∃ W1, (wA.alloc (.cells #[.pointer (some ⟨tb, 0, none⟩), .int .i64 f, .int .i64 K] 79)).alloc (.cells #[.pointer (some ⟨tb, 0, none⟩), .int .i64 F2, .int .i64 N2] 79) = W1 := ⟨_, rfl⟩
        rw [hW1]
        obtain ⟨x0, x1, x2, y0, y1, y2, hF1⟩ := two3 wA _ _ _ _ _ _ _ W1 hW1
        refine ((unhide HC).2.1 _).mono ?_
        rintro e' wB ⟨rfl, hFB⟩
        have hF1B := hF1.trans hFB (fun _ _ h => h)
        have d0 := (hF1B.cell (lt_of_cell c0) (fun h => h)).trans c0
        have d1 := (hF1B.cell (lt_of_cell c1) (fun h => h)).trans c1
        have u0 := (hFB.cell (lt_of_cell x0) (fun h => h)).trans x0
        have u1 := (hFB.cell (lt_of_cell x1) (fun h => h)).trans x1
        have u2 := (hFB.cell (lt_of_cell x2) (fun h => h)).trans x2
        have v0 := (hFB.cell (lt_of_cell y0) (fun h => h)).trans y0
        have v1 := (hFB.cell (lt_of_cell y1) (fun h => h)).trans y1
        have v2 := (hFB.cell (lt_of_cell y2) (fun h => h)).trans y2
        have HF2 := hide ((unhide HF).trans hF1B (fun _ _ h => h))
        clear hF1 hFB hF1B hW1 x0 x1 x2 y0 y1 y2 c0 c1 HF l0 l1
        generalize wA.heap.size = Z at *
        have hS : ∀ w', Fr (fun _ => False) wB w' → w'.cell? ⟨Z, 0, none⟩ = some (.pointer (some ⟨tb, 0, none⟩)) ∧ w'.cell? ⟨Z, 1, none⟩ = some (.int .i64 f) ∧ w'.cell? ⟨Z, 2, none⟩ = some (.int .i64 K) ∧ w'.cell? ⟨Z + 1, 0, none⟩ = some (.pointer (some ⟨tb, 0, none⟩)) ∧ w'.cell? ⟨Z + 1, 1, none⟩ = some (.int .i64 F2) ∧ w'.cell? ⟨Z + 1, 2, none⟩ = some (.int .i64 N2) ∧ w'.cell? ⟨PB, 0, none⟩ = some (.int .i64 tf) ∧ w'.cell? ⟨PB, 1, none⟩ = some (.int .i64 tn) := fun w' hf =>
          ⟨(hf.cell (lt_of_cell u0) (fun h => h)).trans u0, (hf.cell (lt_of_cell u1) (fun h => h)).trans u1, (hf.cell (lt_of_cell u2) (fun h => h)).trans u2, (hf.cell (lt_of_cell v0) (fun h => h)).trans v0, (hf.cell (lt_of_cell v1) (fun h => h)).trans v1, (hf.cell (lt_of_cell v2) (fun h => h)).trans v2, (hf.cell (lt_of_cell d0) (fun h => h)).trans d0, (hf.cell (lt_of_cell d1) (fun h => h)).trans d1⟩
        have HS := hide hS
        clear hS
        go_wp2_with fail
        go_region_held3 (fun w' => w'.cell? ⟨Z, 0, none⟩ = some (.pointer (some ⟨tb, 0, none⟩)) ∧ w'.cell? ⟨Z, 1, none⟩ = some (.int .i64 f) ∧ w'.cell? ⟨Z, 2, none⟩ = some (.int .i64 K) ∧ w'.cell? ⟨Z + 1, 0, none⟩ = some (.pointer (some ⟨tb, 0, none⟩)) ∧ w'.cell? ⟨Z + 1, 1, none⟩ = some (.int .i64 F2) ∧ w'.cell? ⟨Z + 1, 2, none⟩ = some (.int .i64 N2) ∧ w'.cell? ⟨PB, 0, none⟩ = some (.int .i64 tf) ∧ w'.cell? ⟨PB, 1, none⟩ = some (.int .i64 tn))
          (first | assumption | exact (unhide HS) _ (Fr.refl _ _).drew | exact (unhide HS) _ fE | exact (unhide HS) _ (fD.alloc _) | exact (unhide HS) _ fD | exact (unhide HS) _ fC)
          (first
            | (go_at_call 77; refine ((unhide HC).2.2.1 _ (by exact (unhide HF2).drew)).mono ?_; rintro e wC ⟨ao, cp, us, rfl, oC⟩; have fC : Fr (fun _ => False) wB wC := (Fr.refl _ _).drew.trans oC.own.fr (fun _ _ h => h))
            | (go_at_call 76; refine ((unhide HC).2.2.2.1 _ (by exact (unhide HF2).trans fC (fun _ _ h => h))).mono ?_; rintro e wD ⟨yo, yc, rfl, oD⟩; have fD : Fr (fun _ => False) wB wD := fC.trans oD.fr (fun _ _ h => h))
            | (obtain ⟨ao2, cp2, wE, hr2, hO2⟩ := oC.stepW M wi (unhide HC).2.2.2.2.1 yo yc oD (unhide HC).2.2.2.2.2.1 (by rw [oC.len]; exact (unhide HC).2.2.2.2.2.2); have fE : Fr (fun _ => False) wB wE := (Fr.refl _ _).drew.trans hO2.own.fr (fun _ _ h => h); refine step_app rfl (.tmp 22) (.tmp 25) 22 22 rfl _ _ _ (by simp [Act.eval]) (by simp [Act.eval]) hr2 ?_))
        have HE := hide (hO2.base ((unhide HF2).drew))
        clear oC oD hO2 hr2 fC fD fE
        go_wp2_with fail
        go_ret
        exact ⟨ao2, cp2, _, by rw [List.length_append]; rfl, unhide HE⟩
      · rw [decide_eq_false hl] at hbf
        have hrec := fun w' (hf' : Fr (fun _ => False) w w') => ih (f + hf n) (n - hf n) tf tn w' (by omega) (hT.fr0 hf') hA2 (by omega) (r2 hl)
        have hroot := fun w' (hf' : Fr (fun _ => False) w w') => root_any tb wi hw1 hw32 L _ f (hf n) w' (Nat.le_refl _) (hT.fr0 hf') hA1 (by omega)
        have hMw := hT.mw hw1 hw32 f (hf n)
        have hMb := hT.mb f (hf n)
        have hdl := dep_le _ (f + hf n) (n - hf n) tf tn (Nat.le_refl _)
        rw [← bes_len wi L _ (f + hf n) (n - hf n) tf tn (Nat.le_refl _)] at hdl
        unfold BesSays RootSays at *
        rw [bes_r h2 e hl]
        generalize bes wi L (f + hf n) (n - hf n) tf tn = BS at *
        generalize mth wi (blk L f (hf n)) = M at *
        have hbl : BS.length < 16000000 := by have := hT.len; omega
        clear hdl
        generalize f + hf n = F2 at *
        generalize n - hf n = N2 at *
        generalize hf n = K at *
        have HC := hide (And.intro hpt (And.intro hbf (And.intro hrec (And.intro hroot (And.intro hMw (And.intro hMb hbl))))))
        clear hpt hbf hrec hroot r1 r2 hr ih hlt hp hl hm h2 e hT hA1 hA2 hMw hMb hbl hL
        unfold sv pv at *
        go_enter Tryd.func77, Tryd.ntmps77
        go_wp2_with fail
        obtain ⟨W0, hW0⟩ : ∃ W0, (w.alloc (.cells #[.pointer (some ⟨tb, 0, none⟩), .int .i64 f, .int .i64 n] 79)).alloc (.cells #[.int .i64 tf, .int .i64 tn] 69) = W0 := ⟨_, rfl⟩
        rw [hW0]
        obtain ⟨b0, b1, hF0⟩ := boxAB w _ _ _ _ _ _ _ W0 hW0
        refine ((unhide HC).1 _).mono ?_
        rintro e' wA ⟨rfl, hFA⟩
        have c0 := (hFA.cell (lt_of_cell b0) (fun h => h)).trans b0
        have c1 := (hFA.cell (lt_of_cell b1) (fun h => h)).trans b1
        have HF := hide (hF0.trans hFA (fun _ _ h => h))
        clear hFA hF0 b0 b1 hW0
        generalize w.heap.size + 1 = PB at *
        have l0 : PB < wA.heap.size := lt_of_cell c0
        have l1 : PB < wA.heap.size + 1 := Nat.lt_succ_of_lt l0
        go_wp2_with fail
        obtain ⟨W1, hW1⟩ : ∃ W1, (wA.alloc (.cells #[.pointer (some ⟨tb, 0, none⟩), .int .i64 f, .int .i64 K] 79)).alloc (.cells #[.pointer (some ⟨tb, 0, none⟩), .int .i64 F2, .int .i64 N2] 79) = W1 := ⟨_, rfl⟩
        rw [hW1]
        obtain ⟨x0, x1, x2, y0, y1, y2, hF1⟩ := two3 wA _ _ _ _ _ _ _ W1 hW1
        refine ((unhide HC).2.1 _).mono ?_
        rintro e' wB ⟨rfl, hFB⟩
        have hF1B := hF1.trans hFB (fun _ _ h => h)
        have d0 := (hF1B.cell (lt_of_cell c0) (fun h => h)).trans c0
        have d1 := (hF1B.cell (lt_of_cell c1) (fun h => h)).trans c1
        have u0 := (hFB.cell (lt_of_cell x0) (fun h => h)).trans x0
        have u1 := (hFB.cell (lt_of_cell x1) (fun h => h)).trans x1
        have u2 := (hFB.cell (lt_of_cell x2) (fun h => h)).trans x2
        have v0 := (hFB.cell (lt_of_cell y0) (fun h => h)).trans y0
        have v1 := (hFB.cell (lt_of_cell y1) (fun h => h)).trans y1
        have v2 := (hFB.cell (lt_of_cell y2) (fun h => h)).trans y2
        have HF2 := hide ((unhide HF).trans hF1B (fun _ _ h => h))
        clear hF1 hFB hF1B hW1 x0 x1 x2 y0 y1 y2 c0 c1 HF l0 l1
        generalize wA.heap.size = Z at *
        have hS : ∀ w', Fr (fun _ => False) wB w' → w'.cell? ⟨Z + 1, 0, none⟩ = some (.pointer (some ⟨tb, 0, none⟩)) ∧ w'.cell? ⟨Z + 1, 1, none⟩ = some (.int .i64 F2) ∧ w'.cell? ⟨Z + 1, 2, none⟩ = some (.int .i64 N2) ∧ w'.cell? ⟨Z, 0, none⟩ = some (.pointer (some ⟨tb, 0, none⟩)) ∧ w'.cell? ⟨Z, 1, none⟩ = some (.int .i64 f) ∧ w'.cell? ⟨Z, 2, none⟩ = some (.int .i64 K) ∧ w'.cell? ⟨PB, 0, none⟩ = some (.int .i64 tf) ∧ w'.cell? ⟨PB, 1, none⟩ = some (.int .i64 tn) := fun w' hf =>
          ⟨(hf.cell (lt_of_cell v0) (fun h => h)).trans v0, (hf.cell (lt_of_cell v1) (fun h => h)).trans v1, (hf.cell (lt_of_cell v2) (fun h => h)).trans v2, (hf.cell (lt_of_cell u0) (fun h => h)).trans u0, (hf.cell (lt_of_cell u1) (fun h => h)).trans u1, (hf.cell (lt_of_cell u2) (fun h => h)).trans u2, (hf.cell (lt_of_cell d0) (fun h => h)).trans d0, (hf.cell (lt_of_cell d1) (fun h => h)).trans d1⟩
        have HS := hide hS
        clear hS
        go_wp2_with fail
        go_region_held3 (fun w' => w'.cell? ⟨Z + 1, 0, none⟩ = some (.pointer (some ⟨tb, 0, none⟩)) ∧ w'.cell? ⟨Z + 1, 1, none⟩ = some (.int .i64 F2) ∧ w'.cell? ⟨Z + 1, 2, none⟩ = some (.int .i64 N2) ∧ w'.cell? ⟨Z, 0, none⟩ = some (.pointer (some ⟨tb, 0, none⟩)) ∧ w'.cell? ⟨Z, 1, none⟩ = some (.int .i64 f) ∧ w'.cell? ⟨Z, 2, none⟩ = some (.int .i64 K) ∧ w'.cell? ⟨PB, 0, none⟩ = some (.int .i64 tf) ∧ w'.cell? ⟨PB, 1, none⟩ = some (.int .i64 tn))
          (first | assumption | exact (unhide HS) _ (Fr.refl _ _).drew | exact (unhide HS) _ fE | exact (unhide HS) _ (fD.alloc _) | exact (unhide HS) _ fD | exact (unhide HS) _ fC)
          (first
            | (go_at_call 77; refine ((unhide HC).2.2.1 _ (by exact (unhide HF2).drew)).mono ?_; rintro e wC ⟨ao, cp, us, rfl, oC⟩; have fC : Fr (fun _ => False) wB wC := (Fr.refl _ _).drew.trans oC.own.fr (fun _ _ h => h))
            | (go_at_call 76; refine ((unhide HC).2.2.2.1 _ (by exact (unhide HF2).trans fC (fun _ _ h => h))).mono ?_; rintro e wD ⟨yo, yc, rfl, oD⟩; have fD : Fr (fun _ => False) wB wD := fC.trans oD.fr (fun _ _ h => h))
            | (obtain ⟨ao2, cp2, wE, hr2, hO2⟩ := oC.stepW M wi (unhide HC).2.2.2.2.1 yo yc oD (unhide HC).2.2.2.2.2.1 (by rw [oC.len]; exact (unhide HC).2.2.2.2.2.2); have fE : Fr (fun _ => False) wB wE := (Fr.refl _ _).drew.trans hO2.own.fr (fun _ _ h => h); refine step_app rfl (.tmp 29) (.tmp 32) 22 22 rfl _ _ _ (by simp [Act.eval]) (by simp [Act.eval]) hr2 ?_))
        have HE := hide (hO2.base ((unhide HF2).drew))
        clear oC oD hO2 hr2 fC fD fE
        go_wp2_with fail
        go_ret
        exact ⟨ao2, cp2, _, by rw [List.length_append]; rfl, unhide HE⟩
end Go.Proofs.YthamfidjilclpaaDoor

