import Derived.Test.YtikolmpgnpkdbaaDoorPk6
import Derived.LaidHandle
import Derived.Deep.Slices
namespace Go.Proofs.YtikolmpgnpkdbaaDoor
open Go.RowKit Go.Extern.Stop Go.Stop Go.Extern

theorem rl_typeOfE (v : Value) (w : World) : (ReflectliteType.typeOf #[.iface 147 v]).run Tryd.prog w = .ok (.iface 133 (.agg #[.pointer (some ⟨9, 147, none⟩)])) w := by kernel_rfl

theorem rl_compE (w : World) : (callFunc 135 #[.agg #[.pointer (some ⟨9, 147, none⟩)]]).run Tryd.prog w = .ok (.value (.bool true)) w := by
  have h := @run_callFunc_extern Tryd.prog 135 _ (ReflectliteType.method fun t => do Rtype.noPackHeld "Comparable" t; pure (.bool (← typeInfo t).comparable)) Tryd.func135 (by kernel_rfl) (by kernel_rfl) (by kernel_rfl) (by kernel_rfl) #[.agg #[.pointer (some ⟨9, 147, none⟩)]] w
  exact h.trans (by kernel_rfl)
theorem rl_infoE : (Tryd.prog.info? 147).map (·.comparable) = some true := by kernel_rfl
theorem rl_sizeE : (Tryd.prog.info? 166).map (·.size) = some 1 := by kernel_rfl
theorem ta_noIs (v : Value) (xT : TypeId) (w : World) : (Instr.typeAssert (.iface 64 v) xT 144 true).run Tryd.prog w = .ok (.tuple #[.nilIface, .bool false]) w := run_typeAssert_lacksB Tryd.underlying144 (by kernel_rfl) (by kernel_rfl) v xT w
theorem ta_hasUnwrap (v : Value) (xT : TypeId) (w : World) : (Instr.typeAssert (.iface 64 v) xT 140 true).run Tryd.prog w = .ok (.tuple #[.iface 64 v, .bool true]) w := run_typeAssert_hasB Tryd.underlying140 (by kernel_rfl) v xT w
theorem m_unwrap (fuel : Nat) (v : Value) (w : World) : (Go.method (fuel + 1) 64 v "Unwrap").run Tryd.prog w = .ok (129, v) w := by kernel_rfl

set_option maxRecDepth 100000 in
set_option maxHeartbeats 4000000 in
theorem is_fault (fb place : Nat) (what : ByteArray) (ea : Addr) (w : World) (hf : w.heap[fb]? = some (faultObj what place ea)) :
    Calls Tryd.prog 69 #[.iface 64 (.pointer (some ⟨fb, 0, none⟩)), .iface 147 (.pointer (some ea))] w fun ev w' => ev = .returned (.bool true) ∧ w' = w := by
  have h7 := @run_callFunc_extern Tryd.prog 101 _ ReflectliteType.typeOf Tryd.func101 (by kernel_rfl) (by kernel_rfl) (by kernel_rfl) (by kernel_rfl)
  have f8 := rl_typeOfE
  have m5 := rl_mComp
  obtain ⟨i, hi, hcmp⟩ := Option.map_eq_some_iff.1 rl_infoE
  obtain ⟨j, hj, hjs⟩ := Option.map_eq_some_iff.1 rl_sizeE
  have f9 := rl_compE
  have t1 := ta_noIs
  have t2 := ta_hasUnwrap
  have m6 := m_unwrap
  have heq := run_eql_iface_ptr_same (P := Tryd.prog) w ea Tryd.underlying35 Tryd.underlying147 hi hcmp hj
  have c0 : w.cell? ⟨fb, 0, none⟩ = some (.string what) := by simp [World.cell?, hf, faultObj]
  have c1 : w.cell? ⟨fb, 1, none⟩ = some (.int .i64 place) := by simp [World.cell?, hf, faultObj]
  have c2 : w.cell? ⟨fb, 2, none⟩ = some (.iface 147 (.pointer (some ea))) := by simp [World.cell?, hf, faultObj]
  have hty := run_eql_iface_types (P := Tryd.prog) 64 147 (.pointer (some ⟨fb, 0, none⟩)) (.pointer (some ea)) Tryd.underlying35 (by decide) w
  clear hf
  go_enter Tryd.func69, Tryd.ntmps69
  go_wp2
  refine wp_loop_rounds 2 ?_
  rw [rounds_succ]
  go_wp2
  rw [rounds_succ]
  go_wp2
  go_ret
  exact ⟨rfl, rfl⟩
end Go.Proofs.YtikolmpgnpkdbaaDoor

namespace Go.Proofs.YtikolmpgnpkdbaaDoor
open Go.RowKit

/-- All the errors that a statement knows by number. -/
structure G7 (w : World) (E : Nat → Addr) : Prop where
  gl : Gl w E
  e4 : Rg w (E 4)
  e5 : w.cell? ⟨5, 0, none⟩ = some (.iface 147 (.pointer (some (E 5))))
  e6 : w.cell? ⟨6, 0, none⟩ = some (.iface 147 (.pointer (some (E 6))))
  e7 : w.cell? ⟨7, 0, none⟩ = some (.iface 147 (.pointer (some (E 7))))
  et : Et w
theorem G7.fr {w w' : World} {E : Nat → Addr} {S : Nat → Prop} (h : G7 w E) (hf : Fr S w w') (hS : ∀ k, S k → 9 ≤ k) : G7 w' E := by
  have key : ∀ (n : Nat) (v : Value), n < 9 → w.cell? ⟨n, 0, none⟩ = some v → w'.cell? ⟨n, 0, none⟩ = some v := fun n v hn hv =>
    (hf.cell (lt_of_cell hv) (fun hs => by have := hS _ hs; simp only at this; omega)).trans hv
  exact ⟨h.gl.fr hf hS, h.e4.fr hf hS, key _ _ (by decide) h.e5, key _ _ (by decide) h.e6, key _ _ (by decide) h.e7, h.et.fr hf hS⟩

theorem reason_any (n : Nat) (E : Nat → Addr) (w : World) (hg : G7 w E) (h1 : 1 ≤ n) (h7 : n ≤ 7) :
    Calls Tryd.prog 38 #[.int .i64 n] w fun e w' => e = .returned (.iface 147 (.pointer (some (E n)))) ∧ w' = w := by
  obtain ⟨⟨g1, g2, g3⟩, g4, g5, g6, g7, _⟩ := hg
  unfold Rg at g4
  have hn : n = 1 ∨ n = 2 ∨ n = 3 ∨ n = 4 ∨ n = 5 ∨ n = 6 ∨ n = 7 := by omega
  rcases hn with rfl | rfl | rfl | rfl | rfl | rfl | rfl
  all_goals
    go_enter Tryd.func38, Tryd.ntmps38
    go_wp2
    go_ret
    exact ⟨rfl, rfl⟩
theorem reason_none (w : World) : Calls Tryd.prog 38 #[.int .i64 0] w fun e w' => e = .returned .nilIface ∧ w' = w := by
  go_enter Tryd.func38, Tryd.ntmps38
  go_wp2
  go_ret
  exact ⟨rfl, rfl⟩

theorem told_nil (what : ByteArray) (place : Int) (w : World) :
    Calls Tryd.prog 28 #[.nilIface, .agg #[.string what, .int .i64 place, .int .i64 0]] w fun e w' => e = .returned (.bool true) ∧ Fr (fun _ => False) w w' := by
  go_enter Tryd.func28, Tryd.ntmps28
  go_wp2
  go_ret
  exact ⟨rfl, box1 _ _⟩

set_option maxRecDepth 100000 in
set_option maxHeartbeats 2000000 in
theorem told_fault (n fb place : Nat) (what : ByteArray) (E : Nat → Addr) (w : World) (hg : G7 w E) (h1 : 1 ≤ n) (h7 : n ≤ 7) (hf : w.heap[fb]? = some (faultObj what place (E n))) :
    Calls Tryd.prog 28 #[.iface 64 (.pointer (some ⟨fb, 0, none⟩)), .agg #[.string what, .int .i64 place, .int .i64 n]] w fun e w' => e = .returned (.bool true) ∧ Fr (fun _ => False) w w' := by
  have hn0 : ((n : Int) == 0) = false := by rw [beq_eq_false_iff_ne]; omega
  have H := hide (And.intro hg hf)
  clear hg hf
  go_enter Tryd.func28, Tryd.ntmps28
  go_wp2_with fail
  have hF := box2 w (.cells #[.string what, .int .i64 place, .int .i64 n] 55) (.cells #[.pointer none] 64)
  refine (as_fault ⟨fb, 0, none⟩ ⟨w.heap.size + 1, 0, none⟩ (.pointer none) _ ((unhide H).1.et.fr0 hF) (by simp) (by simp)).mono ?_
  rintro e w1 ⟨rfl, ct, hf1⟩
  have hA1 : Fr (fun _ => False) w w1 := hF.trans hf1 (fun i hi h => by have h' : i = w.heap.size + 1 := h; omega)
  have hg1 := (unhide H).1.fr hA1 (fun _ h => h.elim)
  have hlt : fb < w.heap.size := by
    rcases Nat.lt_or_ge fb w.heap.size with h0 | h0
    · exact h0
    · have := (unhide H).2; rw [Array.getElem?_eq_none h0] at this; cases this
  have ho1 : w1.heap[fb]? = some (faultObj what place (E n)) := (hA1.block fb hlt (fun h => h)).trans (unhide H).2
  have hbx : ∀ i, w1.cell? ⟨w.heap.size, i, none⟩ = ((w.alloc (.cells #[.string what, .int .i64 place, .int .i64 n] 55)).alloc (.cells #[.pointer none] 64)).cell? ⟨w.heap.size, i, none⟩ := fun i => hf1.cell (by simp; omega) (by show ¬ w.heap.size = w.heap.size + 1; omega)
  have b0 : w1.cell? ⟨w.heap.size, 0, none⟩ = some (.string what) := (hbx 0).trans (by simp)
  have b1 : w1.cell? ⟨w.heap.size, 1, none⟩ = some (.int .i64 place) := (hbx 1).trans (by simp)
  have b2 : w1.cell? ⟨w.heap.size, 2, none⟩ = some (.int .i64 n) := (hbx 2).trans (by simp)
  have c0 : w1.cell? ⟨fb, 0, none⟩ = some (.string what) := by simp [World.cell?, ho1, faultObj]
  have c1 : w1.cell? ⟨fb, 1, none⟩ = some (.int .i64 place) := by simp [World.cell?, ho1, faultObj]
  have c2 : w1.cell? ⟨fb, 2, none⟩ = some (.iface 147 (.pointer (some (E n)))) := by simp [World.cell?, ho1, faultObj]
  have H1 := hide (And.intro hA1 (And.intro hg1 ho1))
  clear hF hf1 hA1 hg1 ho1 hbx
  go_wp2_with fail
  refine (reason_any n E w1 (unhide H1).2.1 h1 h7).mono ?_
  rintro e w2 ⟨rfl, rfl⟩
  go_wp2_with fail
  refine (is_fault fb place what (E n) w2 (unhide H1).2.2).mono ?_
  rintro e w3 ⟨rfl, rfl⟩
  obtain ⟨i, hi, hcmp⟩ := Option.map_eq_some_iff.1 rl_infoE
  obtain ⟨j, hj, hjs⟩ := Option.map_eq_some_iff.1 rl_sizeE
  have heq : ∀ wx : World, (binOp .eql 35 (.iface 147 (.pointer (some (E n)))) (.iface 147 (.pointer (some (E n))))).run Tryd.prog wx = .ok (.bool true) wx := fun wx => run_eql_iface_ptr_same (P := Tryd.prog) wx (E n) Tryd.underlying35 Tryd.underlying147 hi hcmp hj
  clear hi hcmp hj hjs
  go_wp2_with fail
  go_quiet ((go_at_call 38; exact Calls.quiet_of_same (reason_any n E _ ((unhide H1).2.1.fr ((Fr.refl (fun _ => False) _).drewN _) (fun _ h => h.elim)) h1 h7)))
  go_wp2_with fail
  go_ret
  exact ⟨rfl, (unhide H1).1.drewN _⟩
end Go.Proofs.YtikolmpgnpkdbaaDoor

namespace Go.Proofs.YtikolmpgnpkdbaaDoor
open Go.ChangeShapes Go.WideShapes Go.ChangeAt Go.RowKit
set_option maxRecDepth 100000

theorem Tryd.etG : Tryd.prog.globalNamed "errors.errorType" = some 8 := by kernel_rfl
theorem Tryd.rtT : (Tryd.prog.cutTypes.find? (·.1 == "internal/reflectlite.rtype")).map (·.2) = some 133 := by kernel_rfl
theorem Tryd.oneErr : ((List.range Tryd.prog.types.size).filter fun t => Tryd.prog.rowNamed t [101, 114, 114, 111, 114]) = [35] := by kernel_rfl
theorem Tryd.hanErr : typeHandle Tryd.prog 35 = .pointer (some ⟨9, 35, none⟩) := by kernel_rfl

/-- The data of the seven errors, in the rows' order. -/
def laid7 : List (String × DataW Unit) := [("almoner/api.ErrShort", Rows.laid_almoner_api_ErrShort), ("almoner/api.ErrLong", Rows.laid_almoner_api_ErrLong), ("almoner/api.ErrTrailing", Rows.laid_almoner_api_ErrTrailing), ("almoner/api.ErrRange", Rows.laid_almoner_api_ErrRange), ("almoner/api.ErrKind", Rows.laid_almoner_api_ErrKind), ("almoner/api.ErrOrder", Rows.laid_almoner_api_ErrOrder), ("almoner/almonerlaw1.own", Rows.laid_almoner_almonerlaw1_own)]
theorem et_of_laid {W : World} (h : handlesMet Tryd.prog [("errors.errorType", Rows.laid_errors_errorType)] W) : Et W := by
  obtain ⟨name, u, ty, e1, e2, e3, e4, e5⟩ := h _ (List.mem_singleton.2 rfl)
  have en : name = [101, 114, 114, 111, 114] := (Option.some.inj e1).symm
  subst en
  obtain rfl := Option.some.inj (Tryd.rtT.symm.trans e2)
  have hm : ty ∈ (List.range Tryd.prog.types.size).filter fun t => Tryd.prog.rowNamed t [101, 114, 114, 111, 114] := List.mem_filter.2 ⟨List.mem_range.2 e3, e4⟩
  rw [Tryd.oneErr] at hm
  obtain rfl := List.mem_singleton.1 hm
  rw [Tryd.hanErr] at e5
  unfold Et
  simpa using World.var?_cell Tryd.etG e5 0
theorem g7_of_laid {W : World} (h : laidMetH Tryd.prog (("errors.errorType", Rows.laid_errors_errorType) :: laid7) W) : ∃ E, G7 W E := by
  have h' : laidMet Tryd.prog laid7 W ∧ handlesMet Tryd.prog [("errors.errorType", Rows.laid_errors_errorType)] W := h
  obtain ⟨a1, h1⟩ := sentinel_cell h'.1 (.head _) (g := 3) (by kernel_rfl) (by kernel_rfl)
  obtain ⟨a2, h2⟩ := sentinel_cell h'.1 (.tail _ (.head _)) (g := 4) (by kernel_rfl) (by kernel_rfl)
  obtain ⟨a3, h3⟩ := sentinel_cell h'.1 (.tail _ (.tail _ (.head _))) (g := 0) (by kernel_rfl) (by kernel_rfl)
  obtain ⟨a4, h4⟩ := sentinel_cell h'.1 (.tail _ (.tail _ (.tail _ (.head _)))) (g := 1) (by kernel_rfl) (by kernel_rfl)
  obtain ⟨a5, h5⟩ := sentinel_cell h'.1 (.tail _ (.tail _ (.tail _ (.tail _ (.head _))))) (g := 5) (by kernel_rfl) (by kernel_rfl)
  obtain ⟨a6, h6⟩ := sentinel_cell h'.1 (.tail _ (.tail _ (.tail _ (.tail _ (.tail _ (.head _)))))) (g := 6) (by kernel_rfl) (by kernel_rfl)
  obtain ⟨a7, h7⟩ := sentinel_cell h'.1 (.tail _ (.tail _ (.tail _ (.tail _ (.tail _ (.tail _ (.head _))))))) (g := 7) (by kernel_rfl) (by kernel_rfl)
  exact ⟨fun n => if n = 1 then a1 else if n = 2 then a2 else if n = 3 then a3 else if n = 4 then a4 else if n = 5 then a5 else if n = 6 then a6 else a7, ⟨h1, h2, h3⟩, h4, h5, h6, h7, et_of_laid h'.2⟩

/-- A world for a witness, errors.errorType laid too. -/
noncomputable def errWorld8 (os : Os) : World :=
  let w0 := errWorld os
  { w0 with heap := w0.heap.modify 8 fun
      | .cells _ t frozen => .cells #[.iface 133 (.agg #[.pointer (some ⟨9, 35, none⟩)])] t frozen
      | o => o }
end Go.Proofs.YtikolmpgnpkdbaaDoor

namespace Go.Proofs.YtikolmpgnpkdbaaDoor
open Go.ChangeShapes Go.WideShapes Go.ChangeAt Go.RowKit Go.Deep
set_option maxRecDepth 100000

theorem Tryd.cellsPart : Tryd.prog.cellsOf 31 = 5 := by kernel_rfl
theorem Tryd.cellsInt : Tryd.prog.cellsOf 3 = 1 := by kernel_rfl
theorem Tryd.cellsU64 : Tryd.prog.cellsOf 29 = 1 := by kernel_rfl

theorem part_of_trod {H : Type} {enc : TypeId × Value → H} {W : World} {base fuel : Nat} {sp : Nat → Bool} {held : Bool} {cs : List Value} {x : DataW H × List MemPlace} (h : DataW.trod enc Tryd.prog W base sp held fuel 31 cs = some x) :
    ∃ p : Pt, cs = [.int .i64 p.k, .int .u64 p.u, .string p.s, .int .i64 p.n, .int .i64 p.m] ∧ p.ok ∧ Rows.uptoBulk x.1 = 6 + p.s.size := by
  obtain ⟨xs, n, _, rfl, hl, hlen, hf⟩ := DataW.trod_struct Tryd.underlying31 h
  rw [Tryd.cellsPart] at hl
  have h0 := hf 0 _ rfl
  have h1 := hf 1 _ rfl
  have h2 := hf 2 _ rfl
  have h3 := hf 3 _ rfl
  have h4 := hf 4 _ rfl
  match cs, hl with
  | [c0, c1, c2, c3, c4], _ =>
    match xs, hlen with
    | [y0, y1, y2, y3, y4], _ =>
      simp [Tryd.cellsInt, Tryd.cellsU64, Tryd.cellsS] at h0 h1 h2 h3 h4
      obtain ⟨k, e0, rfl, wk⟩ := DataW.trod_int Tryd.underlying3 h0
      obtain ⟨u, e1, rfl, wu⟩ := DataW.trod_int Tryd.underlying29 h1
      obtain ⟨s, e2, rfl, ws⟩ := DataW.trod_string Tryd.underlying9 h2
      obtain ⟨nn, e3, rfl, wn⟩ := DataW.trod_int Tryd.underlying3 h3
      obtain ⟨m, e4, rfl, wm⟩ := DataW.trod_int Tryd.underlying3 h4
      simp only [List.cons.injEq, and_true] at e0 e1 e2 e3 e4
      subst e0 e1 e2 e3 e4
      have bu := bounds_u64 wu
      have bn := bounds_i64 wn
      have bm := bounds_i64 wm
      refine ⟨⟨k, u.toNat, s, nn, m⟩, ?_, ⟨?_, ?_, ?_⟩, ?_⟩
      · have e : ((u.toNat : Nat) : Int) = u := by omega
        simp [e]
      · show u.toNat < _; omega
      · show nn < _; omega
      · show m < _; omega
      · simp [Rows.uptoBulk, Rows.uptoBulkAll]
        omega

theorem bulk_map {H : Type} (D : Nat → DataW H) (Q : Nat → Pt) : ∀ l : List Nat, (∀ i ∈ l, Rows.uptoBulk (D i) = 6 + (Q i).s.size) → weight (l.map Q) ≤ 2 * Rows.uptoBulkAll (l.map D) ∧ l.length ≤ Rows.uptoBulkAll (l.map D)
  | [], _ => by simp [weight, Rows.uptoBulkAll]
  | i :: r, h => by
    have ih := bulk_map D Q r (fun j hj => h j (by simp [hj]))
    have hi := h i (by simp)
    simp only [List.map_cons, Rows.uptoBulkAll, weight, List.sum_cons, List.length_cons] at ih ⊢
    omega

theorem psrc_of_reading {H : Type} {enc : TypeId × Value → H} {W : World} {base : Nat} {v : Value} {d : DataW H} {p : List MemPlace} (hval : Value.okWide Tryd.prog W .any base 22 v) (h : DataW.Trod enc Tryd.prog W 0 (fun _ => true) true 22 v d p) :
    ∃ A : List Pt, PSrc W v A ∧ (∀ p ∈ A, p.ok) ∧ weight A ≤ 2 * Rows.uptoBulk d ∧ A.length ≤ Rows.uptoBulk d := by
  obtain ⟨a0, len, cap, rfl⟩ := okWide_slice Tryd.underlying22 hval
  obtain ⟨fuel, hf⟩ := h
  rcases open_slice Tryd.underlying22 hf with ⟨hcs, hx⟩ | ⟨a, len', cap', m, n, D, Pl, hcs, _, hl, hm, hmm, hx, hel⟩
  · simp [Value.cells] at hcs
    obtain ⟨rfl, rfl, rfl⟩ := hcs
    exact ⟨[], .inl ⟨none, 0, rfl, rfl⟩, by simp, by simp [weight], by simp⟩
  · simp [Value.cells] at hcs
    obtain ⟨rfl, rfl, rfl⟩ := hcs
    simp only [Prod.mk.injEq] at hx
    obtain ⟨rfl, -⟩ := hx
    simp only [if_true] at hmm
    subst hmm
    have hp : ∀ i, ∃ p : Pt, i < m → (p.ok ∧ Rows.uptoBulk (D i) = 6 + p.s.size ∧ ∀ j, j < 5 → W.cell? ((a.add (i * 5)).add j) = [Value.int .i64 p.k, .int .u64 p.u, .string p.s, .int .i64 p.n, .int .i64 p.m][j]?) := fun i => by
      by_cases hi : i < m
      · obtain ⟨cs', h1, h2⟩ := hel i hi
        rw [Tryd.cellsPart] at h1
        obtain ⟨_, hlen, hcell⟩ := World.cells?_some h1
        obtain ⟨p, rfl, hok, hb⟩ := part_of_trod h2
        exact ⟨p, fun _ => ⟨hok, hb, hcell⟩⟩
      · exact ⟨⟨0, 0, ByteArray.empty, 0, 0⟩, fun h => absurd h hi⟩
    obtain ⟨Q, hQ⟩ : ∃ Q : Nat → Pt, ∀ i, i < m → ((Q i).ok ∧ Rows.uptoBulk (D i) = 6 + (Q i).s.size ∧ ∀ j, j < 5 → W.cell? ((a.add (i * 5)).add j) = [Value.int .i64 (Q i).k, .int .u64 (Q i).u, .string (Q i).s, .int .i64 (Q i).n, .int .i64 (Q i).m][j]?) := ⟨fun i => Classical.choose (hp i), fun i => Classical.choose_spec (hp i)⟩
    have hbulk := bulk_map D Q (List.range len) (fun i hi => (hQ i (by have := List.mem_range.1 hi; omega)).2.1)
    have hd : Rows.uptoBulkAll ((List.range len).map D) ≤ Rows.uptoBulk (DataW.slice ((List.range len).map D) ((List.range (m - len)).map fun j => D (len + j)) : DataW H) := by
      simp only [Rows.uptoBulk]; omega
    refine ⟨(List.range len).map Q, ?_, ?_, by omega, by simp at hbulk ⊢; omega⟩
    · by_cases h0 : len = 0
      · subst h0
        exact .inl ⟨some a, m, by simp, by simp⟩
      · have hc0 := (hQ 0 (by omega)).2.2 0 (by decide)
        obtain ⟨g, o, sp⟩ := a
        have hsp : sp = none := by simpa [Addr.add] using World.cell?_spot hc0
        subst hsp
        refine .inr ⟨g, o, m, by simp, fun j hj => ?_⟩
        have hj' : j < len := by simpa using hj
        have hq := (hQ j (by omega)).2.2
        have ad : ∀ o i, (⟨g, o, none⟩ : Addr).add i = ⟨g, o + i, none⟩ := fun o i => by unfold Addr.add; split <;> simp_all
        have e : ∀ i, ((⟨g, o, none⟩ : Addr).add (j * 5)).add i = ⟨g, o + j * 5 + i, none⟩ := fun i => by rw [ad, ad]
        have q0 := hq 0 (by decide)
        have q1 := hq 1 (by decide)
        have q2 := hq 2 (by decide)
        have q3 := hq 3 (by decide)
        have q4 := hq 4 (by decide)
        rw [e] at q0 q1 q2 q3 q4
        simp at q0 q1 q2 q3 q4
        simp only [List.getElem_map, List.getElem_range]
        exact ⟨q0, q1, q2, q3, q4⟩
    · intro p hp
      obtain ⟨i, hi, rfl⟩ := List.mem_map.1 hp
      exact (hQ i (by have := List.mem_range.1 hi; omega)).1
end Go.Proofs.YtikolmpgnpkdbaaDoor

namespace Go.Proofs.YtikolmpgnpkdbaaDoor
open Go.RowKit

theorem BadR.before {w wk w' : World} {b : Nat} {fa ea : Addr} {nm : ByteArray} {place : Nat} (h : BadR wk w' b fa nm place ea) (hf : Fr (fun k => k = b) w wk) : BadR w w' b fa nm place ea :=
  ⟨hf.trans h.fr (fun _ _ e => e), h.c0, h.c1, h.fz, ⟨h.blk.1, h.blk.2.1, Nat.le_trans hf.size h.blk.2.2⟩, h.c⟩

set_option maxRecDepth 100000 in
set_option maxHeartbeats 400000 in
theorem rp_uint8_clob (b Fc : Nat) (caps : Array Value) (p0 p1 p2 : Addr) (nm : ByteArray) (sv : Value) (all : List Nat) (place part : Nat) (ea : Addr) (w : World) (h : Rc w b nm sv all place part)
    (hp0 : w.cell? p0 = some (.pointer (some ⟨b, 0, none⟩))) (hp1 : w.cell? p1 = some (.func (.func Fc) #[] caps)) (n0 : p0.block ≠ b) (n1 : p1.block ≠ b)
    (he : ∀ W, (callFunc Fc caps).run Tryd.prog W = .ok (.enter Fc caps) W)
    (hread : ∀ wk, Fr (fun k => k = b) w wk → Rc wk b nm sv all place place → Calls Tryd.prog Fc caps wk fun e w' => ∃ fa, e = .panicked [thrown fa] ∧ BadR wk w' b fa nm place ea) :
    Calls Tryd.prog 92 #[.pointer (some p0), .pointer (some p1), .pointer (some p2)] w fun e w' => ∃ fa, e = .panicked [thrown fa] ∧ BadR w w' b fa nm place ea := by
  have HR := hide hread
  have HP := hide (h.parted place)
  have h3 := h.c3
  have h4 := h.c4
  have z4 := h.fz 4
  have q1 : (w.setCell ⟨b, 4, none⟩ (.int .i64 place)).drew.cell? p1 = some (.func (.func Fc) #[] caps) := ((unhide HP).2.cell (lt_of_cell hp1) n1).trans hp1
  have q0 : (w.setCell ⟨b, 4, none⟩ (.int .i64 place)).drew.cell? p0 = some (.pointer (some ⟨b, 0, none⟩)) := ((unhide HP).2.cell (lt_of_cell hp0) n0).trans hp0
  clear hread h hp1
  simp only [World.cell?_drew] at q1 q0
  go_enter Tryd.func92, Tryd.ntmps92
  go_wp2_with fail
  go_region
  all_goals
    go_wp2_with fail
    refine (unhide HR _ (unhide HP).2 (unhide HP).1).mono ?_
    rintro e w1 ⟨fa, rfl, hB⟩
    exact ⟨rfl, fa, rfl, hB.before (unhide HP).2⟩
theorem rp_uint8_attb {wb : World} (b Fc : Nat) (caps : Array Value) (p0 p1 p2 : Addr) (nm : ByteArray) (sv : Value) (all : List Nat) (place part : Nat) (ea : Addr) (h : Rc wb b nm sv all place part)
    (hp0 : wb.cell? p0 = some (.pointer (some ⟨b, 0, none⟩))) (hp1 : wb.cell? p1 = some (.func (.func Fc) #[] caps)) (n0 : p0.block ≠ b) (n1 : p1.block ≠ b)
    (he : ∀ W, (callFunc Fc caps).run Tryd.prog W = .ok (.enter Fc caps) W)
    (hread : ∀ wk, Fr (fun k => k = b) wb wk → Rc wk b nm sv all place place → Calls Tryd.prog Fc caps wk fun e w' => ∃ fa, e = .panicked [thrown fa] ∧ BadR wk w' b fa nm place ea) :
    Calls Tryd.prog 54 #[.pointer (some ⟨b, 0, none⟩), .func (.func 92) #[] #[.pointer (some p0), .pointer (some p1), .pointer (some p2)]] wb fun e w' => e = .returned (.tuple #[]) ∧ ∃ w1 fa, BadR wb w1 b fa nm place ea ∧ w' = w1.setCell ⟨b, 1, none⟩ (.pointer (some fa)) := by
  have hk : Fr (fun _ => False) wb (wb.alloc (.cells #[.pointer (some ⟨b, 0, none⟩)] 108)) := (Fr.refl _ _).alloc _
  have hkb : Fr (fun k => k = b) wb (wb.alloc (.cells #[.pointer (some ⟨b, 0, none⟩)] 108)) := (Fr.refl _ _).alloc _
  have hlt : b < wb.heap.size := lt_of_cell h.c0
  refine (attempt_bad b 92 _ (fun w' fa => BadR (wb.alloc (.cells #[.pointer (some ⟨b, 0, none⟩)] 108)) w' b fa nm place ea) wb h.c1 (enters Tryd.func92 (by kernel_rfl) (by kernel_rfl) _) ?_ (fun w' fa hB => ⟨(hB.fr.cell (by simp) (by show ¬ wb.heap.size = b; omega)).trans (c10 _ _ _), hB.c1, hB.fz 1⟩)).mono ?_
  · exact rp_uint8_clob b Fc caps p0 p1 p2 nm sv all place part ea _ (h.frame hk (fun h => h) (fun _ _ _ _ _ h => h)) ((hk.cell (lt_of_cell hp0) (fun h => h)).trans hp0) ((hk.cell (lt_of_cell hp1) (fun h => h)).trans hp1) n0 n1 he (fun wk hf hr => hread wk (hkb.trans hf (fun _ _ h => h)) hr)
  · rintro e w' ⟨rfl, w1, fa, hB, rfl⟩
    exact ⟨rfl, w1, fa, hB.before hkb, rfl⟩
set_option maxRecDepth 100000 in
set_option maxHeartbeats 400000 in
theorem rp_uint16_clob (b Fc : Nat) (caps : Array Value) (p0 p1 p2 : Addr) (nm : ByteArray) (sv : Value) (all : List Nat) (place part : Nat) (ea : Addr) (w : World) (h : Rc w b nm sv all place part)
    (hp0 : w.cell? p0 = some (.pointer (some ⟨b, 0, none⟩))) (hp1 : w.cell? p1 = some (.func (.func Fc) #[] caps)) (n0 : p0.block ≠ b) (n1 : p1.block ≠ b)
    (he : ∀ W, (callFunc Fc caps).run Tryd.prog W = .ok (.enter Fc caps) W)
    (hread : ∀ wk, Fr (fun k => k = b) w wk → Rc wk b nm sv all place place → Calls Tryd.prog Fc caps wk fun e w' => ∃ fa, e = .panicked [thrown fa] ∧ BadR wk w' b fa nm place ea) :
    Calls Tryd.prog 95 #[.pointer (some p0), .pointer (some p1), .pointer (some p2)] w fun e w' => ∃ fa, e = .panicked [thrown fa] ∧ BadR w w' b fa nm place ea := by
  have HR := hide hread
  have HP := hide (h.parted place)
  have h3 := h.c3
  have h4 := h.c4
  have z4 := h.fz 4
  have q1 : (w.setCell ⟨b, 4, none⟩ (.int .i64 place)).drew.cell? p1 = some (.func (.func Fc) #[] caps) := ((unhide HP).2.cell (lt_of_cell hp1) n1).trans hp1
  have q0 : (w.setCell ⟨b, 4, none⟩ (.int .i64 place)).drew.cell? p0 = some (.pointer (some ⟨b, 0, none⟩)) := ((unhide HP).2.cell (lt_of_cell hp0) n0).trans hp0
  clear hread h hp1
  simp only [World.cell?_drew] at q1 q0
  go_enter Tryd.func95, Tryd.ntmps95
  go_wp2_with fail
  go_region
  all_goals
    go_wp2_with fail
    refine (unhide HR _ (unhide HP).2 (unhide HP).1).mono ?_
    rintro e w1 ⟨fa, rfl, hB⟩
    exact ⟨rfl, fa, rfl, hB.before (unhide HP).2⟩
theorem rp_uint16_attb {wb : World} (b Fc : Nat) (caps : Array Value) (p0 p1 p2 : Addr) (nm : ByteArray) (sv : Value) (all : List Nat) (place part : Nat) (ea : Addr) (h : Rc wb b nm sv all place part)
    (hp0 : wb.cell? p0 = some (.pointer (some ⟨b, 0, none⟩))) (hp1 : wb.cell? p1 = some (.func (.func Fc) #[] caps)) (n0 : p0.block ≠ b) (n1 : p1.block ≠ b)
    (he : ∀ W, (callFunc Fc caps).run Tryd.prog W = .ok (.enter Fc caps) W)
    (hread : ∀ wk, Fr (fun k => k = b) wb wk → Rc wk b nm sv all place place → Calls Tryd.prog Fc caps wk fun e w' => ∃ fa, e = .panicked [thrown fa] ∧ BadR wk w' b fa nm place ea) :
    Calls Tryd.prog 54 #[.pointer (some ⟨b, 0, none⟩), .func (.func 95) #[] #[.pointer (some p0), .pointer (some p1), .pointer (some p2)]] wb fun e w' => e = .returned (.tuple #[]) ∧ ∃ w1 fa, BadR wb w1 b fa nm place ea ∧ w' = w1.setCell ⟨b, 1, none⟩ (.pointer (some fa)) := by
  have hk : Fr (fun _ => False) wb (wb.alloc (.cells #[.pointer (some ⟨b, 0, none⟩)] 108)) := (Fr.refl _ _).alloc _
  have hkb : Fr (fun k => k = b) wb (wb.alloc (.cells #[.pointer (some ⟨b, 0, none⟩)] 108)) := (Fr.refl _ _).alloc _
  have hlt : b < wb.heap.size := lt_of_cell h.c0
  refine (attempt_bad b 95 _ (fun w' fa => BadR (wb.alloc (.cells #[.pointer (some ⟨b, 0, none⟩)] 108)) w' b fa nm place ea) wb h.c1 (enters Tryd.func95 (by kernel_rfl) (by kernel_rfl) _) ?_ (fun w' fa hB => ⟨(hB.fr.cell (by simp) (by show ¬ wb.heap.size = b; omega)).trans (c10 _ _ _), hB.c1, hB.fz 1⟩)).mono ?_
  · exact rp_uint16_clob b Fc caps p0 p1 p2 nm sv all place part ea _ (h.frame hk (fun h => h) (fun _ _ _ _ _ h => h)) ((hk.cell (lt_of_cell hp0) (fun h => h)).trans hp0) ((hk.cell (lt_of_cell hp1) (fun h => h)).trans hp1) n0 n1 he (fun wk hf hr => hread wk (hkb.trans hf (fun _ _ h => h)) hr)
  · rintro e w' ⟨rfl, w1, fa, hB, rfl⟩
    exact ⟨rfl, w1, fa, hB.before hkb, rfl⟩
set_option maxRecDepth 100000 in
set_option maxHeartbeats 400000 in
theorem rp_uint32_clob (b Fc : Nat) (caps : Array Value) (p0 p1 p2 : Addr) (nm : ByteArray) (sv : Value) (all : List Nat) (place part : Nat) (ea : Addr) (w : World) (h : Rc w b nm sv all place part)
    (hp0 : w.cell? p0 = some (.pointer (some ⟨b, 0, none⟩))) (hp1 : w.cell? p1 = some (.func (.func Fc) #[] caps)) (n0 : p0.block ≠ b) (n1 : p1.block ≠ b)
    (he : ∀ W, (callFunc Fc caps).run Tryd.prog W = .ok (.enter Fc caps) W)
    (hread : ∀ wk, Fr (fun k => k = b) w wk → Rc wk b nm sv all place place → Calls Tryd.prog Fc caps wk fun e w' => ∃ fa, e = .panicked [thrown fa] ∧ BadR wk w' b fa nm place ea) :
    Calls Tryd.prog 104 #[.pointer (some p0), .pointer (some p1), .pointer (some p2)] w fun e w' => ∃ fa, e = .panicked [thrown fa] ∧ BadR w w' b fa nm place ea := by
  have HR := hide hread
  have HP := hide (h.parted place)
  have h3 := h.c3
  have h4 := h.c4
  have z4 := h.fz 4
  have q1 : (w.setCell ⟨b, 4, none⟩ (.int .i64 place)).drew.cell? p1 = some (.func (.func Fc) #[] caps) := ((unhide HP).2.cell (lt_of_cell hp1) n1).trans hp1
  have q0 : (w.setCell ⟨b, 4, none⟩ (.int .i64 place)).drew.cell? p0 = some (.pointer (some ⟨b, 0, none⟩)) := ((unhide HP).2.cell (lt_of_cell hp0) n0).trans hp0
  clear hread h hp1
  simp only [World.cell?_drew] at q1 q0
  go_enter Tryd.func104, Tryd.ntmps104
  go_wp2_with fail
  go_region
  all_goals
    go_wp2_with fail
    refine (unhide HR _ (unhide HP).2 (unhide HP).1).mono ?_
    rintro e w1 ⟨fa, rfl, hB⟩
    exact ⟨rfl, fa, rfl, hB.before (unhide HP).2⟩
theorem rp_uint32_attb {wb : World} (b Fc : Nat) (caps : Array Value) (p0 p1 p2 : Addr) (nm : ByteArray) (sv : Value) (all : List Nat) (place part : Nat) (ea : Addr) (h : Rc wb b nm sv all place part)
    (hp0 : wb.cell? p0 = some (.pointer (some ⟨b, 0, none⟩))) (hp1 : wb.cell? p1 = some (.func (.func Fc) #[] caps)) (n0 : p0.block ≠ b) (n1 : p1.block ≠ b)
    (he : ∀ W, (callFunc Fc caps).run Tryd.prog W = .ok (.enter Fc caps) W)
    (hread : ∀ wk, Fr (fun k => k = b) wb wk → Rc wk b nm sv all place place → Calls Tryd.prog Fc caps wk fun e w' => ∃ fa, e = .panicked [thrown fa] ∧ BadR wk w' b fa nm place ea) :
    Calls Tryd.prog 54 #[.pointer (some ⟨b, 0, none⟩), .func (.func 104) #[] #[.pointer (some p0), .pointer (some p1), .pointer (some p2)]] wb fun e w' => e = .returned (.tuple #[]) ∧ ∃ w1 fa, BadR wb w1 b fa nm place ea ∧ w' = w1.setCell ⟨b, 1, none⟩ (.pointer (some fa)) := by
  have hk : Fr (fun _ => False) wb (wb.alloc (.cells #[.pointer (some ⟨b, 0, none⟩)] 108)) := (Fr.refl _ _).alloc _
  have hkb : Fr (fun k => k = b) wb (wb.alloc (.cells #[.pointer (some ⟨b, 0, none⟩)] 108)) := (Fr.refl _ _).alloc _
  have hlt : b < wb.heap.size := lt_of_cell h.c0
  refine (attempt_bad b 104 _ (fun w' fa => BadR (wb.alloc (.cells #[.pointer (some ⟨b, 0, none⟩)] 108)) w' b fa nm place ea) wb h.c1 (enters Tryd.func104 (by kernel_rfl) (by kernel_rfl) _) ?_ (fun w' fa hB => ⟨(hB.fr.cell (by simp) (by show ¬ wb.heap.size = b; omega)).trans (c10 _ _ _), hB.c1, hB.fz 1⟩)).mono ?_
  · exact rp_uint32_clob b Fc caps p0 p1 p2 nm sv all place part ea _ (h.frame hk (fun h => h) (fun _ _ _ _ _ h => h)) ((hk.cell (lt_of_cell hp0) (fun h => h)).trans hp0) ((hk.cell (lt_of_cell hp1) (fun h => h)).trans hp1) n0 n1 he (fun wk hf hr => hread wk (hkb.trans hf (fun _ _ h => h)) hr)
  · rintro e w' ⟨rfl, w1, fa, hB, rfl⟩
    exact ⟨rfl, w1, fa, hB.before hkb, rfl⟩
set_option maxRecDepth 100000 in
set_option maxHeartbeats 400000 in
theorem rp_uint64_clob (b Fc : Nat) (caps : Array Value) (p0 p1 p2 : Addr) (nm : ByteArray) (sv : Value) (all : List Nat) (place part : Nat) (ea : Addr) (w : World) (h : Rc w b nm sv all place part)
    (hp0 : w.cell? p0 = some (.pointer (some ⟨b, 0, none⟩))) (hp1 : w.cell? p1 = some (.func (.func Fc) #[] caps)) (n0 : p0.block ≠ b) (n1 : p1.block ≠ b)
    (he : ∀ W, (callFunc Fc caps).run Tryd.prog W = .ok (.enter Fc caps) W)
    (hread : ∀ wk, Fr (fun k => k = b) w wk → Rc wk b nm sv all place place → Calls Tryd.prog Fc caps wk fun e w' => ∃ fa, e = .panicked [thrown fa] ∧ BadR wk w' b fa nm place ea) :
    Calls Tryd.prog 105 #[.pointer (some p0), .pointer (some p1), .pointer (some p2)] w fun e w' => ∃ fa, e = .panicked [thrown fa] ∧ BadR w w' b fa nm place ea := by
  have HR := hide hread
  have HP := hide (h.parted place)
  have h3 := h.c3
  have h4 := h.c4
  have z4 := h.fz 4
  have q1 : (w.setCell ⟨b, 4, none⟩ (.int .i64 place)).drew.cell? p1 = some (.func (.func Fc) #[] caps) := ((unhide HP).2.cell (lt_of_cell hp1) n1).trans hp1
  have q0 : (w.setCell ⟨b, 4, none⟩ (.int .i64 place)).drew.cell? p0 = some (.pointer (some ⟨b, 0, none⟩)) := ((unhide HP).2.cell (lt_of_cell hp0) n0).trans hp0
  clear hread h hp1
  simp only [World.cell?_drew] at q1 q0
  go_enter Tryd.func105, Tryd.ntmps105
  go_wp2_with fail
  go_region
  all_goals
    go_wp2_with fail
    refine (unhide HR _ (unhide HP).2 (unhide HP).1).mono ?_
    rintro e w1 ⟨fa, rfl, hB⟩
    exact ⟨rfl, fa, rfl, hB.before (unhide HP).2⟩
theorem rp_uint64_attb {wb : World} (b Fc : Nat) (caps : Array Value) (p0 p1 p2 : Addr) (nm : ByteArray) (sv : Value) (all : List Nat) (place part : Nat) (ea : Addr) (h : Rc wb b nm sv all place part)
    (hp0 : wb.cell? p0 = some (.pointer (some ⟨b, 0, none⟩))) (hp1 : wb.cell? p1 = some (.func (.func Fc) #[] caps)) (n0 : p0.block ≠ b) (n1 : p1.block ≠ b)
    (he : ∀ W, (callFunc Fc caps).run Tryd.prog W = .ok (.enter Fc caps) W)
    (hread : ∀ wk, Fr (fun k => k = b) wb wk → Rc wk b nm sv all place place → Calls Tryd.prog Fc caps wk fun e w' => ∃ fa, e = .panicked [thrown fa] ∧ BadR wk w' b fa nm place ea) :
    Calls Tryd.prog 54 #[.pointer (some ⟨b, 0, none⟩), .func (.func 105) #[] #[.pointer (some p0), .pointer (some p1), .pointer (some p2)]] wb fun e w' => e = .returned (.tuple #[]) ∧ ∃ w1 fa, BadR wb w1 b fa nm place ea ∧ w' = w1.setCell ⟨b, 1, none⟩ (.pointer (some fa)) := by
  have hk : Fr (fun _ => False) wb (wb.alloc (.cells #[.pointer (some ⟨b, 0, none⟩)] 108)) := (Fr.refl _ _).alloc _
  have hkb : Fr (fun k => k = b) wb (wb.alloc (.cells #[.pointer (some ⟨b, 0, none⟩)] 108)) := (Fr.refl _ _).alloc _
  have hlt : b < wb.heap.size := lt_of_cell h.c0
  refine (attempt_bad b 105 _ (fun w' fa => BadR (wb.alloc (.cells #[.pointer (some ⟨b, 0, none⟩)] 108)) w' b fa nm place ea) wb h.c1 (enters Tryd.func105 (by kernel_rfl) (by kernel_rfl) _) ?_ (fun w' fa hB => ⟨(hB.fr.cell (by simp) (by show ¬ wb.heap.size = b; omega)).trans (c10 _ _ _), hB.c1, hB.fz 1⟩)).mono ?_
  · exact rp_uint64_clob b Fc caps p0 p1 p2 nm sv all place part ea _ (h.frame hk (fun h => h) (fun _ _ _ _ _ h => h)) ((hk.cell (lt_of_cell hp0) (fun h => h)).trans hp0) ((hk.cell (lt_of_cell hp1) (fun h => h)).trans hp1) n0 n1 he (fun wk hf hr => hread wk (hkb.trans hf (fun _ _ h => h)) hr)
  · rintro e w' ⟨rfl, w1, fa, hB, rfl⟩
    exact ⟨rfl, w1, fa, hB.before hkb, rfl⟩
set_option maxRecDepth 100000 in
set_option maxHeartbeats 400000 in
theorem rp_string_clob (b Fc : Nat) (caps : Array Value) (p0 p1 p2 : Addr) (nm : ByteArray) (sv : Value) (all : List Nat) (place part : Nat) (ea : Addr) (w : World) (h : Rc w b nm sv all place part)
    (hp0 : w.cell? p0 = some (.pointer (some ⟨b, 0, none⟩))) (hp1 : w.cell? p1 = some (.func (.func Fc) #[] caps)) (n0 : p0.block ≠ b) (n1 : p1.block ≠ b)
    (he : ∀ W, (callFunc Fc caps).run Tryd.prog W = .ok (.enter Fc caps) W)
    (hread : ∀ wk, Fr (fun k => k = b) w wk → Rc wk b nm sv all place place → Calls Tryd.prog Fc caps wk fun e w' => ∃ fa, e = .panicked [thrown fa] ∧ BadR wk w' b fa nm place ea) :
    Calls Tryd.prog 107 #[.pointer (some p0), .pointer (some p1), .pointer (some p2)] w fun e w' => ∃ fa, e = .panicked [thrown fa] ∧ BadR w w' b fa nm place ea := by
  have HR := hide hread
  have HP := hide (h.parted place)
  have h3 := h.c3
  have h4 := h.c4
  have z4 := h.fz 4
  have q1 : (w.setCell ⟨b, 4, none⟩ (.int .i64 place)).drew.cell? p1 = some (.func (.func Fc) #[] caps) := ((unhide HP).2.cell (lt_of_cell hp1) n1).trans hp1
  have q0 : (w.setCell ⟨b, 4, none⟩ (.int .i64 place)).drew.cell? p0 = some (.pointer (some ⟨b, 0, none⟩)) := ((unhide HP).2.cell (lt_of_cell hp0) n0).trans hp0
  clear hread h hp1
  simp only [World.cell?_drew] at q1 q0
  go_enter Tryd.func107, Tryd.ntmps107
  go_wp2_with fail
  go_region
  all_goals
    go_wp2_with fail
    refine (unhide HR _ (unhide HP).2 (unhide HP).1).mono ?_
    rintro e w1 ⟨fa, rfl, hB⟩
    exact ⟨rfl, fa, rfl, hB.before (unhide HP).2⟩
theorem rp_string_attb {wb : World} (b Fc : Nat) (caps : Array Value) (p0 p1 p2 : Addr) (nm : ByteArray) (sv : Value) (all : List Nat) (place part : Nat) (ea : Addr) (h : Rc wb b nm sv all place part)
    (hp0 : wb.cell? p0 = some (.pointer (some ⟨b, 0, none⟩))) (hp1 : wb.cell? p1 = some (.func (.func Fc) #[] caps)) (n0 : p0.block ≠ b) (n1 : p1.block ≠ b)
    (he : ∀ W, (callFunc Fc caps).run Tryd.prog W = .ok (.enter Fc caps) W)
    (hread : ∀ wk, Fr (fun k => k = b) wb wk → Rc wk b nm sv all place place → Calls Tryd.prog Fc caps wk fun e w' => ∃ fa, e = .panicked [thrown fa] ∧ BadR wk w' b fa nm place ea) :
    Calls Tryd.prog 54 #[.pointer (some ⟨b, 0, none⟩), .func (.func 107) #[] #[.pointer (some p0), .pointer (some p1), .pointer (some p2)]] wb fun e w' => e = .returned (.tuple #[]) ∧ ∃ w1 fa, BadR wb w1 b fa nm place ea ∧ w' = w1.setCell ⟨b, 1, none⟩ (.pointer (some fa)) := by
  have hk : Fr (fun _ => False) wb (wb.alloc (.cells #[.pointer (some ⟨b, 0, none⟩)] 108)) := (Fr.refl _ _).alloc _
  have hkb : Fr (fun k => k = b) wb (wb.alloc (.cells #[.pointer (some ⟨b, 0, none⟩)] 108)) := (Fr.refl _ _).alloc _
  have hlt : b < wb.heap.size := lt_of_cell h.c0
  refine (attempt_bad b 107 _ (fun w' fa => BadR (wb.alloc (.cells #[.pointer (some ⟨b, 0, none⟩)] 108)) w' b fa nm place ea) wb h.c1 (enters Tryd.func107 (by kernel_rfl) (by kernel_rfl) _) ?_ (fun w' fa hB => ⟨(hB.fr.cell (by simp) (by show ¬ wb.heap.size = b; omega)).trans (c10 _ _ _), hB.c1, hB.fz 1⟩)).mono ?_
  · exact rp_string_clob b Fc caps p0 p1 p2 nm sv all place part ea _ (h.frame hk (fun h => h) (fun _ _ _ _ _ h => h)) ((hk.cell (lt_of_cell hp0) (fun h => h)).trans hp0) ((hk.cell (lt_of_cell hp1) (fun h => h)).trans hp1) n0 n1 he (fun wk hf hr => hread wk (hkb.trans hf (fun _ _ h => h)) hr)
  · rintro e w' ⟨rfl, w1, fa, hB, rfl⟩
    exact ⟨rfl, w1, fa, hB.before hkb, rfl⟩
set_option maxRecDepth 100000 in
set_option maxHeartbeats 400000 in
theorem rp_int_clob (b Fc : Nat) (caps : Array Value) (p0 p1 p2 : Addr) (nm : ByteArray) (sv : Value) (all : List Nat) (place part : Nat) (ea : Addr) (w : World) (h : Rc w b nm sv all place part)
    (hp0 : w.cell? p0 = some (.pointer (some ⟨b, 0, none⟩))) (hp1 : w.cell? p1 = some (.func (.func Fc) #[] caps)) (n0 : p0.block ≠ b) (n1 : p1.block ≠ b)
    (he : ∀ W, (callFunc Fc caps).run Tryd.prog W = .ok (.enter Fc caps) W)
    (hread : ∀ wk, Fr (fun k => k = b) w wk → Rc wk b nm sv all place place → Calls Tryd.prog Fc caps wk fun e w' => ∃ fa, e = .panicked [thrown fa] ∧ BadR wk w' b fa nm place ea) :
    Calls Tryd.prog 108 #[.pointer (some p0), .pointer (some p1), .pointer (some p2)] w fun e w' => ∃ fa, e = .panicked [thrown fa] ∧ BadR w w' b fa nm place ea := by
  have HR := hide hread
  have HP := hide (h.parted place)
  have h3 := h.c3
  have h4 := h.c4
  have z4 := h.fz 4
  have q1 : (w.setCell ⟨b, 4, none⟩ (.int .i64 place)).drew.cell? p1 = some (.func (.func Fc) #[] caps) := ((unhide HP).2.cell (lt_of_cell hp1) n1).trans hp1
  have q0 : (w.setCell ⟨b, 4, none⟩ (.int .i64 place)).drew.cell? p0 = some (.pointer (some ⟨b, 0, none⟩)) := ((unhide HP).2.cell (lt_of_cell hp0) n0).trans hp0
  clear hread h hp1
  simp only [World.cell?_drew] at q1 q0
  go_enter Tryd.func108, Tryd.ntmps108
  go_wp2_with fail
  go_region
  all_goals
    go_wp2_with fail
    refine (unhide HR _ (unhide HP).2 (unhide HP).1).mono ?_
    rintro e w1 ⟨fa, rfl, hB⟩
    exact ⟨rfl, fa, rfl, hB.before (unhide HP).2⟩
theorem rp_int_attb {wb : World} (b Fc : Nat) (caps : Array Value) (p0 p1 p2 : Addr) (nm : ByteArray) (sv : Value) (all : List Nat) (place part : Nat) (ea : Addr) (h : Rc wb b nm sv all place part)
    (hp0 : wb.cell? p0 = some (.pointer (some ⟨b, 0, none⟩))) (hp1 : wb.cell? p1 = some (.func (.func Fc) #[] caps)) (n0 : p0.block ≠ b) (n1 : p1.block ≠ b)
    (he : ∀ W, (callFunc Fc caps).run Tryd.prog W = .ok (.enter Fc caps) W)
    (hread : ∀ wk, Fr (fun k => k = b) wb wk → Rc wk b nm sv all place place → Calls Tryd.prog Fc caps wk fun e w' => ∃ fa, e = .panicked [thrown fa] ∧ BadR wk w' b fa nm place ea) :
    Calls Tryd.prog 54 #[.pointer (some ⟨b, 0, none⟩), .func (.func 108) #[] #[.pointer (some p0), .pointer (some p1), .pointer (some p2)]] wb fun e w' => e = .returned (.tuple #[]) ∧ ∃ w1 fa, BadR wb w1 b fa nm place ea ∧ w' = w1.setCell ⟨b, 1, none⟩ (.pointer (some fa)) := by
  have hk : Fr (fun _ => False) wb (wb.alloc (.cells #[.pointer (some ⟨b, 0, none⟩)] 108)) := (Fr.refl _ _).alloc _
  have hkb : Fr (fun k => k = b) wb (wb.alloc (.cells #[.pointer (some ⟨b, 0, none⟩)] 108)) := (Fr.refl _ _).alloc _
  have hlt : b < wb.heap.size := lt_of_cell h.c0
  refine (attempt_bad b 108 _ (fun w' fa => BadR (wb.alloc (.cells #[.pointer (some ⟨b, 0, none⟩)] 108)) w' b fa nm place ea) wb h.c1 (enters Tryd.func108 (by kernel_rfl) (by kernel_rfl) _) ?_ (fun w' fa hB => ⟨(hB.fr.cell (by simp) (by show ¬ wb.heap.size = b; omega)).trans (c10 _ _ _), hB.c1, hB.fz 1⟩)).mono ?_
  · exact rp_int_clob b Fc caps p0 p1 p2 nm sv all place part ea _ (h.frame hk (fun h => h) (fun _ _ _ _ _ h => h)) ((hk.cell (lt_of_cell hp0) (fun h => h)).trans hp0) ((hk.cell (lt_of_cell hp1) (fun h => h)).trans hp1) n0 n1 he (fun wk hf hr => hread wk (hkb.trans hf (fun _ _ h => h)) hr)
  · rintro e w' ⟨rfl, w1, fa, hB, rfl⟩
    exact ⟨rfl, w1, fa, hB.before hkb, rfl⟩
set_option maxRecDepth 100000 in
set_option maxHeartbeats 400000 in
theorem rp_bytes_clob (b Fc : Nat) (caps : Array Value) (p0 p1 p2 : Addr) (nm : ByteArray) (sv : Value) (all : List Nat) (place part : Nat) (ea : Addr) (w : World) (h : Rc w b nm sv all place part)
    (hp0 : w.cell? p0 = some (.pointer (some ⟨b, 0, none⟩))) (hp1 : w.cell? p1 = some (.func (.func Fc) #[] caps)) (n0 : p0.block ≠ b) (n1 : p1.block ≠ b)
    (he : ∀ W, (callFunc Fc caps).run Tryd.prog W = .ok (.enter Fc caps) W)
    (hread : ∀ wk, Fr (fun k => k = b) w wk → Rc wk b nm sv all place place → Calls Tryd.prog Fc caps wk fun e w' => ∃ fa, e = .panicked [thrown fa] ∧ BadR wk w' b fa nm place ea) :
    Calls Tryd.prog 94 #[.pointer (some p0), .pointer (some p1), .pointer (some p2)] w fun e w' => ∃ fa, e = .panicked [thrown fa] ∧ BadR w w' b fa nm place ea := by
  have HR := hide hread
  have HP := hide (h.parted place)
  have h3 := h.c3
  have h4 := h.c4
  have z4 := h.fz 4
  have q1 : (w.setCell ⟨b, 4, none⟩ (.int .i64 place)).drew.cell? p1 = some (.func (.func Fc) #[] caps) := ((unhide HP).2.cell (lt_of_cell hp1) n1).trans hp1
  have q0 : (w.setCell ⟨b, 4, none⟩ (.int .i64 place)).drew.cell? p0 = some (.pointer (some ⟨b, 0, none⟩)) := ((unhide HP).2.cell (lt_of_cell hp0) n0).trans hp0
  clear hread h hp1
  simp only [World.cell?_drew] at q1 q0
  go_enter Tryd.func94, Tryd.ntmps94
  go_wp2_with fail
  go_region
  all_goals
    go_wp2_with fail
    refine (unhide HR _ (unhide HP).2 (unhide HP).1).mono ?_
    rintro e w1 ⟨fa, rfl, hB⟩
    exact ⟨rfl, fa, rfl, hB.before (unhide HP).2⟩
theorem rp_bytes_attb {wb : World} (b Fc : Nat) (caps : Array Value) (p0 p1 p2 : Addr) (nm : ByteArray) (sv : Value) (all : List Nat) (place part : Nat) (ea : Addr) (h : Rc wb b nm sv all place part)
    (hp0 : wb.cell? p0 = some (.pointer (some ⟨b, 0, none⟩))) (hp1 : wb.cell? p1 = some (.func (.func Fc) #[] caps)) (n0 : p0.block ≠ b) (n1 : p1.block ≠ b)
    (he : ∀ W, (callFunc Fc caps).run Tryd.prog W = .ok (.enter Fc caps) W)
    (hread : ∀ wk, Fr (fun k => k = b) wb wk → Rc wk b nm sv all place place → Calls Tryd.prog Fc caps wk fun e w' => ∃ fa, e = .panicked [thrown fa] ∧ BadR wk w' b fa nm place ea) :
    Calls Tryd.prog 54 #[.pointer (some ⟨b, 0, none⟩), .func (.func 94) #[] #[.pointer (some p0), .pointer (some p1), .pointer (some p2)]] wb fun e w' => e = .returned (.tuple #[]) ∧ ∃ w1 fa, BadR wb w1 b fa nm place ea ∧ w' = w1.setCell ⟨b, 1, none⟩ (.pointer (some fa)) := by
  have hk : Fr (fun _ => False) wb (wb.alloc (.cells #[.pointer (some ⟨b, 0, none⟩)] 108)) := (Fr.refl _ _).alloc _
  have hkb : Fr (fun k => k = b) wb (wb.alloc (.cells #[.pointer (some ⟨b, 0, none⟩)] 108)) := (Fr.refl _ _).alloc _
  have hlt : b < wb.heap.size := lt_of_cell h.c0
  refine (attempt_bad b 94 _ (fun w' fa => BadR (wb.alloc (.cells #[.pointer (some ⟨b, 0, none⟩)] 108)) w' b fa nm place ea) wb h.c1 (enters Tryd.func94 (by kernel_rfl) (by kernel_rfl) _) ?_ (fun w' fa hB => ⟨(hB.fr.cell (by simp) (by show ¬ wb.heap.size = b; omega)).trans (c10 _ _ _), hB.c1, hB.fz 1⟩)).mono ?_
  · exact rp_bytes_clob b Fc caps p0 p1 p2 nm sv all place part ea _ (h.frame hk (fun h => h) (fun _ _ _ _ _ h => h)) ((hk.cell (lt_of_cell hp0) (fun h => h)).trans hp0) ((hk.cell (lt_of_cell hp1) (fun h => h)).trans hp1) n0 n1 he (fun wk hf hr => hread wk (hkb.trans hf (fun _ _ h => h)) hr)
  · rintro e w' ⟨rfl, w1, fa, hB, rfl⟩
    exact ⟨rfl, w1, fa, hB.before hkb, rfl⟩
set_option maxRecDepth 100000 in
set_option maxHeartbeats 400000 in
theorem rp_float32_clob (b Fc : Nat) (caps : Array Value) (p0 p1 p2 : Addr) (nm : ByteArray) (sv : Value) (all : List Nat) (place part : Nat) (ea : Addr) (w : World) (h : Rc w b nm sv all place part)
    (hp0 : w.cell? p0 = some (.pointer (some ⟨b, 0, none⟩))) (hp1 : w.cell? p1 = some (.func (.func Fc) #[] caps)) (n0 : p0.block ≠ b) (n1 : p1.block ≠ b)
    (he : ∀ W, (callFunc Fc caps).run Tryd.prog W = .ok (.enter Fc caps) W)
    (hread : ∀ wk, Fr (fun k => k = b) w wk → Rc wk b nm sv all place place → Calls Tryd.prog Fc caps wk fun e w' => ∃ fa, e = .panicked [thrown fa] ∧ BadR wk w' b fa nm place ea) :
    Calls Tryd.prog 106 #[.pointer (some p0), .pointer (some p1), .pointer (some p2)] w fun e w' => ∃ fa, e = .panicked [thrown fa] ∧ BadR w w' b fa nm place ea := by
  have HR := hide hread
  have HP := hide (h.parted place)
  have h3 := h.c3
  have h4 := h.c4
  have z4 := h.fz 4
  have q1 : (w.setCell ⟨b, 4, none⟩ (.int .i64 place)).drew.cell? p1 = some (.func (.func Fc) #[] caps) := ((unhide HP).2.cell (lt_of_cell hp1) n1).trans hp1
  have q0 : (w.setCell ⟨b, 4, none⟩ (.int .i64 place)).drew.cell? p0 = some (.pointer (some ⟨b, 0, none⟩)) := ((unhide HP).2.cell (lt_of_cell hp0) n0).trans hp0
  clear hread h hp1
  simp only [World.cell?_drew] at q1 q0
  go_enter Tryd.func106, Tryd.ntmps106
  go_wp2_with fail
  go_region
  all_goals
    go_wp2_with fail
    refine (unhide HR _ (unhide HP).2 (unhide HP).1).mono ?_
    rintro e w1 ⟨fa, rfl, hB⟩
    exact ⟨rfl, fa, rfl, hB.before (unhide HP).2⟩
theorem rp_float32_attb {wb : World} (b Fc : Nat) (caps : Array Value) (p0 p1 p2 : Addr) (nm : ByteArray) (sv : Value) (all : List Nat) (place part : Nat) (ea : Addr) (h : Rc wb b nm sv all place part)
    (hp0 : wb.cell? p0 = some (.pointer (some ⟨b, 0, none⟩))) (hp1 : wb.cell? p1 = some (.func (.func Fc) #[] caps)) (n0 : p0.block ≠ b) (n1 : p1.block ≠ b)
    (he : ∀ W, (callFunc Fc caps).run Tryd.prog W = .ok (.enter Fc caps) W)
    (hread : ∀ wk, Fr (fun k => k = b) wb wk → Rc wk b nm sv all place place → Calls Tryd.prog Fc caps wk fun e w' => ∃ fa, e = .panicked [thrown fa] ∧ BadR wk w' b fa nm place ea) :
    Calls Tryd.prog 54 #[.pointer (some ⟨b, 0, none⟩), .func (.func 106) #[] #[.pointer (some p0), .pointer (some p1), .pointer (some p2)]] wb fun e w' => e = .returned (.tuple #[]) ∧ ∃ w1 fa, BadR wb w1 b fa nm place ea ∧ w' = w1.setCell ⟨b, 1, none⟩ (.pointer (some fa)) := by
  have hk : Fr (fun _ => False) wb (wb.alloc (.cells #[.pointer (some ⟨b, 0, none⟩)] 108)) := (Fr.refl _ _).alloc _
  have hkb : Fr (fun k => k = b) wb (wb.alloc (.cells #[.pointer (some ⟨b, 0, none⟩)] 108)) := (Fr.refl _ _).alloc _
  have hlt : b < wb.heap.size := lt_of_cell h.c0
  refine (attempt_bad b 106 _ (fun w' fa => BadR (wb.alloc (.cells #[.pointer (some ⟨b, 0, none⟩)] 108)) w' b fa nm place ea) wb h.c1 (enters Tryd.func106 (by kernel_rfl) (by kernel_rfl) _) ?_ (fun w' fa hB => ⟨(hB.fr.cell (by simp) (by show ¬ wb.heap.size = b; omega)).trans (c10 _ _ _), hB.c1, hB.fz 1⟩)).mono ?_
  · exact rp_float32_clob b Fc caps p0 p1 p2 nm sv all place part ea _ (h.frame hk (fun h => h) (fun _ _ _ _ _ h => h)) ((hk.cell (lt_of_cell hp0) (fun h => h)).trans hp0) ((hk.cell (lt_of_cell hp1) (fun h => h)).trans hp1) n0 n1 he (fun wk hf hr => hread wk (hkb.trans hf (fun _ _ h => h)) hr)
  · rintro e w' ⟨rfl, w1, fa, hB, rfl⟩
    exact ⟨rfl, w1, fa, hB.before hkb, rfl⟩

/-- A reader that gave up, and what it told lies in a box of its own. -/
theorem rp_finb {w w1 : World} {b : Nat} {F : Nat → Prop} {s : Rst} {fa ea : Addr} {V : Value} {o1 o2 o3 : Obj} (h : R w b F s) (hB : BadR (((w.alloc o1).alloc o2).alloc o3) w1 b fa s.nm s.place ea) :
    ∃ F', R ((w1.setCell ⟨b, 1, none⟩ (.pointer (some fa))).setCell ⟨w.heap.size + 1 + 1, 0, none⟩ V) b F' { s with f := some (s.nm, s.place, ea) } ∧ Ch w ((w1.setCell ⟨b, 1, none⟩ (.pointer (some fa))).setCell ⟨w.heap.size + 1 + 1, 0, none⟩ V) F F' := by
  have hlt := h.lt b h.fb
  obtain ⟨fb, fo, fs⟩ := fa
  obtain ⟨rfl, rfl, hge⟩ := hB.blk
  have hge' : w.heap.size + 3 ≤ fb := by simpa using hge
  have hfl : fb < w1.heap.size := by
    rcases Nat.lt_or_ge fb w1.heap.size with hx | hx
    · exact hx
    · have := hB.c; rw [Array.getElem?_eq_none hx] at this; cases this
  have hfr : Fr (fun k => k = b) w w1 := (box3b w b _ _ _).trans hB.fr (fun _ _ e => e)
  have o2 : ∀ i, (w1.setCell ⟨b, 1, none⟩ (.pointer (some ⟨fb, 0, none⟩))).cell? ⟨b, i, none⟩ = ((w1.setCell ⟨b, 1, none⟩ (.pointer (some ⟨fb, 0, none⟩))).setCell ⟨w.heap.size + 1 + 1, 0, none⟩ V).cell? ⟨b, i, none⟩ := fun i => by
    exact (World.cell?_setCell_other _ _ _ _ (by intro e; injection e with e1 _ _; omega)).symm
  refine ⟨fun k => F k ∨ k = fb, ⟨?_, ?_, .inl h.fb, .inr ⟨s.nm, s.place, ea, fb, rfl, ?_, ?_, ?_, .inr rfl, by omega, ?_⟩⟩, ?_, ?_⟩
  · intro k hk
    rw [World.size_setCell, World.size_setCell]
    rcases hk with hk | rfl
    · exact Nat.lt_of_lt_of_le (h.lt k hk) hfr.size
    · exact hfl
  · intro k hk
    rcases hk with hk | rfl
    · exact h.lo k hk
    · have h2 := h.lo b h.fb
      omega
  · rw [← o2, World.cell?_setCell_other _ _ _ _ (by intro h; injection h with _ h2 _; cases h2)]; exact hB.c0
  · intro i; rw [World.frozen?_setCell, World.frozen?_setCell]; exact hB.fz i
  · rw [← o2]; exact World.cell?_setCell_same _ _ _ hB.c1
  · rw [Below.heap_setCell _ _ _ _ (by show fb ≠ w.heap.size + 1 + 1; omega), Below.heap_setCell _ _ _ _ (by show fb ≠ b; omega)]; exact hB.c
  · exact ((hfr.mono (T := F) (fun _ _ e => by rw [e]; exact h.fb)).setCell (.inl h.fb) _).setCell (.inr (by show w.heap.size ≤ w.heap.size + 1 + 1; omega)) _
  · intro k hk
    rcases hk with hk | rfl
    · exact .inl hk
    · exact .inr (by omega)

theorem rp_fing (w : World) (o1 o2 o3 o4 : Obj) (V : Value) : Fr (fun _ => False) w (((((w.alloc o1).alloc o2).alloc o3).alloc o4).setCell ⟨w.heap.size + 1 + 1, 0, none⟩ V) :=
  ((box3 w _ _ _).alloc _).setCell (.inr (by show w.heap.size ≤ w.heap.size + 1 + 1; omega)) _

set_option maxRecDepth 100000 in
theorem rp_uint8_bad (b Fc : Nat) (caps : Array Value) (F : Nat → Prop) (s : Rst) (ea : Addr) (w : World) (h : R w b F s) (hn : s.f = none) (he : ∀ W, (callFunc Fc caps).run Tryd.prog W = .ok (.enter Fc caps) W)
    (hread : ∀ wk sv, Fr (fun k => k = b) w wk → Rc wk b s.nm sv s.all s.place s.place → Calls Tryd.prog Fc caps wk fun e w' => ∃ fa, e = .panicked [thrown fa] ∧ BadR wk w' b fa s.nm s.place ea) :
    Calls Tryd.prog 51 #[.pointer (some ⟨b, 0, none⟩), .func (.func Fc) #[] caps] w fun e w' => e = .returned (.int .u8 0) ∧ ∃ F', R w' b F' { s with f := some (s.nm, s.place, ea) } ∧ Ch w w' F F' := by
  obtain ⟨sv, hr, hF⟩ := h.rc hn
  have hlt := h.lt b h.fb
  have hmf := mf
  have H := hide (And.intro h (And.intro hn (And.intro hr hF)))
  have HR := hide hread
  clear h hn hr hF hread
  go_enter Tryd.func51, Tryd.ntmps51
  go_wp2_with fail
  refine (rp_uint8_attb b Fc caps ⟨w.heap.size, 0, none⟩ ⟨w.heap.size + 1, 0, none⟩ ⟨w.heap.size + 1 + 1, 0, none⟩ s.nm sv s.all s.place s.part ea ((unhide H).2.2.1.frame (box3 w _ _ _) (fun h => h) (fun _ _ _ _ _ h => h)) (c30 _ _ _ _ _) (c31 _ _ _ _ _) (by show w.heap.size ≠ b; omega) (by show w.heap.size + 1 ≠ b; omega) he (fun wk hf hr => unhide HR wk sv ((box3b w b _ _ _).trans hf (fun _ _ h => h)) hr)).mono ?_
  rintro e w' ⟨rfl, w1, fa, hB, rfl⟩
  have hc2 := (hB.fr.cell (p := ⟨w.heap.size + 1 + 1, 0, none⟩) (by simp) (by show ¬ w.heap.size + 1 + 1 = b; omega)).trans (c32 _ _ _ _ _)
  have hz2 := (hB.fr.frozen (p := ⟨w.heap.size + 1 + 1, 0, none⟩) (by simp) (by show ¬ w.heap.size + 1 + 1 = b; omega)).trans (z32 _ _ _ _ _)
  have HB := hide hB
  clear hB
  go_wp2_with fail
  obtain ⟨F', hR, hC⟩ := rp_finb (V := .int .u8 0) (unhide H).1 (unhide HB)
  exact bodyPost_ret (v := .int .u8 0) (by simp [results, Tryd.results51, go_sem, hc2]) rfl ⟨rfl, F', hR, hC⟩

set_option maxRecDepth 100000 in
theorem rp_uint8_given (b Fc : Nat) (caps : Array Value) (F : Nat → Prop) (s : Rst) (w : World) (h : R w b F s) (hn : s.f ≠ none) :
    Calls Tryd.prog 51 #[.pointer (some ⟨b, 0, none⟩), .func (.func Fc) #[] caps] w fun e w' => e = .returned (.int .u8 0) ∧ ∃ F', R w' b F' s ∧ Ch w w' F F' := by
  have hlt := h.lt b h.fb
  have hmf := mf
  have h1 : ∃ fa, w.cell? ⟨b, 1, none⟩ = some (.pointer (some fa)) := by
    rcases h.st with ⟨h1, _⟩ | ⟨what, place, ea, fb, _, _, _, h4, _⟩
    · exact absurd h1 hn
    · exact ⟨_, h4⟩
  obtain ⟨fa, h1⟩ := h1
  have H := hide h
  clear h hn
  go_enter Tryd.func51, Tryd.ntmps51
  go_wp2_with fail
  refine (attempt_given b fa _ _ (((box3 w _ _ _).cell hlt (fun h => h)).trans h1)).mono ?_
  rintro e w' ⟨rfl, rfl⟩
  go_wp2_with fail
  refine bodyPost_ret (v := .int .u8 0) (by simp [results, Tryd.results51, go_sem]) rfl ⟨rfl, F, R.frame (S := fun _ => False) (unhide H) ?_ (fun _ _ h => h), Fr.mono (S := fun _ => False) ?_ (fun _ _ h => h.elim), fun _ hk => .inl hk⟩
  all_goals first | exact rp_fing _ _ _ _ _ _ | exact (box3 w _ _ _).alloc _
set_option maxRecDepth 100000 in
theorem rp_uint16_bad (b Fc : Nat) (caps : Array Value) (F : Nat → Prop) (s : Rst) (ea : Addr) (w : World) (h : R w b F s) (hn : s.f = none) (he : ∀ W, (callFunc Fc caps).run Tryd.prog W = .ok (.enter Fc caps) W)
    (hread : ∀ wk sv, Fr (fun k => k = b) w wk → Rc wk b s.nm sv s.all s.place s.place → Calls Tryd.prog Fc caps wk fun e w' => ∃ fa, e = .panicked [thrown fa] ∧ BadR wk w' b fa s.nm s.place ea) :
    Calls Tryd.prog 64 #[.pointer (some ⟨b, 0, none⟩), .func (.func Fc) #[] caps] w fun e w' => e = .returned (.int .u16 0) ∧ ∃ F', R w' b F' { s with f := some (s.nm, s.place, ea) } ∧ Ch w w' F F' := by
  obtain ⟨sv, hr, hF⟩ := h.rc hn
  have hlt := h.lt b h.fb
  have hmf := mf
  have H := hide (And.intro h (And.intro hn (And.intro hr hF)))
  have HR := hide hread
  clear h hn hr hF hread
  go_enter Tryd.func64, Tryd.ntmps64
  go_wp2_with fail
  refine (rp_uint16_attb b Fc caps ⟨w.heap.size, 0, none⟩ ⟨w.heap.size + 1, 0, none⟩ ⟨w.heap.size + 1 + 1, 0, none⟩ s.nm sv s.all s.place s.part ea ((unhide H).2.2.1.frame (box3 w _ _ _) (fun h => h) (fun _ _ _ _ _ h => h)) (c30 _ _ _ _ _) (c31 _ _ _ _ _) (by show w.heap.size ≠ b; omega) (by show w.heap.size + 1 ≠ b; omega) he (fun wk hf hr => unhide HR wk sv ((box3b w b _ _ _).trans hf (fun _ _ h => h)) hr)).mono ?_
  rintro e w' ⟨rfl, w1, fa, hB, rfl⟩
  have hc2 := (hB.fr.cell (p := ⟨w.heap.size + 1 + 1, 0, none⟩) (by simp) (by show ¬ w.heap.size + 1 + 1 = b; omega)).trans (c32 _ _ _ _ _)
  have hz2 := (hB.fr.frozen (p := ⟨w.heap.size + 1 + 1, 0, none⟩) (by simp) (by show ¬ w.heap.size + 1 + 1 = b; omega)).trans (z32 _ _ _ _ _)
  have HB := hide hB
  clear hB
  go_wp2_with fail
  obtain ⟨F', hR, hC⟩ := rp_finb (V := .int .u16 0) (unhide H).1 (unhide HB)
  exact bodyPost_ret (v := .int .u16 0) (by simp [results, Tryd.results64, go_sem, hc2]) rfl ⟨rfl, F', hR, hC⟩

set_option maxRecDepth 100000 in
theorem rp_uint16_given (b Fc : Nat) (caps : Array Value) (F : Nat → Prop) (s : Rst) (w : World) (h : R w b F s) (hn : s.f ≠ none) :
    Calls Tryd.prog 64 #[.pointer (some ⟨b, 0, none⟩), .func (.func Fc) #[] caps] w fun e w' => e = .returned (.int .u16 0) ∧ ∃ F', R w' b F' s ∧ Ch w w' F F' := by
  have hlt := h.lt b h.fb
  have hmf := mf
  have h1 : ∃ fa, w.cell? ⟨b, 1, none⟩ = some (.pointer (some fa)) := by
    rcases h.st with ⟨h1, _⟩ | ⟨what, place, ea, fb, _, _, _, h4, _⟩
    · exact absurd h1 hn
    · exact ⟨_, h4⟩
  obtain ⟨fa, h1⟩ := h1
  have H := hide h
  clear h hn
  go_enter Tryd.func64, Tryd.ntmps64
  go_wp2_with fail
  refine (attempt_given b fa _ _ (((box3 w _ _ _).cell hlt (fun h => h)).trans h1)).mono ?_
  rintro e w' ⟨rfl, rfl⟩
  go_wp2_with fail
  refine bodyPost_ret (v := .int .u16 0) (by simp [results, Tryd.results64, go_sem]) rfl ⟨rfl, F, R.frame (S := fun _ => False) (unhide H) ?_ (fun _ _ h => h), Fr.mono (S := fun _ => False) ?_ (fun _ _ h => h.elim), fun _ hk => .inl hk⟩
  all_goals first | exact rp_fing _ _ _ _ _ _ | exact (box3 w _ _ _).alloc _
set_option maxRecDepth 100000 in
theorem rp_uint32_bad (b Fc : Nat) (caps : Array Value) (F : Nat → Prop) (s : Rst) (ea : Addr) (w : World) (h : R w b F s) (hn : s.f = none) (he : ∀ W, (callFunc Fc caps).run Tryd.prog W = .ok (.enter Fc caps) W)
    (hread : ∀ wk sv, Fr (fun k => k = b) w wk → Rc wk b s.nm sv s.all s.place s.place → Calls Tryd.prog Fc caps wk fun e w' => ∃ fa, e = .panicked [thrown fa] ∧ BadR wk w' b fa s.nm s.place ea) :
    Calls Tryd.prog 80 #[.pointer (some ⟨b, 0, none⟩), .func (.func Fc) #[] caps] w fun e w' => e = .returned (.int .u32 0) ∧ ∃ F', R w' b F' { s with f := some (s.nm, s.place, ea) } ∧ Ch w w' F F' := by
  obtain ⟨sv, hr, hF⟩ := h.rc hn
  have hlt := h.lt b h.fb
  have hmf := mf
  have H := hide (And.intro h (And.intro hn (And.intro hr hF)))
  have HR := hide hread
  clear h hn hr hF hread
  go_enter Tryd.func80, Tryd.ntmps80
  go_wp2_with fail
  refine (rp_uint32_attb b Fc caps ⟨w.heap.size, 0, none⟩ ⟨w.heap.size + 1, 0, none⟩ ⟨w.heap.size + 1 + 1, 0, none⟩ s.nm sv s.all s.place s.part ea ((unhide H).2.2.1.frame (box3 w _ _ _) (fun h => h) (fun _ _ _ _ _ h => h)) (c30 _ _ _ _ _) (c31 _ _ _ _ _) (by show w.heap.size ≠ b; omega) (by show w.heap.size + 1 ≠ b; omega) he (fun wk hf hr => unhide HR wk sv ((box3b w b _ _ _).trans hf (fun _ _ h => h)) hr)).mono ?_
  rintro e w' ⟨rfl, w1, fa, hB, rfl⟩
  have hc2 := (hB.fr.cell (p := ⟨w.heap.size + 1 + 1, 0, none⟩) (by simp) (by show ¬ w.heap.size + 1 + 1 = b; omega)).trans (c32 _ _ _ _ _)
  have hz2 := (hB.fr.frozen (p := ⟨w.heap.size + 1 + 1, 0, none⟩) (by simp) (by show ¬ w.heap.size + 1 + 1 = b; omega)).trans (z32 _ _ _ _ _)
  have HB := hide hB
  clear hB
  go_wp2_with fail
  obtain ⟨F', hR, hC⟩ := rp_finb (V := .int .u32 0) (unhide H).1 (unhide HB)
  exact bodyPost_ret (v := .int .u32 0) (by simp [results, Tryd.results80, go_sem, hc2]) rfl ⟨rfl, F', hR, hC⟩

set_option maxRecDepth 100000 in
theorem rp_uint32_given (b Fc : Nat) (caps : Array Value) (F : Nat → Prop) (s : Rst) (w : World) (h : R w b F s) (hn : s.f ≠ none) :
    Calls Tryd.prog 80 #[.pointer (some ⟨b, 0, none⟩), .func (.func Fc) #[] caps] w fun e w' => e = .returned (.int .u32 0) ∧ ∃ F', R w' b F' s ∧ Ch w w' F F' := by
  have hlt := h.lt b h.fb
  have hmf := mf
  have h1 : ∃ fa, w.cell? ⟨b, 1, none⟩ = some (.pointer (some fa)) := by
    rcases h.st with ⟨h1, _⟩ | ⟨what, place, ea, fb, _, _, _, h4, _⟩
    · exact absurd h1 hn
    · exact ⟨_, h4⟩
  obtain ⟨fa, h1⟩ := h1
  have H := hide h
  clear h hn
  go_enter Tryd.func80, Tryd.ntmps80
  go_wp2_with fail
  refine (attempt_given b fa _ _ (((box3 w _ _ _).cell hlt (fun h => h)).trans h1)).mono ?_
  rintro e w' ⟨rfl, rfl⟩
  go_wp2_with fail
  refine bodyPost_ret (v := .int .u32 0) (by simp [results, Tryd.results80, go_sem]) rfl ⟨rfl, F, R.frame (S := fun _ => False) (unhide H) ?_ (fun _ _ h => h), Fr.mono (S := fun _ => False) ?_ (fun _ _ h => h.elim), fun _ hk => .inl hk⟩
  all_goals first | exact rp_fing _ _ _ _ _ _ | exact (box3 w _ _ _).alloc _
set_option maxRecDepth 100000 in
theorem rp_uint64_bad (b Fc : Nat) (caps : Array Value) (F : Nat → Prop) (s : Rst) (ea : Addr) (w : World) (h : R w b F s) (hn : s.f = none) (he : ∀ W, (callFunc Fc caps).run Tryd.prog W = .ok (.enter Fc caps) W)
    (hread : ∀ wk sv, Fr (fun k => k = b) w wk → Rc wk b s.nm sv s.all s.place s.place → Calls Tryd.prog Fc caps wk fun e w' => ∃ fa, e = .panicked [thrown fa] ∧ BadR wk w' b fa s.nm s.place ea) :
    Calls Tryd.prog 82 #[.pointer (some ⟨b, 0, none⟩), .func (.func Fc) #[] caps] w fun e w' => e = .returned (.int .u64 0) ∧ ∃ F', R w' b F' { s with f := some (s.nm, s.place, ea) } ∧ Ch w w' F F' := by
  obtain ⟨sv, hr, hF⟩ := h.rc hn
  have hlt := h.lt b h.fb
  have hmf := mf
  have H := hide (And.intro h (And.intro hn (And.intro hr hF)))
  have HR := hide hread
  clear h hn hr hF hread
  go_enter Tryd.func82, Tryd.ntmps82
  go_wp2_with fail
  refine (rp_uint64_attb b Fc caps ⟨w.heap.size, 0, none⟩ ⟨w.heap.size + 1, 0, none⟩ ⟨w.heap.size + 1 + 1, 0, none⟩ s.nm sv s.all s.place s.part ea ((unhide H).2.2.1.frame (box3 w _ _ _) (fun h => h) (fun _ _ _ _ _ h => h)) (c30 _ _ _ _ _) (c31 _ _ _ _ _) (by show w.heap.size ≠ b; omega) (by show w.heap.size + 1 ≠ b; omega) he (fun wk hf hr => unhide HR wk sv ((box3b w b _ _ _).trans hf (fun _ _ h => h)) hr)).mono ?_
  rintro e w' ⟨rfl, w1, fa, hB, rfl⟩
  have hc2 := (hB.fr.cell (p := ⟨w.heap.size + 1 + 1, 0, none⟩) (by simp) (by show ¬ w.heap.size + 1 + 1 = b; omega)).trans (c32 _ _ _ _ _)
  have hz2 := (hB.fr.frozen (p := ⟨w.heap.size + 1 + 1, 0, none⟩) (by simp) (by show ¬ w.heap.size + 1 + 1 = b; omega)).trans (z32 _ _ _ _ _)
  have HB := hide hB
  clear hB
  go_wp2_with fail
  obtain ⟨F', hR, hC⟩ := rp_finb (V := .int .u64 0) (unhide H).1 (unhide HB)
  exact bodyPost_ret (v := .int .u64 0) (by simp [results, Tryd.results82, go_sem, hc2]) rfl ⟨rfl, F', hR, hC⟩

set_option maxRecDepth 100000 in
theorem rp_uint64_given (b Fc : Nat) (caps : Array Value) (F : Nat → Prop) (s : Rst) (w : World) (h : R w b F s) (hn : s.f ≠ none) :
    Calls Tryd.prog 82 #[.pointer (some ⟨b, 0, none⟩), .func (.func Fc) #[] caps] w fun e w' => e = .returned (.int .u64 0) ∧ ∃ F', R w' b F' s ∧ Ch w w' F F' := by
  have hlt := h.lt b h.fb
  have hmf := mf
  have h1 : ∃ fa, w.cell? ⟨b, 1, none⟩ = some (.pointer (some fa)) := by
    rcases h.st with ⟨h1, _⟩ | ⟨what, place, ea, fb, _, _, _, h4, _⟩
    · exact absurd h1 hn
    · exact ⟨_, h4⟩
  obtain ⟨fa, h1⟩ := h1
  have H := hide h
  clear h hn
  go_enter Tryd.func82, Tryd.ntmps82
  go_wp2_with fail
  refine (attempt_given b fa _ _ (((box3 w _ _ _).cell hlt (fun h => h)).trans h1)).mono ?_
  rintro e w' ⟨rfl, rfl⟩
  go_wp2_with fail
  refine bodyPost_ret (v := .int .u64 0) (by simp [results, Tryd.results82, go_sem]) rfl ⟨rfl, F, R.frame (S := fun _ => False) (unhide H) ?_ (fun _ _ h => h), Fr.mono (S := fun _ => False) ?_ (fun _ _ h => h.elim), fun _ hk => .inl hk⟩
  all_goals first | exact rp_fing _ _ _ _ _ _ | exact (box3 w _ _ _).alloc _
set_option maxRecDepth 100000 in
theorem rp_string_bad (b Fc : Nat) (caps : Array Value) (F : Nat → Prop) (s : Rst) (ea : Addr) (w : World) (h : R w b F s) (hn : s.f = none) (he : ∀ W, (callFunc Fc caps).run Tryd.prog W = .ok (.enter Fc caps) W)
    (hread : ∀ wk sv, Fr (fun k => k = b) w wk → Rc wk b s.nm sv s.all s.place s.place → Calls Tryd.prog Fc caps wk fun e w' => ∃ fa, e = .panicked [thrown fa] ∧ BadR wk w' b fa s.nm s.place ea) :
    Calls Tryd.prog 87 #[.pointer (some ⟨b, 0, none⟩), .func (.func Fc) #[] caps] w fun e w' => e = .returned (.string ⟨#[]⟩) ∧ ∃ F', R w' b F' { s with f := some (s.nm, s.place, ea) } ∧ Ch w w' F F' := by
  obtain ⟨sv, hr, hF⟩ := h.rc hn
  have hlt := h.lt b h.fb
  have hmf := mf
  have H := hide (And.intro h (And.intro hn (And.intro hr hF)))
  have HR := hide hread
  clear h hn hr hF hread
  go_enter Tryd.func87, Tryd.ntmps87
  go_wp2_with fail
  refine (rp_string_attb b Fc caps ⟨w.heap.size, 0, none⟩ ⟨w.heap.size + 1, 0, none⟩ ⟨w.heap.size + 1 + 1, 0, none⟩ s.nm sv s.all s.place s.part ea ((unhide H).2.2.1.frame (box3 w _ _ _) (fun h => h) (fun _ _ _ _ _ h => h)) (c30 _ _ _ _ _) (c31 _ _ _ _ _) (by show w.heap.size ≠ b; omega) (by show w.heap.size + 1 ≠ b; omega) he (fun wk hf hr => unhide HR wk sv ((box3b w b _ _ _).trans hf (fun _ _ h => h)) hr)).mono ?_
  rintro e w' ⟨rfl, w1, fa, hB, rfl⟩
  have hc2 := (hB.fr.cell (p := ⟨w.heap.size + 1 + 1, 0, none⟩) (by simp) (by show ¬ w.heap.size + 1 + 1 = b; omega)).trans (c32 _ _ _ _ _)
  have hz2 := (hB.fr.frozen (p := ⟨w.heap.size + 1 + 1, 0, none⟩) (by simp) (by show ¬ w.heap.size + 1 + 1 = b; omega)).trans (z32 _ _ _ _ _)
  have HB := hide hB
  clear hB
  go_wp2_with fail
  obtain ⟨F', hR, hC⟩ := rp_finb (V := .string ⟨#[]⟩) (unhide H).1 (unhide HB)
  exact bodyPost_ret (v := .string ⟨#[]⟩) (by simp [results, Tryd.results87, go_sem, hc2]) rfl ⟨rfl, F', hR, hC⟩

set_option maxRecDepth 100000 in
theorem rp_string_given (b Fc : Nat) (caps : Array Value) (F : Nat → Prop) (s : Rst) (w : World) (h : R w b F s) (hn : s.f ≠ none) :
    Calls Tryd.prog 87 #[.pointer (some ⟨b, 0, none⟩), .func (.func Fc) #[] caps] w fun e w' => e = .returned (.string ⟨#[]⟩) ∧ ∃ F', R w' b F' s ∧ Ch w w' F F' := by
  have hlt := h.lt b h.fb
  have hmf := mf
  have h1 : ∃ fa, w.cell? ⟨b, 1, none⟩ = some (.pointer (some fa)) := by
    rcases h.st with ⟨h1, _⟩ | ⟨what, place, ea, fb, _, _, _, h4, _⟩
    · exact absurd h1 hn
    · exact ⟨_, h4⟩
  obtain ⟨fa, h1⟩ := h1
  have H := hide h
  clear h hn
  go_enter Tryd.func87, Tryd.ntmps87
  go_wp2_with fail
  refine (attempt_given b fa _ _ (((box3 w _ _ _).cell hlt (fun h => h)).trans h1)).mono ?_
  rintro e w' ⟨rfl, rfl⟩
  go_wp2_with fail
  refine bodyPost_ret (v := .string ⟨#[]⟩) (by simp [results, Tryd.results87, go_sem]) rfl ⟨rfl, F, R.frame (S := fun _ => False) (unhide H) ?_ (fun _ _ h => h), Fr.mono (S := fun _ => False) ?_ (fun _ _ h => h.elim), fun _ hk => .inl hk⟩
  all_goals first | exact rp_fing _ _ _ _ _ _ | exact (box3 w _ _ _).alloc _
set_option maxRecDepth 100000 in
theorem rp_int_bad (b Fc : Nat) (caps : Array Value) (F : Nat → Prop) (s : Rst) (ea : Addr) (w : World) (h : R w b F s) (hn : s.f = none) (he : ∀ W, (callFunc Fc caps).run Tryd.prog W = .ok (.enter Fc caps) W)
    (hread : ∀ wk sv, Fr (fun k => k = b) w wk → Rc wk b s.nm sv s.all s.place s.place → Calls Tryd.prog Fc caps wk fun e w' => ∃ fa, e = .panicked [thrown fa] ∧ BadR wk w' b fa s.nm s.place ea) :
    Calls Tryd.prog 89 #[.pointer (some ⟨b, 0, none⟩), .func (.func Fc) #[] caps] w fun e w' => e = .returned (.int .i64 0) ∧ ∃ F', R w' b F' { s with f := some (s.nm, s.place, ea) } ∧ Ch w w' F F' := by
  obtain ⟨sv, hr, hF⟩ := h.rc hn
  have hlt := h.lt b h.fb
  have hmf := mf
  have H := hide (And.intro h (And.intro hn (And.intro hr hF)))
  have HR := hide hread
  clear h hn hr hF hread
  go_enter Tryd.func89, Tryd.ntmps89
  go_wp2_with fail
  refine (rp_int_attb b Fc caps ⟨w.heap.size, 0, none⟩ ⟨w.heap.size + 1, 0, none⟩ ⟨w.heap.size + 1 + 1, 0, none⟩ s.nm sv s.all s.place s.part ea ((unhide H).2.2.1.frame (box3 w _ _ _) (fun h => h) (fun _ _ _ _ _ h => h)) (c30 _ _ _ _ _) (c31 _ _ _ _ _) (by show w.heap.size ≠ b; omega) (by show w.heap.size + 1 ≠ b; omega) he (fun wk hf hr => unhide HR wk sv ((box3b w b _ _ _).trans hf (fun _ _ h => h)) hr)).mono ?_
  rintro e w' ⟨rfl, w1, fa, hB, rfl⟩
  have hc2 := (hB.fr.cell (p := ⟨w.heap.size + 1 + 1, 0, none⟩) (by simp) (by show ¬ w.heap.size + 1 + 1 = b; omega)).trans (c32 _ _ _ _ _)
  have hz2 := (hB.fr.frozen (p := ⟨w.heap.size + 1 + 1, 0, none⟩) (by simp) (by show ¬ w.heap.size + 1 + 1 = b; omega)).trans (z32 _ _ _ _ _)
  have HB := hide hB
  clear hB
  go_wp2_with fail
  obtain ⟨F', hR, hC⟩ := rp_finb (V := .int .i64 0) (unhide H).1 (unhide HB)
  exact bodyPost_ret (v := .int .i64 0) (by simp [results, Tryd.results89, go_sem, hc2]) rfl ⟨rfl, F', hR, hC⟩

set_option maxRecDepth 100000 in
theorem rp_int_given (b Fc : Nat) (caps : Array Value) (F : Nat → Prop) (s : Rst) (w : World) (h : R w b F s) (hn : s.f ≠ none) :
    Calls Tryd.prog 89 #[.pointer (some ⟨b, 0, none⟩), .func (.func Fc) #[] caps] w fun e w' => e = .returned (.int .i64 0) ∧ ∃ F', R w' b F' s ∧ Ch w w' F F' := by
  have hlt := h.lt b h.fb
  have hmf := mf
  have h1 : ∃ fa, w.cell? ⟨b, 1, none⟩ = some (.pointer (some fa)) := by
    rcases h.st with ⟨h1, _⟩ | ⟨what, place, ea, fb, _, _, _, h4, _⟩
    · exact absurd h1 hn
    · exact ⟨_, h4⟩
  obtain ⟨fa, h1⟩ := h1
  have H := hide h
  clear h hn
  go_enter Tryd.func89, Tryd.ntmps89
  go_wp2_with fail
  refine (attempt_given b fa _ _ (((box3 w _ _ _).cell hlt (fun h => h)).trans h1)).mono ?_
  rintro e w' ⟨rfl, rfl⟩
  go_wp2_with fail
  refine bodyPost_ret (v := .int .i64 0) (by simp [results, Tryd.results89, go_sem]) rfl ⟨rfl, F, R.frame (S := fun _ => False) (unhide H) ?_ (fun _ _ h => h), Fr.mono (S := fun _ => False) ?_ (fun _ _ h => h.elim), fun _ hk => .inl hk⟩
  all_goals first | exact rp_fing _ _ _ _ _ _ | exact (box3 w _ _ _).alloc _
set_option maxRecDepth 100000 in
theorem rp_bytes_bad (b Fc : Nat) (caps : Array Value) (F : Nat → Prop) (s : Rst) (ea : Addr) (w : World) (h : R w b F s) (hn : s.f = none) (he : ∀ W, (callFunc Fc caps).run Tryd.prog W = .ok (.enter Fc caps) W)
    (hread : ∀ wk sv, Fr (fun k => k = b) w wk → Rc wk b s.nm sv s.all s.place s.place → Calls Tryd.prog Fc caps wk fun e w' => ∃ fa, e = .panicked [thrown fa] ∧ BadR wk w' b fa s.nm s.place ea) :
    Calls Tryd.prog 59 #[.pointer (some ⟨b, 0, none⟩), .func (.func Fc) #[] caps] w fun e w' => e = .returned (.slice none 0 0) ∧ ∃ F', R w' b F' { s with f := some (s.nm, s.place, ea) } ∧ Ch w w' F F' := by
  obtain ⟨sv, hr, hF⟩ := h.rc hn
  have hlt := h.lt b h.fb
  have hmf := mf
  have H := hide (And.intro h (And.intro hn (And.intro hr hF)))
  have HR := hide hread
  clear h hn hr hF hread
  go_enter Tryd.func59, Tryd.ntmps59
  go_wp2_with fail
  refine (rp_bytes_attb b Fc caps ⟨w.heap.size, 0, none⟩ ⟨w.heap.size + 1, 0, none⟩ ⟨w.heap.size + 1 + 1, 0, none⟩ s.nm sv s.all s.place s.part ea ((unhide H).2.2.1.frame (box3 w _ _ _) (fun h => h) (fun _ _ _ _ _ h => h)) (c30 _ _ _ _ _) (c31 _ _ _ _ _) (by show w.heap.size ≠ b; omega) (by show w.heap.size + 1 ≠ b; omega) he (fun wk hf hr => unhide HR wk sv ((box3b w b _ _ _).trans hf (fun _ _ h => h)) hr)).mono ?_
  rintro e w' ⟨rfl, w1, fa, hB, rfl⟩
  have hc2 := (hB.fr.cell (p := ⟨w.heap.size + 1 + 1, 0, none⟩) (by simp) (by show ¬ w.heap.size + 1 + 1 = b; omega)).trans (c32 _ _ _ _ _)
  have hz2 := (hB.fr.frozen (p := ⟨w.heap.size + 1 + 1, 0, none⟩) (by simp) (by show ¬ w.heap.size + 1 + 1 = b; omega)).trans (z32 _ _ _ _ _)
  have HB := hide hB
  clear hB
  go_wp2_with fail
  obtain ⟨F', hR, hC⟩ := rp_finb (V := .slice none 0 0) (unhide H).1 (unhide HB)
  exact bodyPost_ret (v := .slice none 0 0) (by simp [results, Tryd.results59, go_sem, hc2]) rfl ⟨rfl, F', hR, hC⟩

set_option maxRecDepth 100000 in
theorem rp_bytes_given (b Fc : Nat) (caps : Array Value) (F : Nat → Prop) (s : Rst) (w : World) (h : R w b F s) (hn : s.f ≠ none) :
    Calls Tryd.prog 59 #[.pointer (some ⟨b, 0, none⟩), .func (.func Fc) #[] caps] w fun e w' => e = .returned (.slice none 0 0) ∧ ∃ F', R w' b F' s ∧ Ch w w' F F' := by
  have hlt := h.lt b h.fb
  have hmf := mf
  have h1 : ∃ fa, w.cell? ⟨b, 1, none⟩ = some (.pointer (some fa)) := by
    rcases h.st with ⟨h1, _⟩ | ⟨what, place, ea, fb, _, _, _, h4, _⟩
    · exact absurd h1 hn
    · exact ⟨_, h4⟩
  obtain ⟨fa, h1⟩ := h1
  have H := hide h
  clear h hn
  go_enter Tryd.func59, Tryd.ntmps59
  go_wp2_with fail
  refine (attempt_given b fa _ _ (((box3 w _ _ _).cell hlt (fun h => h)).trans h1)).mono ?_
  rintro e w' ⟨rfl, rfl⟩
  go_wp2_with fail
  refine bodyPost_ret (v := .slice none 0 0) (by simp [results, Tryd.results59, go_sem]) rfl ⟨rfl, F, R.frame (S := fun _ => False) (unhide H) ?_ (fun _ _ h => h), Fr.mono (S := fun _ => False) ?_ (fun _ _ h => h.elim), fun _ hk => .inl hk⟩
  all_goals first | exact rp_fing _ _ _ _ _ _ | exact (box3 w _ _ _).alloc _
set_option maxRecDepth 100000 in
theorem rp_float32_bad (b Fc : Nat) (caps : Array Value) (F : Nat → Prop) (s : Rst) (ea : Addr) (w : World) (h : R w b F s) (hn : s.f = none) (he : ∀ W, (callFunc Fc caps).run Tryd.prog W = .ok (.enter Fc caps) W)
    (hread : ∀ wk sv, Fr (fun k => k = b) w wk → Rc wk b s.nm sv s.all s.place s.place → Calls Tryd.prog Fc caps wk fun e w' => ∃ fa, e = .panicked [thrown fa] ∧ BadR wk w' b fa s.nm s.place ea) :
    Calls Tryd.prog 84 #[.pointer (some ⟨b, 0, none⟩), .func (.func Fc) #[] caps] w fun e w' => e = .returned (.float .f32 0) ∧ ∃ F', R w' b F' { s with f := some (s.nm, s.place, ea) } ∧ Ch w w' F F' := by
  obtain ⟨sv, hr, hF⟩ := h.rc hn
  have hlt := h.lt b h.fb
  have hmf := mf
  have H := hide (And.intro h (And.intro hn (And.intro hr hF)))
  have HR := hide hread
  clear h hn hr hF hread
  go_enter Tryd.func84, Tryd.ntmps84
  go_wp2_with fail
  refine (rp_float32_attb b Fc caps ⟨w.heap.size, 0, none⟩ ⟨w.heap.size + 1, 0, none⟩ ⟨w.heap.size + 1 + 1, 0, none⟩ s.nm sv s.all s.place s.part ea ((unhide H).2.2.1.frame (box3 w _ _ _) (fun h => h) (fun _ _ _ _ _ h => h)) (c30 _ _ _ _ _) (c31 _ _ _ _ _) (by show w.heap.size ≠ b; omega) (by show w.heap.size + 1 ≠ b; omega) he (fun wk hf hr => unhide HR wk sv ((box3b w b _ _ _).trans hf (fun _ _ h => h)) hr)).mono ?_
  rintro e w' ⟨rfl, w1, fa, hB, rfl⟩
  have hc2 := (hB.fr.cell (p := ⟨w.heap.size + 1 + 1, 0, none⟩) (by simp) (by show ¬ w.heap.size + 1 + 1 = b; omega)).trans (c32 _ _ _ _ _)
  have hz2 := (hB.fr.frozen (p := ⟨w.heap.size + 1 + 1, 0, none⟩) (by simp) (by show ¬ w.heap.size + 1 + 1 = b; omega)).trans (z32 _ _ _ _ _)
  have HB := hide hB
  clear hB
  go_wp2_with fail
  obtain ⟨F', hR, hC⟩ := rp_finb (V := .float .f32 0) (unhide H).1 (unhide HB)
  exact bodyPost_ret (v := .float .f32 0) (by simp [results, Tryd.results84, go_sem, hc2]) rfl ⟨rfl, F', hR, hC⟩

set_option maxRecDepth 100000 in
theorem rp_float32_given (b Fc : Nat) (caps : Array Value) (F : Nat → Prop) (s : Rst) (w : World) (h : R w b F s) (hn : s.f ≠ none) :
    Calls Tryd.prog 84 #[.pointer (some ⟨b, 0, none⟩), .func (.func Fc) #[] caps] w fun e w' => e = .returned (.float .f32 0) ∧ ∃ F', R w' b F' s ∧ Ch w w' F F' := by
  have hlt := h.lt b h.fb
  have hmf := mf
  have h1 : ∃ fa, w.cell? ⟨b, 1, none⟩ = some (.pointer (some fa)) := by
    rcases h.st with ⟨h1, _⟩ | ⟨what, place, ea, fb, _, _, _, h4, _⟩
    · exact absurd h1 hn
    · exact ⟨_, h4⟩
  obtain ⟨fa, h1⟩ := h1
  have H := hide h
  clear h hn
  go_enter Tryd.func84, Tryd.ntmps84
  go_wp2_with fail
  refine (attempt_given b fa _ _ (((box3 w _ _ _).cell hlt (fun h => h)).trans h1)).mono ?_
  rintro e w' ⟨rfl, rfl⟩
  go_wp2_with fail
  refine bodyPost_ret (v := .float .f32 0) (by simp [results, Tryd.results84, go_sem]) rfl ⟨rfl, F, R.frame (S := fun _ => False) (unhide H) ?_ (fun _ _ h => h), Fr.mono (S := fun _ => False) ?_ (fun _ _ h => h.elim), fun _ hk => .inl hk⟩
  all_goals first | exact rp_fing _ _ _ _ _ _ | exact (box3 w _ _ _).alloc _
end Go.Proofs.YtikolmpgnpkdbaaDoor

