import Derived.Test.YtjokmlnghpnlbaaDoorPk1
import Derived.Test.YtjokmlnghpnlbaaDoorSre
import Derived.Test.YtjokmlnghpnlbaaDoorPk2
import Derived.Test.YtjokmlnghpnlbaaDoorMae
import Derived.Test.YtjokmlnghpnlbaaDoorSbw
import Derived.Deep.RegionHeldLaw
namespace Go.Proofs.YtjokmlnghpnlbaaDoor
open Go.RowKit

set_option maxRecDepth 100000 in
/-- The document's May. -/
theorem g5may_any (j h : Int) (w : World) : Calls Tryd.prog 20 #[.int .i64 j, .int .i64 h] w fun e w' => e = .returned (.bool (decide ((1 ≤ j ∧ j ≤ 32) ∧ 0 ≤ h ∧ h ≤ 6))) ∧ w' = w := by
  by_cases hj : 1 ≤ j ∧ j ≤ 32
  · have HW := hide (may_yes j w hj.1 hj.2)
    by_cases h1 : 0 ≤ h
    · by_cases h2 : h ≤ 6
      · rw [decide_eq_true ⟨hj, h1, h2⟩]
        clear hj
        go_enter Tryd.func20, Tryd.ntmps20
        go_wp2_with fail
        refine (unhide HW).mono ?_
        rintro e w0 ⟨rfl, rfl⟩
        go_wp2_with fail
        go_ret
        exact ⟨rfl, rfl⟩
      · rw [decide_eq_false (fun k => h2 k.2.2)]
        clear hj
        go_enter Tryd.func20, Tryd.ntmps20
        go_wp2_with fail
        refine (unhide HW).mono ?_
        rintro e w0 ⟨rfl, rfl⟩
        go_wp2_with fail
        go_ret
        refine ⟨?_, rfl⟩
        show Ending.returned (.bool (decide (h ≤ 6))) = _
        rw [decide_eq_false (by omega)]
    · rw [decide_eq_false (fun k => h1 k.2.1)]
      clear hj
      go_enter Tryd.func20, Tryd.ntmps20
      go_wp2_with fail
      refine (unhide HW).mono ?_
      rintro e w0 ⟨rfl, rfl⟩
      go_wp2_with fail
      go_ret
      exact ⟨rfl, rfl⟩
  · rw [decide_eq_false (fun k => hj k.1)]
    have HW := hide (may_no j w (by omega))
    clear hj
    go_enter Tryd.func20, Tryd.ntmps20
    go_wp2_with fail
    refine (unhide HW).mono ?_
    rintro e w0 ⟨rfl, rfl⟩
    go_wp2_with fail
    go_ret
    exact ⟨rfl, rfl⟩
set_option maxRecDepth 100000 in
/-- The document's Size. -/
theorem g5size_any (j h : Int) (w : World) : Calls Tryd.prog 18 #[.int .i64 j, .int .i64 h] w fun e w' => e = .returned (.int .i64 (szF j h)) ∧ w' = w := by
  have hm := g5may_any j h w
  by_cases hc : (1 ≤ j ∧ j ≤ 32) ∧ 0 ≤ h ∧ h ≤ 6
  · rw [decide_eq_true hc] at hm
    have hsz : szF j h = 16 * j * j + h * j := by rw [szF, if_pos hc]
    rw [hsz]
    obtain ⟨wi, rfl⟩ : ∃ k : Nat, j = (k : Int) := ⟨j.toNat, by omega⟩
    obtain ⟨H, rfl⟩ : ∃ k : Nat, h = (k : Int) := ⟨h.toNat, by omega⟩
    have hw32 : wi ≤ 32 := by omega
    have hH6 : H ≤ 6 := by omega
    have hsq : wi * wi ≤ 32 * 32 := Nat.mul_le_mul hw32 hw32
    have hhw : H * wi ≤ 6 * 32 := Nat.mul_le_mul hH6 hw32
    have b2 : 16 * wi * wi ≤ 16384 := by rw [Nat.mul_assoc]; omega
    have e3 : (16 : Int) * (wi : Int) * (wi : Int) = ((16 * wi * wi : Nat) : Int) := by push_cast; rfl
    have e4 : (H : Int) * (wi : Int) = ((H * wi : Nat) : Int) := by push_cast; rfl
    have e5 : (16 : Int) * (wi : Int) = ((16 * wi : Nat) : Int) := by omega
    rw [e3, e4]
    have q0 : IntKind.i64.wrap (16 * (wi : Int)) = ((16 * wi : Nat) : Int) := by rw [IntKind.wrap_i64]; omega
    have q3 : IntKind.i64.wrap (((16 * wi : Nat) : Int) * (wi : Int)) = ((16 * wi * wi : Nat) : Int) := by rw [← e5, e3, IntKind.wrap_i64]; omega
    have q1 : IntKind.i64.wrap ((H : Int) * (wi : Int)) = ((H * wi : Nat) : Int) := by rw [e4, IntKind.wrap_i64]; omega
    have q2 : IntKind.i64.wrap (((16 * wi * wi : Nat) : Int) + ((H * wi : Nat) : Int)) = ((16 * wi * wi : Nat) : Int) + ((H * wi : Nat) : Int) := by rw [IntKind.wrap_i64]; omega
    have HM := hide hm
    clear hm hc hsz hsq hhw b2 e3 e4 e5
    generalize 16 * wi * wi = S at *
    generalize 16 * wi = D at *
    generalize H * wi = T at *
    go_enter Tryd.func18, Tryd.ntmps18
    go_wp2_with fail
    refine (unhide HM).mono ?_
    rintro e w0 ⟨rfl, rfl⟩
    go_wp2_with fail
    go_ret
    exact ⟨rfl, rfl⟩
  · rw [decide_eq_false hc] at hm
    have hsz : szF j h = 0 := by rw [szF, if_neg hc]
    rw [hsz]
    have HM := hide hm
    clear hm hc hsz
    go_enter Tryd.func18, Tryd.ntmps18
    go_wp2_with fail
    refine (unhide HM).mono ?_
    rintro e w0 ⟨rfl, rfl⟩
    go_wp2_with fail
    go_ret
    exact ⟨rfl, rfl⟩
end Go.Proofs.YtjokmlnghpnlbaaDoor

namespace Go.Proofs.YtjokmlnghpnlbaaDoor
open Go.RowKit

theorem cells8 (K J V : Nat) (hK : K < 64) (hJ : J < 256) (hV : V < 2) : (#[Value.int .u8 2, .int .u8 0, .int .u8 0, .int .u8 0, .int .u8 (K : Int), .int .u8 ((J : Int) / 256), .int .u8 ((J : Int) % 256), .int .u8 (V : Int)] : Array Value).toList = cellsOf (scm K J V []) := by
  have h1 : (J : Int) / 256 = 0 := by omega
  have h2 : (J : Int) % 256 = (J : Int) := by omega
  have h3 : J / 256 = 0 := by omega
  rw [h1, h2]
  simp [cellsOf, B, scm, h3, Nat.mod_eq_of_lt hJ, Nat.mod_eq_of_lt (show K < 256 by omega), Nat.mod_eq_of_lt (show V < 256 by omega)]
theorem ob_lit8 (w : World) (cs : Array Value) (l : List Nat) (hc : cs.size = 8) (h : cs.toList = cellsOf l) (hl : l.length = 8) : OB w (w.alloc (.cells cs 5)) (some ⟨w.heap.size, 0, none⟩) 8 l := by
  refine ⟨?_, (Fr.refl _ _).alloc _⟩
  have := World.ownsRow_lit (e := 5) (size := 1) (base := w.heap.size) w cs 8 (Nat.le_refl _) (by simp only [maxLen]; omega) (by omega)
  rw [hl, ← h]
  exact this
theorem scm_nil (K J V : Nat) (seed : List Nat) : scm K J V seed = scm K J V [] ++ seed := by simp [scm]
set_option maxRecDepth 100000 in
set_option maxHeartbeats 2000000 in
/-- The document's Secret, of what may be. -/
theorem g5secret_in (wi K J V : Nat) (hw1 : 1 ≤ wi) (hw32 : wi ≤ 32) (hK : K < 64) (hJ : J < 8 * wi) (hV : V < 2) (x : Value) (seed : List Nat) (w : World) (hg : GR w) (hx : Sl w x seed) (hs : seed.length ≤ 15000000) :
    Calls Tryd.prog 17 #[.int .i64 wi, x, .int .i64 K, .int .i64 J, .int .i64 V] w fun e w' => ∃ yo yc, e = .returned (.slice yo wi yc) ∧ OB w w' yo yc (sm wi (scm K J V seed)) := by
  have hmy := hide (may_yes wi w (by omega) (by omega))
  obtain ⟨xo, xc, rfl⟩ := hx.form
  have HC := hide (And.intro hg (And.intro hx hs))
  have hJ9 : J < 256 := by omega
  have q2 : ¬ (8 * (wi : Int)) ≤ (J : Int) := by omega
  have q4 : ¬ (63 : Int) < (K : Int) := by omega
  have q5 : ¬ (1 : Int) < (V : Int) := by omega
  have h8 := cells8 K J V hK hJ9 hV
  have hl8 : (scm K J V []).length = 8 := by simp [scm]
  have hbs : ∀ v ∈ scm K J V [], v < 256 := by simp [scm]; omega
  rw [scm_nil K J V seed]
  generalize scm K J V [] = M0 at *
  have H8 := hide h8
  have HM := hide (And.intro hl8 hbs)
  clear h8 hl8 hbs
  clear hx hg hs
  generalize hSN : seed.length = SN at *
  go_enter Tryd.func17, Tryd.ntmps17
  go_wp2_with fail
  refine (unhide hmy).mono ?_
  rintro e w0 ⟨rfl, rfl⟩
  go_wp2_with fail
  have hO0 := ob_lit8 w0 _ _ rfl (unhide H8) (unhide HM).1
  have HO := hide (And.intro hO0 (unhide HM))
  clear hO0 HM
  go_loopw [11, 12] (fun v iv wr => ∃ (k : Nat) (ao : Option Addr) (cp n : Nat), k ≤ SN ∧ iv = .int .i64 (k : Nat) ∧ v = .slice ao n cp ∧ n = (M0 ++ seed.take k).length ∧ OB w0 wr ao cp (M0 ++ seed.take k)) (fun _ iv _ => SN - (intOf iv).toNat)
  case atStart => exact ⟨0, _, _, 8, Nat.zero_le _, rfl, rfl, by rw [List.take_zero, List.append_nil]; exact (unhide HO).2.1.symm, by rw [List.take_zero, List.append_nil]; exact (unhide HO).1⟩
  case round =>
    obtain ⟨k, ao, cp, n, hk, rfl, rfl, hn, hO⟩ := hrel
    have hs9 := (unhide HC).2.2
    by_cases hlt : k < SN
    · have hlt' : (k : Int) < (SN : Int) := by omega
      obtain ⟨g, o, rfl, hc⟩ := src_cell ((unhide HC).2.1.fr0 hO.fr).s k (by omega) (unhide HC).2.1.b
      have hv : seed.getD k 0 < 256 := by
        rw [List.getD_eq_getElem?_getD, List.getElem?_eq_getElem (by omega)]; exact (unhide HC).2.1.b _ (List.getElem_mem _)
      have hll : (M0 ++ seed.take k).length = 8 + k := by rw [List.length_append, (unhide HO).2.1, List.length_take]; omega
      obtain ⟨a4, c4, w4, hr4, hO4⟩ := hO.app1 (seed.getD k 0) hv (by omega)
      have htk : M0 ++ seed.take k ++ [seed.getD k 0] = M0 ++ seed.take (k + 1) := by
        rw [List.append_assoc, List.take_add_one, List.getElem?_eq_getElem (by omega), Option.toList_some, List.getD_eq_getElem?_getD, List.getElem?_eq_getElem (by omega)]; rfl
      rw [htk] at hr4 hO4
      rw [← hn] at hr4
      have HR4 := hide (And.intro hr4 hO4)
      generalize seed.getD k 0 = v at *
      clear hr4 hO4 hO hn htk hll
      go_wp2_with (at_builtin; refine wpList_app rfl _ _ 24 24 rfl _ _ _ rfl rfl (unhide HR4).1 ?_)
      exact ⟨⟨k + 1, _, _, _, by omega, by go_num, rfl, by rw [List.length_append, List.length_take, hSN], (unhide HR4).2⟩, by simp [intOf]; omega⟩
    · have hlt' : ¬ (k : Int) < (SN : Int) := by omega
      have htk : seed.take k = seed := List.take_of_length_le (by omega)
      rw [htk] at hO hn
      have hll : (M0 ++ seed).length = 8 + SN := by rw [List.length_append, (unhide HO).2.1]; omega
      have hbb : ∀ v ∈ M0 ++ seed, v < 256 := fun v hv => (List.mem_append.1 hv).elim ((unhide HO).2.2 v) ((unhide HC).2.1.b v)
      have hsrc := hO.src
      rw [← hn] at hsrc
      have hsm := gsum_in wi _ (M0 ++ seed) wr ((unhide HC).1.fr0 hO.fr) hsrc hbb (by omega) hw1 hw32
      have HS := hide (And.intro hsm hO.fr)
      clear hsm hO hsrc hbb hll hn htk
      go_wp2_with fail
      refine (unhide HS).1.mono ?_
      rintro e w5 ⟨yo, yc, rfl, hO5⟩
      have H5 := hide (hO5.base (unhide HS).2)
      clear hO5
      go_wp2_with fail
      go_ret
      refine ⟨_, _, rfl, ?_⟩
      rw [sm, if_pos ⟨by omega, by omega⟩, Int.toNat_natCast]
      exact unhide H5
end Go.Proofs.YtjokmlnghpnlbaaDoor

namespace Go.Proofs.YtjokmlnghpnlbaaDoor
open Go.RowKit

/-- The cells of steps. -/
def scells (L : List (Value × Value × Bool)) : List Value := (L.map fun p => [p.1, p.2.1, .bool p.2.2]).flatten
theorem scells_len (L : List (Value × Value × Bool)) : (scells L).length = L.length * 3 := by
  induction L with
  | nil => rfl
  | cons a r ih => simp only [scells, List.map_cons, List.flatten_cons, List.length_append, List.length_cons, List.length_nil] at ih ⊢; omega
theorem scells_cons (a : Value × Value × Bool) (r : List (Value × Value × Bool)) : scells (a :: r) = [a.1, a.2.1, .bool a.2.2] ++ scells r := rfl
theorem scells_app (a b : List (Value × Value × Bool)) : scells (a ++ b) = scells a ++ scells b := by simp [scells]
theorem scells_at (L : List (Value × Value × Bool)) : ∀ (k : Nat) (hk : k < L.length), (scells L)[k * 3]? = some L[k].1 ∧ (scells L)[k * 3 + 1]? = some L[k].2.1 ∧ (scells L)[k * 3 + 2]? = some (.bool L[k].2.2) := by
  induction L with
  | nil => intro k hk; simp at hk
  | cons a r ih =>
    intro k hk
    match k, hk with
    | 0, _ => exact ⟨rfl, rfl, rfl⟩
    | k + 1, hk =>
      obtain ⟨h1, h2, h3⟩ := ih k (by simpa using hk)
      have e : ∀ j, (scells (a :: r))[(k + 1) * 3 + j]? = (scells r)[k * 3 + j]? := fun j => by
        rw [scells_cons, List.getElem?_append_right (by simp; omega)]
        congr 1
        simp
        omega
      have e0 := e 0
      simp only [Nat.add_zero] at e0
      refine ⟨e0.trans h1, (e 1).trans h2, (e 2).trans h3⟩
theorem Tryd.infoStep : (Tryd.prog.info? 121).map (fun i => (i.zero, i.size, i.bytes)) = some (some (.agg #[.slice none 0 0, .slice none 0 0, .bool false]), 3, 56) := by kernel_rfl
/-- One more step. -/
theorem app_step (w : World) (base : Nat) (v : Value) (L : List (Value × Value × Bool)) (la : Option Addr) (ln lc : Nat) (ra : Option Addr) (rn rc : Nat) (b : Bool) (hown : w.ownsRow base 121 3 v L.length (scells L)) (hb : L.length + 1 ≤ 16777216) (hbase : base ≤ w.heap.size) :
    ∃ ao cap w', (Builtin.append_ #[105, 105] 105 #[v, .slice (some ⟨w.heap.size, 0, none⟩) 1 1]).run Tryd.prog (w.alloc (.cells #[.slice la ln lc, .slice ra rn rc, .bool b] 121)) = .ok (.slice ao (L.length + 1) cap) w' ∧
      w'.ownsRow base 121 3 (.slice ao (L.length + 1) cap) (L.length + 1) (scells (L ++ [(.slice la ln lc, .slice ra rn rc, b)])) ∧ (w.alloc (.cells #[.slice la ln lc, .slice ra rn rc, .bool b] 121)).grownBy w' v.ownBlock := by
  obtain ⟨i0, hi, hz0, hz1, hz2⟩ := info_parts Tryd.infoStep
  have h1 : (w.alloc (.cells #[.slice la ln lc, .slice ra rn rc, .bool b] 121)).ownsRow base 121 3 v L.length (scells L) := ownsRow_of_block hown (fun g hg => Below.heap_alloc _ _ _ (hown.lt g hg).2)
  obtain ⟨v', w', hr, h2, h3, _, _⟩ := run_append_own_at (P := Tryd.prog) (w.alloc (.cells #[.slice la ln lc, .slice ra rn rc, .bool b] 121)) base 105 105 121 i0 (.agg #[.slice none 0 0, .slice none 0 0, .bool false]) 3 56 Tryd.underlying105 hi hz0 hz1 hz2 rfl (by decide) v L.length _ h1 ⟨w.heap.size, 0, none⟩ 1 1 [.slice la ln lc, .slice ra rn rc, .bool b] rfl (fun j u hu => by
      match j, hu with
      | 0, hu => simp at hu; subst hu; simp [Addr.add]
      | 1, hu => simp at hu; subst hu; simp [Addr.add]
      | 2, hu => simp at hu; subst hu; simp [Addr.add]) (fun u hu => by simp at hu; rcases hu with rfl | rfl | rfl <;> rfl) (by simp only [maxLen]; omega) (by omega) (by simp; omega)
  have hf : ∃ ao cap, v' = .slice ao (L.length + 1) cap := by
    rcases h2.2 with ⟨_, e⟩ | ⟨g, cap, cur, rfl, _⟩
    · omega
    · exact ⟨_, _, rfl⟩
  obtain ⟨ao, cap, rfl⟩ := hf
  refine ⟨ao, cap, w', hr, ?_, h3⟩
  rw [scells_app]
  exact h2
/-- Steps in memory of one's own. -/
structure OT (w wr : World) (v : Value) (ss : List (Value × Value × Bool)) : Prop where
  own : wr.ownsRow w.heap.size 121 3 v ss.length (scells ss)
  fr : Fr (fun _ => False) w wr
theorem OT.nil (w : World) : OT w w (.slice none 0 0) [] := ⟨⟨rfl, .inl ⟨rfl, rfl⟩⟩, Fr.refl _ _⟩
theorem OT.fr0 {w wr wq : World} {v : Value} {ss : List (Value × Value × Bool)} (h : OT w wr v ss) (hf : Fr (fun _ => False) wr wq) : OT w wq v ss :=
  ⟨ownsRow_of_block h.own (fun g hg => hf.block g (h.own.lt g hg).2 (fun h => h)), h.fr.trans hf (fun _ _ h => h)⟩
theorem OT.base {w wA wr : World} {v : Value} {ss : List (Value × Value × Bool)} (h : OT wA wr v ss) (hf : Fr (fun _ => False) w wA) : OT w wr v ss := by
  refine ⟨⟨h.own.1, ?_⟩, hf.trans h.fr (fun _ _ h => h)⟩
  rcases h.own.2 with h0 | ⟨g, cap, cur, e1, e2, e3⟩
  · exact .inl h0
  · exact .inr ⟨g, cap, cur, e1, Nat.le_trans hf.size e2, e3⟩
theorem OT.form {w wr : World} {v : Value} {ss : List (Value × Value × Bool)} (h : OT w wr v ss) : ∃ ao cap, v = .slice ao ss.length cap := by
  rcases h.own.2 with ⟨e, e0⟩ | ⟨g, cap, cur, e, _⟩
  · exact ⟨none, 0, by rw [e, e0]⟩
  · exact ⟨_, _, e⟩
/-- The cells of one step, in a later world. -/
theorem OT.cell {w wr wq : World} {so : Option Addr} {n sc : Nat} {ss : List (Value × Value × Bool)} (h : OT w wr (.slice so n sc) ss) (hf : Fr (fun _ => False) wr wq) (k : Nat) (hk : k < ss.length) : ∃ g, so = some ⟨g, 0, none⟩ ∧ wq.cell? ⟨g, k * 3, none⟩ = some ss[k].1 ∧ wq.cell? ⟨g, k * 3 + 1, none⟩ = some ss[k].2.1 ∧ wq.cell? ⟨g, k * 3 + 2, none⟩ = some (.bool ss[k].2.2) := by
  rcases h.own.2 with ⟨_, e0⟩ | ⟨g, cap, cur, e, _⟩
  · omega
  · simp only [Value.slice.injEq] at e
    obtain ⟨rfl, rfl, rfl⟩ := e
    have hl := (h.own.lt g rfl).2
    obtain ⟨s1, s2, s3⟩ := scells_at ss k hk
    exact ⟨g, rfl, (hf.cell (p := ⟨g, k * 3, none⟩) hl (fun h => h)).trans ((h.own.cellAt (k * 3) (by omega)).trans s1), (hf.cell (p := ⟨g, k * 3 + 1, none⟩) hl (fun h => h)).trans ((h.own.cellAt (k * 3 + 1) (by omega)).trans s2), (hf.cell (p := ⟨g, k * 3 + 2, none⟩) hl (fun h => h)).trans ((h.own.cellAt (k * 3 + 2) (by omega)).trans s3)⟩
theorem OT.lit {w w1 : World} (hF0 : Fr (fun _ => False) w w1) (la : Option Addr) (ln lc : Nat) (ra : Option Addr) (rn rc : Nat) (b : Bool) (W : World) (hW : w1.alloc (.cells #[.slice la ln lc, .slice ra rn rc, .bool b] 121) = W) : OT w W (.slice (some ⟨w1.heap.size, 0, none⟩) 1 1) [(.slice la ln lc, .slice ra rn rc, b)] := by
  have hF : Fr (fun _ => False) w1 W := by rw [← hW]; exact (Fr.refl _ _).alloc _
  refine ⟨?_, hF0.trans hF (fun _ _ h => h)⟩
  have := World.ownsRow_lit (e := 121) (size := 3) w1 #[.slice la ln lc, .slice ra rn rc, .bool b] 1 (Nat.le_refl _) (by simp only [maxLen]; omega) rfl
  rw [hW] at this
  refine ⟨this.1, ?_⟩
  rcases this.2 with h0 | ⟨g, cap, cur, e1, e2, e3⟩
  · exact .inl h0
  · exact .inr ⟨g, cap, cur, e1, Nat.le_trans hF0.size e2, e3⟩
end Go.Proofs.YtjokmlnghpnlbaaDoor

namespace Go.Proofs.YtjokmlnghpnlbaaDoor
open Go.RowKit

set_option maxRecDepth 100000 in
set_option maxHeartbeats 1000000 in
/-- The document's wide. -/
theorem gwide_any (j : Int) (x : Value) (vs : List Value) (ps : List (List Nat)) (w : World) (hp : Pcs w x vs ps) (hn : ps.length < 4611686018427387904) :
    Calls Tryd.prog 81 #[.int .i64 j, x] w fun e w' => e = .returned (.bool (wdq j ps)) ∧ w' = w := by
  obtain ⟨xo, xc, rfl⟩ := hp.form
  have HG := hide (And.intro hp hn)
  clear hp hn
  generalize hN : ps.length = N at *
  go_enter Tryd.func81, Tryd.ntmps81
  go_wp2_with fail
  go_loopw [5] (fun iv wr => ∃ (k : Nat), k ≤ N ∧ iv = .int .i64 (k : Nat) ∧ wr = w ∧ wdq j (ps.take k) = true) (fun iv _ => N - (intOf iv).toNat)
  case atStart => exact ⟨0, Nat.zero_le _, rfl, rfl, by simp [wdq]⟩
  case round =>
    obtain ⟨k, hk, rfl, rfl, hw⟩ := hrel
    have hN8 := (unhide HG).2
    by_cases hlt : k < N
    · have hlt' : (k : Int) < (N : Int) := by omega
      have hke : k < ps.length := by omega
      obtain ⟨g, o, vo, vc, rfl, hcell, -⟩ := (unhide HG).1.nth (Fr.refl _ _) k hke
      by_cases he : (ps[k].length : Int) = j
      · have hw2 : wdq j (ps.take (k + 1)) = true := by rw [wdq_take j ps k hke, hw, decide_eq_true he]; rfl
        have HW := hide hw2
        clear hw2 hw
        have w1 : IntKind.i64.wrap ((k : Int) + 1) = (k : Int) + 1 := by rw [IntKind.wrap_i64]; omega
        have hee : ((ps[k].length : Int) == j) = true := by rw [he]; simp
        subst he
        generalize ps[k].length = EL at *
        go_wp2_with fail
        exact ⟨⟨k + 1, by omega, by go_num, by first | rfl | trivial, unhide HW⟩, by simp [intOf]; omega⟩
      · have hf := wdq_false j ps k hke he
        have HW := hide hf
        clear hf hw
        have hee : ((ps[k].length : Int) == j) = false := beq_false_of_ne he
        generalize ps[k].length = EL at *
        go_wp2_with fail
        go_ret
        exact ⟨by rw [unhide HW]; rfl, rfl⟩
    · have hkN : k = N := by omega
      have hlt' : ¬ (k : Int) < (N : Int) := by omega
      have htk : ps.take k = ps := List.take_of_length_le (by omega)
      rw [htk] at hw
      have HW := hide hw
      clear hw htk hkN
      go_wp2_with fail
      go_ret
      exact ⟨by rw [unhide HW]; rfl, rfl⟩
/-- The steps from the top down to an entry. -/
def stpv (wi : Nat) (leaf : List Nat) (f n i : Nat) (ps : List (List Nat)) : List (List Nat × List Nat × Bool) :=
  if _h : n < 2 then []
  else if i < f + hf n then (topv wi leaf f (hf n) i 1 ps.dropLast, ps.getLastD [], true) :: stpv wi leaf f (hf n) i ps.dropLast
  else (ps.getLastD [], topv wi leaf (f + hf n) (n - hf n) i 1 ps.dropLast, false) :: stpv wi leaf (f + hf n) (n - hf n) i ps.dropLast
termination_by n
decreasing_by
  · exact hf_lt n (by omega)
  · have := hf_pos n; omega
def StOk (w : World) (ss : List (Value × Value × Bool)) (ts : List (List Nat × List Nat × Bool)) : Prop :=
  ss.length = ts.length ∧ ∀ (j : Nat) s t, ss[j]? = some s → ts[j]? = some t → Sl w s.1 t.1 ∧ Sl w s.2.1 t.2.1 ∧ s.2.2 = t.2.2
theorem StOk.nil (w : World) : StOk w [] [] := ⟨rfl, fun j s t h => by simp at h⟩
theorem StOk.fr0 {w w' : World} {ss : List (Value × Value × Bool)} {ts : List (List Nat × List Nat × Bool)} (h : StOk w ss ts) (hf : Fr (fun _ => False) w w') : StOk w' ss ts :=
  ⟨h.1, fun j s t hs ht => ⟨(h.2 j s t hs ht).1.fr0 hf, (h.2 j s t hs ht).2.1.fr0 hf, (h.2 j s t hs ht).2.2⟩⟩
theorem StOk.cons {w : World} {s : Value × Value × Bool} {t : List Nat × List Nat × Bool} {ss : List (Value × Value × Bool)} {ts : List (List Nat × List Nat × Bool)} (h1 : Sl w s.1 t.1) (h2 : Sl w s.2.1 t.2.1) (h3 : s.2.2 = t.2.2) (h : StOk w ss ts) : StOk w (s :: ss) (t :: ts) :=
  ⟨by simp [h.1], fun j s' t' hs ht => by
    match j with
    | 0 => simp at hs ht; subst hs ht; exact ⟨h1, h2, h3⟩
    | j + 1 => simp at hs ht; exact h.2 j s' t' hs ht⟩
theorem StOk.form {w : World} {ss : List (Value × Value × Bool)} {ts : List (List Nat × List Nat × Bool)} (h : StOk w ss ts) (k : Nat) (hk : k < ss.length) : ∃ la ln lc ra rn rc, ss[k] = (.slice la ln lc, .slice ra rn rc, ss[k].2.2) := by
  obtain ⟨h1, h2, _⟩ := h.2 k ss[k] (ts[k]'(by rw [← h.1]; exact hk)) (List.getElem?_eq_getElem hk) (List.getElem?_eq_getElem _)
  obtain ⟨a, c, e1⟩ := h1.form
  obtain ⟨b, d, e2⟩ := h2.form
  exact ⟨a, _, c, b, _, d, by rw [← e1, ← e2]⟩
def ClSays (wi : Nat) (leaf : List Nat) (lv : Value) (f n i : Nat) (ps : List (List Nat)) (x : Value) (w : World) : Prop :=
  Calls Tryd.prog 82 #[.int .i64 wi, lv, .int .i64 ((i - f : Nat) : Int), .int .i64 n, x] w fun e w' =>
    (ps.length = dep f n i 1 → ∃ ho hn hc so sc ss, e = .returned (.tuple #[.slice ho hn hc, .slice so ss.length sc, .bool true]) ∧ Sl w' (.slice ho hn hc) (topv wi leaf f n i 1 ps) ∧ OT w w' (.slice so ss.length sc) ss ∧ StOk w' ss (stpv wi leaf f n i ps)) ∧
    (¬ ps.length = dep f n i 1 → ∃ ho hn hc, e = .returned (.tuple #[.slice ho hn hc, .slice none 0 0, .bool false])) ∧ Fr (fun _ => False) w w'
set_option maxRecDepth 100000 in
set_option maxHeartbeats 1000000 in
theorem climb_one (wi : Nat) (leaf : List Nat) (lv : Value) (f i : Nat) (ps : List (List Nat)) (vs : List Value) (x : Value) (w : World) (hl : Sl w lv leaf) (hp : Pcs w x vs ps) (hi : f = i) : ClSays wi leaf lv f 1 i ps x w := by
  unfold ClSays
  subst hi
  rw [dep_eq, topv_eq]
  have hst : stpv wi leaf f 1 f ps = [] := by rw [stpv, dif_pos (by decide)]
  rw [hst, Nat.sub_self]
  obtain ⟨lo, lc, rfl⟩ := hl.form
  obtain ⟨xo, xc, rfl⟩ := hp.form
  have HL := hide hl
  clear hl hp hst
  have e0 : ((0 : Nat) : Int) = 0 := rfl
  have e1 : ((1 : Nat) : Int) = 1 := rfl
  simp only [e0, e1]
  clear e0 e1
  generalize leaf.length = LN at *
  by_cases h0 : ps.length = 0
  · rw [h0]
    go_enter Tryd.func82, Tryd.ntmps82
    go_wp2_with fail
    go_returns
    exact ⟨fun _ => ⟨lo, LN, lc, none, 0, [], rfl, unhide HL, OT.nil _, StOk.nil _⟩, fun h => by first | exact absurd rfl h | exact absurd trivial h, Fr.refl _ _⟩
  · have q1 : ((ps.length : Int) == 0) = false := beq_false_of_ne (by omega)
    generalize ps.length = PN at *
    go_enter Tryd.func82, Tryd.ntmps82
    go_wp2_with fail
    go_returns
    exact ⟨fun h => absurd h h0, fun _ => ⟨lo, LN, lc, rfl⟩, Fr.refl _ _⟩
set_option maxRecDepth 100000 in
set_option maxHeartbeats 1000000 in
theorem climb_short (wi : Nat) (leaf : List Nat) (lv : Value) (f n i : Nat) (vs : List Value) (x : Value) (w : World) (hl : Sl w lv leaf) (hp : Pcs w x vs []) (h2 : 2 ≤ n) (hd : ¬ 0 = dep f n i 1) : ClSays wi leaf lv f n i [] x w := by
  unfold ClSays
  obtain ⟨lo, lc, rfl⟩ := hl.form
  obtain ⟨xo, xc, rfl⟩ := hp.form
  clear hl hp
  simp only [List.length_nil]
  have q1 : ((n : Int) == 1) = false := beq_false_of_ne (by omega)
  have q2 : ¬ n = 1 := by omega
  generalize leaf.length = LN at *
  generalize i - f = I at *
  go_enter Tryd.func82, Tryd.ntmps82
  go_wp2_with fail
  go_returns
  exact ⟨fun h => absurd h hd, fun _ => ⟨none, 0, 0, rfl⟩, Fr.refl _ _⟩
end Go.Proofs.YtjokmlnghpnlbaaDoor

namespace Go.Proofs.YtjokmlnghpnlbaaDoor
open Go.RowKit

theorem box3s (w : World) (a b c : Value) (ty : Nat) (W : World) (hW : w.alloc (.cells #[a, b, c] ty) = W) : W.cell? ⟨w.heap.size, 0, none⟩ = some a ∧ W.cell? ⟨w.heap.size, 1, none⟩ = some b ∧ W.cell? ⟨w.heap.size, 2, none⟩ = some c ∧ Fr (fun _ => False) w W := by
  subst hW
  have hc : ∀ j, (w.alloc (.cells #[a, b, c] ty)).cell? ⟨w.heap.size, j, none⟩ = (#[a, b, c] : Array Value)[j]? := fun j => World.cell?_alloc_at _ _ _ _ rfl
  exact ⟨hc 0, hc 1, hc 2, (Fr.refl _ _).alloc _⟩
theorem stpv_len (wi : Nat) (leaf : List Nat) (m : Nat) : ∀ f n i (ps : List (List Nat)), n ≤ m → (stpv wi leaf f n i ps).length = dep f n i 1 := by
  induction m with
  | zero => intro f n i ps h; rw [stpv, dif_pos (by omega), dep, dif_pos (by omega)]; rfl
  | succ m ih =>
    intro f n i ps h
    by_cases h2 : n < 2
    · rw [stpv, dif_pos h2, dep, dif_pos (by omega)]; rfl
    · have hlt := hf_lt n (by omega)
      have hpos := hf_pos n
      by_cases hi : i < f + hf n
      · rw [stpv, dif_neg h2, if_pos hi, dep_l (by omega) (by omega) hi, List.length_cons, ih _ _ _ _ (by omega)]
      · rw [stpv, dif_neg h2, if_neg hi, dep_r (by omega) (by omega) hi, List.length_cons, ih _ _ _ _ (by omega)]
set_option maxRecDepth 100000 in
set_option maxHeartbeats 4000000 in
/-- A step down to the left. -/
theorem climb_left (wi : Nat) (hw1 : 1 ≤ wi) (hw32 : wi ≤ 32) (leaf : List Nat) (lo : Option Addr) (ln lc : Nat) (f n i D : Nat) (ps : List (List Nat)) (vs : List Value) (g o xc : Nat) (w : World) (hr : GR w) (hp : Pcs w (.slice (some ⟨g, o, none⟩) (D + 1) xc) vs ps) (hcap : D + 1 ≤ xc) (hlen : ps.length = D + 1) (hD8 : D < 8000000) (h2 : 2 ≤ n) (hn : n < 9223372036854775808) (hfi : f ≤ i) (hi : i < f + hf n) (hll : leaf.length = wi) (hpw : ∀ p ∈ ps, p.length = wi)
    (ih : ∀ w', Fr (fun _ => False) w w' → ClSays wi leaf (.slice lo ln lc) f (hf n) i (ps.take D) (.slice (some ⟨g, o, none⟩) D xc) w') : ClSays wi leaf (.slice lo ln lc) f n i ps (.slice (some ⟨g, o, none⟩) (D + 1) xc) w := by
  have hlt := hf_lt n h2
  have hpos := hf_pos n
  obtain ⟨g', o', vo, vc, eg, hcell, hsl⟩ := hp.nth (Fr.refl _ _) D (by omega)
  cases eg
  have hdl : ps.dropLast = ps.take D := by rw [List.dropLast_eq_take, hlen]; rfl
  have hgl : ps.getLastD [] = ps[D] := getLastD_at ps D hlen
  have hne : ¬ (f = i ∧ n = 1) := by omega
  have hdp := dep_l h2 hne hi
  have htv := topv_l (wi := wi) (r := leaf) (p := ps) h2 hne hi
  have hst : stpv wi leaf f n i ps = (topv wi leaf f (hf n) i 1 ps.dropLast, ps.getLastD [], true) :: stpv wi leaf f (hf n) i ps.dropLast := by
    conv => lhs; rw [stpv, dif_neg (by omega), if_pos hi]
  rw [hdl, hgl] at htv hst
  have hTw := topv_wid wi hw1 hw32 leaf hll _ f (hf n) i 1 (ps.take D) (Nat.le_refl _)
  have hAw := hpw ps[D] (List.getElem_mem _)
  have htl : (ps.take D).length = D := by rw [List.length_take]; omega
  have hha := half_any n w hn h2
  have hI : i - f < hf n := by omega
  have hSL := stpv_len wi leaf _ f (hf n) i (ps.take D) (Nat.le_refl _)
  unfold ClSays at ih ⊢
  rw [hdp, htv, hst]
  rw [htl] at ih
  rw [hAw] at hcell hsl
  generalize topv wi leaf f (hf n) i 1 (ps.take D) = T at *
  generalize ps[D] = A at *
  generalize stpv wi leaf f (hf n) i (ps.take D) = SS at *
  generalize dep f (hf n) i 1 = DD at *
  rw [hlen]
  have hnd := nd_len wi hw1 hw32 T A
  have hnode : ∀ w' x y, GR w' → Sl w' x T → Sl w' y A → Calls Tryd.prog 52 #[.int .i64 wi, x, y] w' fun e w'' => ∃ yo yc, e = .returned (.slice yo wi yc) ∧ Sl w'' (.slice yo wi yc) (nd wi T A) ∧ Fr (fun _ => False) w' w'' := fun w' x y h1 h2 h3 => by
    refine (gnode_any (wi : Int) x y T A w' h1 h2.s h3.s h2.b h3.b (by omega) (by omega)).mono ?_
    rintro e w'' ⟨yo, yc, rfl, hO⟩
    have hs := hO.sl (nd_lt _ _ _)
    rw [hnd] at hs ⊢
    exact ⟨yo, yc, rfl, hs, hO.fr⟩
  have q1 : ((n : Int) == 1) = false := beq_false_of_ne (by omega)
  have q2 : ¬ n = 1 := by omega
  have q3 : (((D : Int) + 1) == 0) = false := beq_false_of_ne (by omega)
  have q4 : ¬ (D : Int) + 1 = 0 := by omega
  have q5 : IntKind.i64.wrap ((D : Int) + 1 - 1) = (D : Int) := by rw [IntKind.wrap_i64]; omega
  have q6 : (D : Int) < (D : Int) + 1 := by omega
  have q7 : (D : Int) ≤ (xc : Int) := by omega
  have q8 : ((i - f : Nat) : Int) < ((hf n : Nat) : Int) := by omega
  have HC := hide (And.intro hha (And.intro ih (And.intro hnode (And.intro hr (And.intro hsl hSL)))))
  clear hha ih hnode hr hsl hSL hp hTw hAw htl hnd hdp htv hst hdl hgl hpw hll hlen hne hi hfi hlt hpos h2 hn
  generalize i - f = I at *
  generalize hf n = K at *
  go_enter Tryd.func82, Tryd.ntmps82
  go_wp2_with fail
  refine (unhide HC).1.mono ?_
  rintro e w0 ⟨rfl, rfl⟩
  go_wp2_with fail
  refine ((unhide HC).2.1 _ (by first | exact Fr.refl _ _ | exact (Fr.refl _ _).drew)).mono ?_
  rintro e w1 ⟨hA, hB, hF⟩
  by_cases hd : D = DD
  · obtain ⟨ho, hn, hc, so, sc, ss, rfl, hS, hO, hK⟩ := hA hd
    have hsl' : ss.length = SS.length := hK.1
    have H1 := hide (And.intro hS (And.intro hO (And.intro hK (And.intro hF (And.intro hd hsl')))))
    clear hA hB hS hO hK hF hd hsl'
    go_wp2_with fail
    obtain ⟨W2, hW2⟩ : ∃ W2, w1.alloc (.cells #[.slice ho hn hc, .slice vo wi vc, .bool true] 121) = W2 := ⟨_, rfl⟩
    rw [hW2]
    obtain ⟨z0, z1, z2, hF2⟩ := box3s w1 _ _ _ _ W2 hW2
    obtain ⟨W3, hW3⟩ : ∃ W3, W2.alloc (.cells #[.slice ho hn hc, .slice vo wi vc, .bool true] 121) = W3 := ⟨_, rfl⟩
    rw [hW3]
    have hsz : w1.heap.size + 1 = W2.heap.size := by rw [← hW2]; simp
    rw [hsz]
    have hT0 := OT.lit (Fr.refl _ W2) ho hn hc vo wi vc true W3 hW3
    have HZ := hide (And.intro z0 (And.intro z1 (And.intro z2 (And.intro hF2 hT0))))
    clear z0 z1 z2 hF2 hT0 hW2 hW3 hsz
    generalize w1.heap.size = P at *
    generalize hSN : ss.length = SN at *
    go_loopw [22, 23] (fun dv iv wr => ∃ (k : Nat), k ≤ SN ∧ iv = .int .i64 (k : Nat) ∧ OT W2 wr dv ((.slice ho hn hc, .slice vo wi vc, true) :: ss.take k)) (fun _ iv _ => SN - (intOf iv).toNat)
    case atStart => exact ⟨0, Nat.zero_le _, rfl, (unhide HZ).2.2.2.2⟩
    case round =>
      obtain ⟨k, hk, rfl, hT⟩ := hrel
      have hSD : SN = D := by have h1 := (unhide H1).2.2.2.2.2; have h2 := (unhide HC).2.2.2.2.2; have h3 := (unhide H1).2.2.2.2.1; omega
      have htl : (((Value.slice ho hn hc, Value.slice vo wi vc, true) :: ss.take k) : List (Value × Value × Bool)).length = k + 1 := by rw [List.length_cons, List.length_take]; omega
      by_cases hlt : k < SN
      · have hlt' : (k : Int) < (SN : Int) := by omega
        have hks : k < ss.length := by omega
        have hF1r : Fr (fun _ => False) w1 wr := (unhide HZ).2.2.2.1.trans hT.fr (fun _ _ h => h)
        obtain ⟨g2, rfl, e0, e1, e2⟩ := (unhide H1).2.1.cell hF1r k hks
        obtain ⟨la, ln', lc', ra, rn, rc, es⟩ := (unhide H1).2.2.1.form k hks
        have htk : ss.take (k + 1) = ss.take k ++ [ss[k]] := by rw [List.take_add_one, List.getElem?_eq_getElem hks]; rfl
        generalize ss[k].2.2 = b at *
        rw [es] at e0 e1 htk
        simp only at e0 e1
        obtain ⟨ao, cap, w', hr, hown, hgrow⟩ := app_step wr W2.heap.size _ _ la ln' lc' ra rn rc b hT.own (by rw [htl]; omega) hT.fr.size
        obtain ⟨da, dc, rfl⟩ := hT.form
        rw [htl] at hr hown
        have hT2 : OT W2 w' (.slice ao (k + 1 + 1) cap) ((.slice ho hn hc, .slice vo wi vc, true) :: ss.take (k + 1)) := by
          refine ⟨?_, (hT.fr.alloc _).grown hgrow (fun g hg => .inr (hT.own.lt g hg).1)⟩
          have e : (((Value.slice ho hn hc, Value.slice vo wi vc, true) :: ss.take (k + 1)) : List (Value × Value × Bool)).length = k + 1 + 1 := by rw [List.length_cons, List.length_take]; omega
          rw [e, htk, ← List.cons_append]
          exact hown
        have w1' : IntKind.i64.wrap ((k : Int) + 1) = (k : Int) + 1 := by rw [IntKind.wrap_i64]; omega
        have HR := hide hr
        have HT := hide hT2
        have hk8 : k < 8000000 := by omega
        clear hr hown hgrow hT hT2 htk es hF1r hSD
        rw [htl]
        clear htl
        go_wp2_with (at_builtin; refine wpList_app rfl (.tmp 86) (.tmp 91) 105 105 rfl _ _ _ rfl rfl (unhide HR) ?_)
        exact ⟨⟨k + 1, by omega, by go_num, unhide HT⟩, by simp [intOf]; omega⟩
      · have hlt' : ¬ (k : Int) < (SN : Int) := by omega
        rw [List.take_of_length_le (by omega)] at hT htl
        have c0 := (hT.fr.cell (lt_of_cell (unhide HZ).1) (fun h => h)).trans (unhide HZ).1
        have c1 := (hT.fr.cell (lt_of_cell (unhide HZ).2.1) (fun h => h)).trans (unhide HZ).2.1
        obtain ⟨da, dc, rfl⟩ := hT.form
        have hFw : Fr (fun _ => False) w1 wr := (unhide HZ).2.2.2.1.trans hT.fr (fun _ _ h => h)
        have HT := hide (And.intro hT (And.intro hFw htl))
        rw [htl]
        clear hT htl hFw hSD
        go_wp2_with fail
        refine ((unhide HC).2.2.1 wr _ _ ((unhide HC).2.2.2.1.fr0 ((unhide H1).2.2.2.1.trans (unhide HT).2.1 (fun _ _ h => h))) ((unhide H1).1.fr0 (unhide HT).2.1) ((unhide HC).2.2.2.2.1.fr0 ((unhide H1).2.2.2.1.trans (unhide HT).2.1 (fun _ _ h => h)))).mono ?_
        rintro e w5 ⟨yo, yc, rfl, hS5, hF5⟩
        have H5 := hide (And.intro hS5 hF5)
        clear hS5 hF5
        go_wp2_with fail
        go_returns
        have hF15 := (unhide HT).2.1.trans (unhide H5).2 (fun _ _ h => h)
        have hF05 := (unhide H1).2.2.2.1.trans hF15 (fun _ _ h => h)
        refine ⟨fun _ => ⟨yo, wi, yc, da, dc, (.slice ho hn hc, .slice vo wi vc, true) :: ss, by rw [(unhide HT).2.2]; rfl, (unhide H5).1, ?_, ?_⟩, fun h => absurd (by have := (unhide H1).2.2.2.2.1; omega) h, hF05⟩
        · exact ((unhide HT).1.fr0 (unhide H5).2).base ((unhide H1).2.2.2.1.trans (unhide HZ).2.2.2.1 (fun _ _ h => h))
        · exact StOk.cons ((unhide H1).1.fr0 hF15) ((unhide HC).2.2.2.2.1.fr0 hF05) rfl ((unhide H1).2.2.1.fr0 hF15)
  · obtain ⟨ho, hn, hc, rfl⟩ := hB hd
    have H1 := hide (And.intro hF hd)
    clear hA hB hF hd
    go_wp2_with fail
    go_returns
    exact ⟨fun h => absurd (by omega) (unhide H1).2, fun _ => ⟨none, 0, 0, rfl⟩, (unhide H1).1⟩
end Go.Proofs.YtjokmlnghpnlbaaDoor

namespace Go.Proofs.YtjokmlnghpnlbaaDoor
open Go.RowKit

set_option maxRecDepth 100000 in
set_option maxHeartbeats 4000000 in
/-- A step down to the right. -/
theorem climb_right (wi : Nat) (hw1 : 1 ≤ wi) (hw32 : wi ≤ 32) (leaf : List Nat) (lo : Option Addr) (ln lc : Nat) (f n i D : Nat) (ps : List (List Nat)) (vs : List Value) (g o xc : Nat) (w : World) (hr : GR w) (hp : Pcs w (.slice (some ⟨g, o, none⟩) (D + 1) xc) vs ps) (hcap : D + 1 ≤ xc) (hlen : ps.length = D + 1) (hD8 : D < 8000000) (h2 : 2 ≤ n) (hn : n < 9223372036854775808) (hin : i < f + n) (hi : ¬ i < f + hf n) (hll : leaf.length = wi) (hpw : ∀ p ∈ ps, p.length = wi)
    (ih : ∀ w', Fr (fun _ => False) w w' → ClSays wi leaf (.slice lo ln lc) (f + hf n) (n - hf n) i (ps.take D) (.slice (some ⟨g, o, none⟩) D xc) w') : ClSays wi leaf (.slice lo ln lc) f n i ps (.slice (some ⟨g, o, none⟩) (D + 1) xc) w := by
  have hlt := hf_lt n h2
  have hpos := hf_pos n
  obtain ⟨g', o', vo, vc, eg, hcell, hsl⟩ := hp.nth (Fr.refl _ _) D (by omega)
  cases eg
  have hdl : ps.dropLast = ps.take D := by rw [List.dropLast_eq_take, hlen]; rfl
  have hgl : ps.getLastD [] = ps[D] := getLastD_at ps D hlen
  have hne : ¬ (f = i ∧ n = 1) := by omega
  have hdp := dep_r h2 hne hi
  have htv := topv_r (wi := wi) (r := leaf) (p := ps) h2 hne hi
  have hst : stpv wi leaf f n i ps = (ps.getLastD [], topv wi leaf (f + hf n) (n - hf n) i 1 ps.dropLast, false) :: stpv wi leaf (f + hf n) (n - hf n) i ps.dropLast := by
    conv => lhs; rw [stpv, dif_neg (by omega), if_neg hi]
  rw [hdl, hgl] at htv hst
  have hTw := topv_wid wi hw1 hw32 leaf hll _ (f + hf n) (n - hf n) i 1 (ps.take D) (Nat.le_refl _)
  have hAw := hpw ps[D] (List.getElem_mem _)
  have htl : (ps.take D).length = D := by rw [List.length_take]; omega
  have hha := half_any n w hn h2
  have hI : i - (f + hf n) = (i - f) - hf n := by omega
  have hI2 : hf n ≤ i - f := by omega
  have hI3 : i - f < n := by omega
  have hSL := stpv_len wi leaf _ (f + hf n) (n - hf n) i (ps.take D) (Nat.le_refl _)
  unfold ClSays at ih ⊢
  rw [hdp, htv, hst]
  rw [htl, hI] at ih
  rw [hAw] at hcell hsl
  generalize topv wi leaf (f + hf n) (n - hf n) i 1 (ps.take D) = T at *
  generalize ps[D] = A at *
  generalize stpv wi leaf (f + hf n) (n - hf n) i (ps.take D) = SS at *
  generalize dep (f + hf n) (n - hf n) i 1 = DD at *
  rw [hlen]
  have hnd := nd_len wi hw1 hw32 A T
  have hnode : ∀ w' x y, GR w' → Sl w' x A → Sl w' y T → Calls Tryd.prog 52 #[.int .i64 wi, x, y] w' fun e w'' => ∃ yo yc, e = .returned (.slice yo wi yc) ∧ Sl w'' (.slice yo wi yc) (nd wi A T) ∧ Fr (fun _ => False) w' w'' := fun w' x y h1 h2 h3 => by
    refine (gnode_any (wi : Int) x y A T w' h1 h2.s h3.s h2.b h3.b (by omega) (by omega)).mono ?_
    rintro e w'' ⟨yo, yc, rfl, hO⟩
    have hs := hO.sl (nd_lt _ _ _)
    rw [hnd] at hs ⊢
    exact ⟨yo, yc, rfl, hs, hO.fr⟩
  have q1 : ((n : Int) == 1) = false := beq_false_of_ne (by omega)
  have q2 : ¬ n = 1 := by omega
  have q3 : (((D : Int) + 1) == 0) = false := beq_false_of_ne (by omega)
  have q4 : ¬ (D : Int) + 1 = 0 := by omega
  have q5 : IntKind.i64.wrap ((D : Int) + 1 - 1) = (D : Int) := by rw [IntKind.wrap_i64]; omega
  have q6 : (D : Int) < (D : Int) + 1 := by omega
  have q7 : (D : Int) ≤ (xc : Int) := by omega
  have q8 : ¬ ((i - f : Nat) : Int) < ((hf n : Nat) : Int) := by omega
  have q9 : ¬ i - f < hf n := by omega
  have q10 : IntKind.i64.wrap (((i - f : Nat) : Int) - ((hf n : Nat) : Int)) = (((i - f) - hf n : Nat) : Int) := by rw [IntKind.wrap_i64]; omega
  have q11 : IntKind.i64.wrap ((n : Int) - ((hf n : Nat) : Int)) = ((n - hf n : Nat) : Int) := by rw [IntKind.wrap_i64]; omega
  have HC := hide (And.intro hha (And.intro ih (And.intro hnode (And.intro hr (And.intro hsl hSL)))))
  clear hha ih hnode hr hsl hSL hp hTw hAw htl hnd hdp htv hst hdl hgl hpw hll hlen hne hi hin hlt hpos h2 hn hI hI2 hI3
  generalize (i - f) - hf n = IK at *
  generalize n - hf n = NK at *
  generalize i - f = I at *
  generalize hf n = K at *
  go_enter Tryd.func82, Tryd.ntmps82
  go_wp2_with fail
  refine (unhide HC).1.mono ?_
  rintro e w0 ⟨rfl, rfl⟩
  go_wp2_with fail
  refine ((unhide HC).2.1 _ (by first | exact Fr.refl _ _ | exact (Fr.refl _ _).drew)).mono ?_
  rintro e w1 ⟨hA, hB, hF⟩
  by_cases hd : D = DD
  · obtain ⟨ho, hn, hc, so, sc, ss, rfl, hS, hO, hK⟩ := hA hd
    have hsl' : ss.length = SS.length := hK.1
    have H1 := hide (And.intro hS (And.intro hO (And.intro hK (And.intro hF (And.intro hd hsl')))))
    clear hA hB hS hO hK hF hd hsl'
    go_wp2_with fail
    obtain ⟨W2, hW2⟩ : ∃ W2, w1.alloc (.cells #[.slice vo wi vc, .slice ho hn hc, .bool false] 121) = W2 := ⟨_, rfl⟩
    rw [hW2]
    obtain ⟨z0, z1, z2, hF2⟩ := box3s w1 _ _ _ _ W2 hW2
    obtain ⟨W3, hW3⟩ : ∃ W3, W2.alloc (.cells #[.slice vo wi vc, .slice ho hn hc, .bool false] 121) = W3 := ⟨_, rfl⟩
    rw [hW3]
    have hsz : w1.heap.size + 1 = W2.heap.size := by rw [← hW2]; simp
    rw [hsz]
    have hT0 := OT.lit (Fr.refl _ W2) vo wi vc ho hn hc false W3 hW3
    have HZ := hide (And.intro z0 (And.intro z1 (And.intro z2 (And.intro hF2 hT0))))
    clear z0 z1 z2 hF2 hT0 hW2 hW3 hsz
    generalize w1.heap.size = P at *
    generalize hSN : ss.length = SN at *
    go_loopw [22, 23] (fun dv iv wr => ∃ (k : Nat), k ≤ SN ∧ iv = .int .i64 (k : Nat) ∧ OT W2 wr dv ((.slice vo wi vc, .slice ho hn hc, false) :: ss.take k)) (fun _ iv _ => SN - (intOf iv).toNat)
    case atStart => exact ⟨0, Nat.zero_le _, rfl, (unhide HZ).2.2.2.2⟩
    case round =>
      obtain ⟨k, hk, rfl, hT⟩ := hrel
      have hSD : SN = D := by have h1 := (unhide H1).2.2.2.2.2; have h2 := (unhide HC).2.2.2.2.2; have h3 := (unhide H1).2.2.2.2.1; omega
      have htl : (((Value.slice vo wi vc, Value.slice ho hn hc, false) :: ss.take k) : List (Value × Value × Bool)).length = k + 1 := by rw [List.length_cons, List.length_take]; omega
      by_cases hlt : k < SN
      · have hlt' : (k : Int) < (SN : Int) := by omega
        have hks : k < ss.length := by omega
        have hF1r : Fr (fun _ => False) w1 wr := (unhide HZ).2.2.2.1.trans hT.fr (fun _ _ h => h)
        obtain ⟨g2, rfl, e0, e1, e2⟩ := (unhide H1).2.1.cell hF1r k hks
        obtain ⟨la, ln', lc', ra, rn, rc, es⟩ := (unhide H1).2.2.1.form k hks
        have htk : ss.take (k + 1) = ss.take k ++ [ss[k]] := by rw [List.take_add_one, List.getElem?_eq_getElem hks]; rfl
        generalize ss[k].2.2 = b at *
        rw [es] at e0 e1 htk
        simp only at e0 e1
        obtain ⟨ao, cap, w', hr, hown, hgrow⟩ := app_step wr W2.heap.size _ _ la ln' lc' ra rn rc b hT.own (by rw [htl]; omega) hT.fr.size
        obtain ⟨da, dc, rfl⟩ := hT.form
        rw [htl] at hr hown
        have hT2 : OT W2 w' (.slice ao (k + 1 + 1) cap) ((.slice vo wi vc, .slice ho hn hc, false) :: ss.take (k + 1)) := by
          refine ⟨?_, (hT.fr.alloc _).grown hgrow (fun g hg => .inr (hT.own.lt g hg).1)⟩
          have e : (((Value.slice vo wi vc, Value.slice ho hn hc, false) :: ss.take (k + 1)) : List (Value × Value × Bool)).length = k + 1 + 1 := by rw [List.length_cons, List.length_take]; omega
          rw [e, htk, ← List.cons_append]
          exact hown
        have w1' : IntKind.i64.wrap ((k : Int) + 1) = (k : Int) + 1 := by rw [IntKind.wrap_i64]; omega
        have HR := hide hr
        have HT := hide hT2
        have hk8 : k < 8000000 := by omega
        clear hr hown hgrow hT hT2 htk es hF1r hSD
        rw [htl]
        clear htl
        go_wp2_with (at_builtin; refine wpList_app rfl (.tmp 86) (.tmp 91) 105 105 rfl _ _ _ rfl rfl (unhide HR) ?_)
        exact ⟨⟨k + 1, by omega, by go_num, unhide HT⟩, by simp [intOf]; omega⟩
      · have hlt' : ¬ (k : Int) < (SN : Int) := by omega
        rw [List.take_of_length_le (by omega)] at hT htl
        have c0 := (hT.fr.cell (lt_of_cell (unhide HZ).1) (fun h => h)).trans (unhide HZ).1
        have c1 := (hT.fr.cell (lt_of_cell (unhide HZ).2.1) (fun h => h)).trans (unhide HZ).2.1
        obtain ⟨da, dc, rfl⟩ := hT.form
        have hFw : Fr (fun _ => False) w1 wr := (unhide HZ).2.2.2.1.trans hT.fr (fun _ _ h => h)
        have HT := hide (And.intro hT (And.intro hFw htl))
        rw [htl]
        clear hT htl hFw hSD
        go_wp2_with fail
        refine ((unhide HC).2.2.1 wr _ _ ((unhide HC).2.2.2.1.fr0 ((unhide H1).2.2.2.1.trans (unhide HT).2.1 (fun _ _ h => h))) ((unhide HC).2.2.2.2.1.fr0 ((unhide H1).2.2.2.1.trans (unhide HT).2.1 (fun _ _ h => h))) ((unhide H1).1.fr0 (unhide HT).2.1)).mono ?_
        rintro e w5 ⟨yo, yc, rfl, hS5, hF5⟩
        have H5 := hide (And.intro hS5 hF5)
        clear hS5 hF5
        go_wp2_with fail
        go_returns
        have hF15 := (unhide HT).2.1.trans (unhide H5).2 (fun _ _ h => h)
        have hF05 := (unhide H1).2.2.2.1.trans hF15 (fun _ _ h => h)
        refine ⟨fun _ => ⟨yo, wi, yc, da, dc, (.slice vo wi vc, .slice ho hn hc, false) :: ss, by rw [(unhide HT).2.2]; rfl, (unhide H5).1, ?_, ?_⟩, fun h => absurd (by have := (unhide H1).2.2.2.2.1; omega) h, hF05⟩
        · exact ((unhide HT).1.fr0 (unhide H5).2).base ((unhide H1).2.2.2.1.trans (unhide HZ).2.2.2.1 (fun _ _ h => h))
        · exact StOk.cons ((unhide HC).2.2.2.2.1.fr0 hF05) ((unhide H1).1.fr0 hF15) rfl ((unhide H1).2.2.1.fr0 hF15)
  · obtain ⟨ho, hn, hc, rfl⟩ := hB hd
    have H1 := hide (And.intro hF hd)
    clear hA hB hF hd
    go_wp2_with fail
    go_returns
    exact ⟨fun h => absurd (by omega) (unhide H1).2, fun _ => ⟨none, 0, 0, rfl⟩, (unhide H1).1⟩
/-- The document's climb. -/
theorem climb_any (wi : Nat) (hw1 : 1 ≤ wi) (hw32 : wi ≤ 32) (leaf : List Nat) (hll : leaf.length = wi) (lo : Option Addr) (ln lc : Nat) (m : Nat) : ∀ (f n i : Nat) (ps : List (List Nat)) (vs : List Value) (x : Value) (w : World), n ≤ m → 1 ≤ n → n < 9223372036854775808 → f ≤ i → i < f + n → GR w → Sl w (.slice lo ln lc) leaf → Pcs w x vs ps → Cp x → ps.length ≤ 8000000 → (∀ p ∈ ps, p.length = wi) → ClSays wi leaf (.slice lo ln lc) f n i ps x w := by
  induction m with
  | zero => intro f n i ps vs x w h h1; omega
  | succ m ih =>
    intro f n i ps vs x w h h1 hn hfi hin hr hl hp hcx hps hpw
    by_cases h2 : n = 1
    · subst h2
      exact climb_one wi leaf _ f i ps vs x w hl hp (by omega)
    · have hlt := hf_lt n (by omega)
      have hpos := hf_pos n
      by_cases h0 : ps = []
      · subst h0
        refine climb_short wi leaf _ f n i vs x w hl hp (by omega) ?_
        by_cases hi : i < f + hf n
        · rw [dep_l (by omega) (by omega) hi]; omega
        · rw [dep_r (by omega) (by omega) hi]; omega
      · obtain ⟨D, hD⟩ : ∃ D, ps.length = D + 1 := ⟨ps.length - 1, by have := List.length_pos_iff.2 h0; omega⟩
        obtain ⟨xo, xc, rfl⟩ := hp.form
        obtain ⟨g, o, v, rfl, -⟩ := hp.cell (Fr.refl _ _) 0 (by omega)
        have hcap : ps.length ≤ xc := hcx _ _ _ rfl
        rw [hD] at hp hcx hcap ⊢
        have hp' := hp.take D (by omega)
        have hcx' : Cp (.slice (some ⟨g, o, none⟩) D xc) := fun _ _ _ e => by cases e; omega
        have htl : (ps.take D).length ≤ 8000000 := by rw [List.length_take]; omega
        have hpw' : ∀ p ∈ ps.take D, p.length = wi := fun p h => hpw p (List.mem_of_mem_take h)
        by_cases hi : i < f + hf n
        · exact climb_left wi hw1 hw32 leaf lo ln lc f n i D ps vs g o xc w hr hp hcap hD (by omega) (by omega) hn hfi hi hll hpw (fun w' hf' => ih f (hf n) i _ _ _ w' (by omega) (by omega) (by omega) hfi hi (hr.fr0 hf') (hl.fr0 hf') (hp'.fr0 hf') hcx' htl hpw')
        · exact climb_right wi hw1 hw32 leaf lo ln lc f n i D ps vs g o xc w hr hp hcap hD (by omega) (by omega) hn hin hi hll hpw (fun w' hf' => ih (f + hf n) (n - hf n) i _ _ _ w' (by omega) (by omega) (by omega) (by omega) (by omega) (hr.fr0 hf') (hl.fr0 hf') (hp'.fr0 hf') hcx' htl hpw')
end Go.Proofs.YtjokmlnghpnlbaaDoor

namespace Go.Proofs.YtjokmlnghpnlbaaDoor
open Go.RowKit

theorem norm_id {a : List Nat} (h : ∀ v ∈ a, v < 256) : norm a = a := by
  rw [norm]
  conv => rhs; rw [← List.map_id a]
  exact List.map_congr_left (fun v hv => Nat.mod_eq_of_lt (h v hv))
theorem gsame_D {w : World} {x y : Value} {a b : List Nat} (hx : Sl w x a) (hy : Sl w y b) (ha : a.length ≤ 140737488355328) : Calls Tryd.prog 19 #[x, y] w fun e w' => e = .returned (.bool (decide (a = b))) ∧ Fr (fun _ => False) w w' := by
  refine (same_any x y a b w hx.s hy.s ha).mono ?_
  rintro e w' ⟨rfl, hn⟩
  refine ⟨?_, Fr.of_drewN hn⟩
  rw [sameB, norm_id hx.b, norm_id hy.b]
set_option maxRecDepth 100000 in
set_option maxHeartbeats 2000000 in
/-- The document's CheckPath. -/
theorem gcheckPath_any (j i n : Int) (lv rv x : Value) (leaf root : List Nat) (vs : List Value) (ps : List (List Nat)) (w : World) (hg_ : GR w) (hl : Sl w lv leaf) (hr : Sl w rv root) (hp : Pcs w x vs ps) (hcx : Cp x) (hn : n < 9223372036854775808) (hps : ps.length ≤ 8000000) :
    Calls Tryd.prog 56 #[.int .i64 j, lv, .int .i64 i, .int .i64 n, x, rv] w fun e w' => e = .returned (.bool (chkP j leaf i n ps root)) ∧ Fr (fun _ => False) w w' := by
  obtain ⟨lo, lc, rfl⟩ := hl.form
  obtain ⟨rr, rc, rfl⟩ := hr.form
  obtain ⟨xo, xc, rfl⟩ := hp.form
  by_cases h1o : j < 1 ∨ 32 < j
  · have h1 : ¬ (1 ≤ j ∧ j ≤ 32) := by omega
    have hB : chkP j leaf i n ps root = false := by rw [chkP, decide_eq_false h1]; rfl
    rw [hB]
    have HM := hide h1o
    clear hg_ hl hr hp hcx hn hps hB h1 h1o
    generalize leaf.length = LL at *
    generalize root.length = RL at *
    generalize ps.length = PL at *
    go_enter Tryd.func56, Tryd.ntmps56
    go_wp2_with fail
    refine (may_no j _ (unhide HM)).mono ?_
    rintro e' w0 ⟨rfl, rfl⟩
    go_wp2_with fail
    go_ret
    exact ⟨rfl, Fr.refl _ _⟩
  · have h1 : 1 ≤ j ∧ j ≤ 32 := by omega
    clear h1o
    have HM := hide h1
    by_cases h2' : i < 0
    · have h2 : ¬ 0 ≤ i := by omega
      have hB : chkP j leaf i n ps root = false := by rw [chkP, decide_eq_true h1, decide_eq_false h2]; rfl
      rw [hB]
      clear hg_ hl hr hp hcx hn hps hB h1
      generalize leaf.length = LL at *
      generalize root.length = RL at *
      generalize ps.length = PL at *
      go_enter Tryd.func56, Tryd.ntmps56
      go_wp2_with fail
      refine (may_yes j _ (unhide HM).1 (unhide HM).2).mono ?_
      rintro e' w0 ⟨rfl, rfl⟩
      go_wp2_with fail
      go_ret
      exact ⟨rfl, Fr.refl _ _⟩
    · have h2 : 0 ≤ i := by omega
      by_cases h3' : n ≤ i
      · have h3 : ¬ i < n := by omega
        have hB : chkP j leaf i n ps root = false := by rw [chkP, decide_eq_true h1, decide_eq_true h2, decide_eq_false h3]; rfl
        rw [hB]
        clear hg_ hl hr hp hcx hn hps hB h1
        generalize leaf.length = LL at *
        generalize root.length = RL at *
        generalize ps.length = PL at *
        go_enter Tryd.func56, Tryd.ntmps56
        go_wp2_with fail
        refine (may_yes j _ (unhide HM).1 (unhide HM).2).mono ?_
        rintro e' w0 ⟨rfl, rfl⟩
        go_wp2_with fail
        go_ret
        exact ⟨rfl, Fr.refl _ _⟩
      · have h3 : i < n := by omega
        have hce : chkP j leaf i n ps root = (wdq j [leaf, root] && (wdq j ps && (decide (ps.length = dep 0 n.toNat i.toNat 1) && decide (topv j.toNat leaf 0 n.toNat i.toNat 1 ps = root)))) := by
          rw [chkP, decide_eq_true h1, decide_eq_true h2, decide_eq_true h3]; rfl
        by_cases h4 : (leaf.length : Int) = j
        · by_cases h5 : (root.length : Int) = j
          · have hq1 : wdq j [leaf, root] = true := by simp [wdq, h4, h5]
            clear hce
            have hwd := gwide_any j _ vs ps w hp (by omega)
            obtain ⟨wi, rfl⟩ : ∃ k : Nat, j = (k : Int) := ⟨j.toNat, by omega⟩
            obtain ⟨I, rfl⟩ : ∃ k : Nat, i = (k : Int) := ⟨i.toNat, by omega⟩
            obtain ⟨N, rfl⟩ : ∃ k : Nat, n = (k : Int) := ⟨n.toNat, by omega⟩
            have hce : chkP wi leaf I N ps root = (wdq wi [leaf, root] && (wdq wi ps && (decide (ps.length = dep 0 N I 1) && decide (topv wi leaf 0 N I 1 ps = root)))) := by
              rw [chkP, decide_eq_true h1, decide_eq_true h2, decide_eq_true h3]; rfl
            rw [hce, hq1, Bool.true_and]
            clear hce hq1
            have h2'' : ¬ (I : Int) < 0 := by omega
            have h3'' : ¬ (N : Int) ≤ (I : Int) := by omega
            have h6 : ¬ N ≤ I := by omega
            have hlw : leaf.length = wi := by omega
            have hrw : root.length = wi := by omega
            rw [hlw] at hl ⊢
            rw [hrw] at hr ⊢
            cases hq2 : wdq wi ps with
            | false =>
              rw [hq2] at hwd
              rw [Bool.false_and]
              have HC := hide hwd
              clear hg_ hl hr hp hcx hn hps h1 h2 h3 hwd hq2 h4 h5 h2' h3' hlw hrw
              generalize ps.length = PL at *
              go_enter Tryd.func56, Tryd.ntmps56
              go_wp2_with fail
              refine (may_yes wi _ (unhide HM).1 (unhide HM).2).mono ?_
              rintro e' w0 ⟨rfl, rfl⟩
              go_wp2_with fail
              refine (unhide HC).mono ?_
              rintro e' w1 ⟨rfl, rfl⟩
              go_wp2_with fail
              go_ret
              exact ⟨rfl, Fr.refl _ _⟩
            | true =>
              rw [hq2] at hwd
              rw [Bool.true_and]
              have hpw : ∀ p ∈ ps, p.length = wi := fun p hp => by have := wdq_true hq2 p hp; omega
              have hcl := climb_any wi (by omega) (by omega) leaf hlw lo wi lc N 0 N I ps vs _ w (Nat.le_refl _) (by omega) (by omega) (by omega) (by omega) hg_ hl hp hcx hps hpw
              unfold ClSays at hcl
              rw [Nat.sub_zero] at hcl
              have hTw := topv_wid wi (by omega) (by omega) leaf hlw _ 0 N I 1 ps (Nat.le_refl _)
              generalize topv wi leaf 0 N I 1 ps = T at *
              generalize stpv wi leaf 0 N I ps = SS at *
              by_cases hd : ps.length = dep 0 N I 1
              · rw [decide_eq_true hd, Bool.true_and]
                obtain ⟨BB, hBB⟩ : ∃ BB, decide (T = root) = BB := ⟨_, rfl⟩
                rw [hBB]
                have HC := hide (And.intro hwd (And.intro hcl (And.intro hd (And.intro hr (And.intro hBB hTw)))))
                clear hg_ hl hr hp hcx hn hps h1 h2 h3 hwd hq2 h4 h5 h2' h3' hlw hrw hpw hcl hTw hBB hd
                generalize ps.length = PL at *
                go_enter Tryd.func56, Tryd.ntmps56
                go_wp2_with fail
                refine (may_yes wi _ (unhide HM).1 (unhide HM).2).mono ?_
                rintro e' w0 ⟨rfl, rfl⟩
                go_wp2_with fail
                refine (unhide HC).1.mono ?_
                rintro e' w1 ⟨rfl, rfl⟩
                go_wp2_with fail
                refine (unhide HC).2.1.mono ?_
                rintro e' w2 ⟨hA, -, hF⟩
                obtain ⟨ho, hn, hc, so, sc, ss, rfl, hS, -, -⟩ := hA (unhide HC).2.2.1
                have H1 := hide (And.intro hS hF)
                clear hA hS hF
                generalize ss.length = SN at *
                go_wp2_with fail
                refine (gsame_D (unhide H1).1 ((unhide HC).2.2.2.1.fr0 (unhide H1).2) (by have h1 := (unhide HC).2.2.2.2.2; have h2 := (unhide HM).2; omega)).mono ?_
                rintro e' w3 ⟨rfl, hF⟩
                rw [(unhide HC).2.2.2.2.1]
                have H2 := hide ((unhide H1).2.trans hF (fun _ _ h => h))
                clear hF
                go_wp2_with fail
                go_ret
                exact ⟨rfl, unhide H2⟩
              · rw [decide_eq_false hd, Bool.false_and]
                have HC := hide (And.intro hwd (And.intro hcl hd))
                clear hg_ hl hr hp hcx hn hps h1 h2 h3 hwd hq2 h4 h5 h2' h3' hlw hrw hpw hcl hTw hd
                generalize ps.length = PL at *
                go_enter Tryd.func56, Tryd.ntmps56
                go_wp2_with fail
                refine (may_yes wi _ (unhide HM).1 (unhide HM).2).mono ?_
                rintro e' w0 ⟨rfl, rfl⟩
                go_wp2_with fail
                refine (unhide HC).1.mono ?_
                rintro e' w1 ⟨rfl, rfl⟩
                go_wp2_with fail
                refine (unhide HC).2.1.mono ?_
                rintro e' w2 ⟨-, hB, hF⟩
                obtain ⟨ho, hn, hc, rfl⟩ := hB (unhide HC).2.2
                have H1 := hide hF
                clear hB hF
                go_wp2_with fail
                go_ret
                exact ⟨rfl, unhide H1⟩
          · have hB : chkP j leaf i n ps root = false := by
              rw [hce, wdq_false j [leaf, root] 1 (by simp) (by simpa using h5)]; rfl
            rw [hB]
            have q5 : ((root.length : Int) == j) = false := beq_false_of_ne h5
            have q4 : ((leaf.length : Int) == j) = true := by rw [h4]; simp
            clear hce
            clear hg_ hl hr hp hcx hn hps hB h1
            generalize leaf.length = LL at *
            generalize root.length = RL at *
            generalize ps.length = PL at *
            go_enter Tryd.func56, Tryd.ntmps56
            go_wp2_with fail
            refine (may_yes j _ (unhide HM).1 (unhide HM).2).mono ?_
            rintro e' w0 ⟨rfl, rfl⟩
            go_wp2_with fail
            go_ret
            exact ⟨rfl, Fr.refl _ _⟩
        · have hB : chkP j leaf i n ps root = false := by
            rw [hce, wdq_false j [leaf, root] 0 (by simp) (by simpa using h4)]; rfl
          rw [hB]
          have q4 : ((leaf.length : Int) == j) = false := beq_false_of_ne h4
          clear hce
          clear hg_ hl hr hp hcx hn hps hB h1
          generalize leaf.length = LL at *
          generalize root.length = RL at *
          generalize ps.length = PL at *
          go_enter Tryd.func56, Tryd.ntmps56
          go_wp2_with fail
          refine (may_yes j _ (unhide HM).1 (unhide HM).2).mono ?_
          rintro e' w0 ⟨rfl, rfl⟩
          go_wp2_with fail
          go_ret
          exact ⟨rfl, Fr.refl _ _⟩
end Go.Proofs.YtjokmlnghpnlbaaDoor

namespace Go.Proofs.YtjokmlnghpnlbaaDoor
open Go.RowKit

/-- May a secret be? -/
def okS (j K J V : Int) : Prop := (1 ≤ j ∧ j ≤ 32) ∧ (0 ≤ K ∧ K < 64) ∧ (0 ≤ J ∧ J < 8 * j) ∧ 0 ≤ V ∧ V < 2
instance (j K J V : Int) : Decidable (okS j K J V) := by unfold okS; infer_instance
def scF (j K J V : Int) (seed : List Nat) : List Nat := if okS j K J V then sm j (scm K.toNat J.toNat V.toNat seed) else []
theorem scF_lt (j K J V : Int) (seed : List Nat) : ∀ v ∈ scF j K J V seed, v < 256 := by
  unfold scF
  split
  · exact sm_lt _ _
  · intro v hv; cases hv
theorem scF_len (j K J V : Int) (seed : List Nat) : (scF j K J V seed).length ≤ 32 := by
  unfold scF
  split
  · rename_i h
    rw [sm_len h.1]; have := h.1; omega
  · exact Nat.zero_le _
/-- lamport.Secret. -/
theorem lsecret_any (j K J V : Int) (x : Value) (seed : List Nat) (w : World) (hg : GS w) (hx : Sl w x seed) (hs : seed.length ≤ 15000000) :
    Calls Tryd.prog 10 #[.int .i64 j, x, .int .i64 K, .int .i64 J, .int .i64 V] w fun e w' => ∃ yo yc, e = .returned (.slice yo (scF j K J V seed).length yc) ∧ OB w w' yo yc (scF j K J V seed) := by
  by_cases h : okS j K J V
  · have e : scF j K J V seed = sm j (scm K.toNat J.toNat V.toNat seed) := by rw [scF, if_pos h]
    obtain ⟨h1, h2, h3, h4⟩ := h
    obtain ⟨wi, rfl⟩ : ∃ n : Nat, j = (n : Int) := ⟨j.toNat, by omega⟩
    obtain ⟨k, rfl⟩ : ∃ n : Nat, K = (n : Int) := ⟨K.toNat, by omega⟩
    obtain ⟨b, rfl⟩ : ∃ n : Nat, J = (n : Int) := ⟨J.toNat, by omega⟩
    obtain ⟨v, rfl⟩ : ∃ n : Nat, V = (n : Int) := ⟨V.toNat, by omega⟩
    simp only [Int.toNat_natCast] at e
    have hl : (scF (wi : Int) k b v seed).length = wi := by rw [e, sm_len ⟨by omega, by omega⟩, Int.toNat_natCast]
    rw [hl]
    refine (lsecret_in wi k b v (by omega) (by omega) (by omega) (by omega) (by omega) x seed w hg hx (by omega)).mono ?_
    rintro e' w' ⟨yo, rfl, hO⟩
    exact ⟨yo, wi, rfl, by rw [e]; exact hO⟩
  · have e : scF j K J V seed = [] := by rw [scF, if_neg h]
    rw [e]
    refine (lsecret_no j K J V h x w).mono ?_
    rintro e' w' ⟨rfl, rfl⟩
    exact ⟨none, 0, rfl, own_nil _ _, Fr.refl _ _⟩
set_option maxRecDepth 100000 in
set_option maxHeartbeats 2000000 in
/-- The document's Secret, of what may not be. -/
theorem g5secret_no (j K J V : Int) (h : ¬ okS j K J V) (x : Value) (w : World) :
    Calls Tryd.prog 17 #[.int .i64 j, x, .int .i64 K, .int .i64 J, .int .i64 V] w fun e w' => e = .returned (.slice none 0 0) ∧ w' = w := by
  unfold okS at h
  by_cases h1 : 1 ≤ j ∧ j ≤ 32
  · have hmy := hide (may_yes j w h1.1 h1.2)
    by_cases a1 : K < 0
    · clear h
      go_enter Tryd.func17, Tryd.ntmps17
      go_wp2_with fail
      refine (unhide hmy).mono ?_
      rintro e w0 ⟨rfl, rfl⟩
      go_wp2_with fail
      go_ret
      exact ⟨rfl, rfl⟩
    · by_cases a2 : 63 < K
      · clear h
        go_enter Tryd.func17, Tryd.ntmps17
        go_wp2_with fail
        refine (unhide hmy).mono ?_
        rintro e w0 ⟨rfl, rfl⟩
        go_wp2_with fail
        go_ret
        exact ⟨rfl, rfl⟩
      · by_cases a3 : J < 0
        · clear h
          go_enter Tryd.func17, Tryd.ntmps17
          go_wp2_with fail
          refine (unhide hmy).mono ?_
          rintro e w0 ⟨rfl, rfl⟩
          go_wp2_with fail
          go_ret
          exact ⟨rfl, rfl⟩
        · have b1 := h1.1
          have b2 := h1.2
          by_cases a4 : 8 * j ≤ J
          · clear h h1
            go_enter Tryd.func17, Tryd.ntmps17
            go_wp2_with fail
            refine (unhide hmy).mono ?_
            rintro e w0 ⟨rfl, rfl⟩
            go_wp2_with fail
            go_ret
            exact ⟨rfl, rfl⟩
          · by_cases a5 : V < 0
            · clear h h1
              go_enter Tryd.func17, Tryd.ntmps17
              go_wp2_with fail
              refine (unhide hmy).mono ?_
              rintro e w0 ⟨rfl, rfl⟩
              go_wp2_with fail
              go_ret
              exact ⟨rfl, rfl⟩
            · have a6 : 1 < V := by omega
              clear h h1
              go_enter Tryd.func17, Tryd.ntmps17
              go_wp2_with fail
              refine (unhide hmy).mono ?_
              rintro e w0 ⟨rfl, rfl⟩
              go_wp2_with fail
              go_ret
              exact ⟨rfl, rfl⟩
  · have hmy := hide (may_no j w (by omega))
    clear h
    go_enter Tryd.func17, Tryd.ntmps17
    go_wp2_with fail
    refine (unhide hmy).mono ?_
    rintro e w0 ⟨rfl, rfl⟩
    go_wp2_with fail
    go_ret
    exact ⟨rfl, rfl⟩
/-- The document's Secret. -/
theorem g5secret_any (j K J V : Int) (x : Value) (seed : List Nat) (w : World) (hg : GR w) (hx : Sl w x seed) (hs : seed.length ≤ 15000000) :
    Calls Tryd.prog 17 #[.int .i64 j, x, .int .i64 K, .int .i64 J, .int .i64 V] w fun e w' => ∃ yo yc, e = .returned (.slice yo (scF j K J V seed).length yc) ∧ OB w w' yo yc (scF j K J V seed) := by
  by_cases h : okS j K J V
  · have e : scF j K J V seed = sm j (scm K.toNat J.toNat V.toNat seed) := by rw [scF, if_pos h]
    obtain ⟨h1, h2, h3, h4⟩ := h
    obtain ⟨wi, rfl⟩ : ∃ n : Nat, j = (n : Int) := ⟨j.toNat, by omega⟩
    obtain ⟨k, rfl⟩ : ∃ n : Nat, K = (n : Int) := ⟨K.toNat, by omega⟩
    obtain ⟨b, rfl⟩ : ∃ n : Nat, J = (n : Int) := ⟨J.toNat, by omega⟩
    obtain ⟨v, rfl⟩ : ∃ n : Nat, V = (n : Int) := ⟨V.toNat, by omega⟩
    simp only [Int.toNat_natCast] at e
    have hl : (scF (wi : Int) k b v seed).length = wi := by rw [e, sm_len ⟨by omega, by omega⟩, Int.toNat_natCast]
    rw [hl]
    refine (g5secret_in wi k b v (by omega) (by omega) (by omega) (by omega) (by omega) x seed w hg hx hs).mono ?_
    rintro e' w' ⟨yo, yc, rfl, hO⟩
    exact ⟨yo, yc, rfl, by rw [e]; exact hO⟩
  · have e : scF j K J V seed = [] := by rw [scF, if_neg h]
    rw [e]
    refine (g5secret_no j K J V h x w).mono ?_
    rintro e' w' ⟨rfl, rfl⟩
    exact ⟨none, 0, rfl, own_nil _ _, Fr.refl _ _⟩
end Go.Proofs.YtjokmlnghpnlbaaDoor

namespace Go.Proofs.YtjokmlnghpnlbaaDoor
open Go.RowKit

set_option maxRecDepth 100000 in
/-- The document's Lock. -/
theorem g5lock_in (wi : Nat) (hw1 : 1 ≤ wi) (hw32 : wi ≤ 32) (x : Value) (m : List Nat) (w : World) (hg : GR w) (hx : Sl w x m) (hm : m.length ≤ 16000000) :
    Calls Tryd.prog 54 #[.int .i64 wi, x] w fun e w' => ∃ yo yc, e = .returned (.slice yo wi yc) ∧ OB w w' yo yc (sm wi m) := by
  have h := gsum_T wi x m w hg hx.s hx.b hm
  have hl : (sm (wi : Int) m).length = wi := by rw [sm_len ⟨by omega, by omega⟩, Int.toNat_natCast]
  rw [hl] at h
  have HC := hide h
  clear h hx hg
  go_enter Tryd.func54, Tryd.ntmps54
  go_wp2_with fail
  refine (unhide HC).mono ?_
  rintro e w1 ⟨yo, yc, rfl, hO⟩
  have H1 := hide hO
  clear hO
  go_wp2_with fail
  go_ret
  exact ⟨yo, yc, rfl, unhide H1⟩
/-- Is a slice apart from an own one? -/
def Apt (lv ov : Value) : Prop := ∀ g o n c, lv = .slice (some ⟨g, o, none⟩) n c → ∀ g', ov.ownBlock = some g' → ¬ g = g'
/-- One byte more, beside bytes that lie apart. -/
theorem OB.app1A {w wr : World} {xo : Option Addr} {cp : Nat} {l : List Nat} (h : OB w wr xo cp l) (V : Nat) (hV : V < 256) (hb : l.length + 1 ≤ 140737488355328) (lv : Value) (L : List Nat) (hs : Sl wr lv L) (hL : 0 < L.length) (hap : Apt lv (.slice xo l.length cp)) :
    ∃ ao cp' w2, (Builtin.append_ #[24, 24] 24 #[.slice xo l.length cp, .slice (some ⟨wr.heap.size, 0, none⟩) 1 1]).run Tryd.prog (wr.alloc (.cells #[.int .u8 (V : Int)] 5)) = .ok (.slice ao (l ++ [V]).length cp') w2 ∧ OB w w2 ao cp' (l ++ [V]) ∧ Sl w2 lv L ∧ Apt lv (.slice ao (l ++ [V]).length cp') := by
  have hFa : Fr (fun _ => False) wr (wr.alloc (.cells #[.int .u8 (V : Int)] 5)) := (Fr.refl _ _).alloc _
  have h2 : OB w (wr.alloc (.cells #[.int .u8 (V : Int)] 5)) xo cp l := ⟨ownsRow_of_block h.own (fun g hg => Below.heap_alloc _ _ _ (h.own.lt g hg).2), h.fr.alloc _⟩
  obtain ⟨ao, cp', w2, hr, hown, hgrow, hat⟩ := run_app_sl (wr.alloc (.cells #[.int .u8 (V : Int)] 5)) 24 w.heap.size l.length _ _ _ [V] h2.own (lit_src wr [V] #[.int .u8 (V : Int)] 1 1 rfl (by simp [cellsOf, B, Nat.mod_eq_of_lt hV])) hb h2.fr.size
  have hF : Fr (fun k => (Value.slice xo l.length cp).ownBlock = some k) wr w2 := hFa.mono (fun _ _ h => h.elim) |>.grown hgrow (fun g hg => .inl hg)
  have hlt : ∀ g o n c, lv = .slice (some ⟨g, o, none⟩) n c → g < wr.heap.size := by
    rcases hs.lt with h0 | h0
    · rw [h0] at hL; simp at hL
    · exact h0
  have e : l.length + [V].length = (l ++ [V]).length := by rw [List.length_append]
  rw [e] at hr hown hat
  refine ⟨ao, cp', w2, hr, ⟨by rw [cellsOf_append]; exact hown, h2.fr.grown hgrow (fun g hg => .inr (h2.own.lt g hg).1)⟩, hs.frD hF (.inr (fun g o n c e hg => hap g o n c e g hg rfl)), fun g o n c e2 g' hg' e3 => ?_⟩
  rcases hat with h3 | h3
  · rw [h3] at hg'; exact hap g o n c e2 g' hg' e3
  · rw [h3] at hg'
    have h4 := hlt g o n c e2
    simp only [Option.some.injEq] at hg'
    simp at hg'
    omega
set_option maxRecDepth 100000 in
set_option maxHeartbeats 4000000 in
/-- The document's Entry. -/
theorem g5entry_in (wi K : Nat) (hw1 : 1 ≤ wi) (hw32 : wi ≤ 32) (hK : K < 64) (x : Value) (seed : List Nat) (w : World) (hg : GR w) (hx : Sl w x seed) (hs : seed.length ≤ 15000000) :
    Calls Tryd.prog 50 #[.int .i64 wi, x, .int .i64 K] w fun e w' => ∃ yo yc, e = .returned (.slice yo (16 * wi * wi) yc) ∧ OB w w' yo yc (eN wi seed K) := by
  obtain ⟨xo, xc, rfl⟩ := hx.form
  have hsec := fun J V w' (hf : Fr (fun _ => False) w w') (hJ : J < 8 * wi) (hV : V < 2) => g5secret_in wi K J V hw1 hw32 hK hJ hV _ seed w' (hg.fr0 hf) (hx.fr0 hf) hs
  have hlk := fun y m w' (hf : Fr (fun _ => False) w w') (h : Sl w' y m) (hm : m.length ≤ 16000000) => g5lock_in wi hw1 hw32 y m w' (hg.fr0 hf) h hm
  have hlen : ∀ J v, J < 8 * wi → v ≤ 2 → (entv (lk wi K seed) J v).length = (2 * J + v) * wi := fun J v _ h2 => entv_len _ wi J v h2 (fun J' V' _ _ => lk_len wi K hw1 hw32 seed J' V')
  have hlast : (ent (lk wi K seed) (8 * wi)).length = 16 * wi * wi := eN_len wi hw1 hw32 seed K
  have HC := hide (And.intro hsec (And.intro hlk (And.intro hlen hlast)))
  clear hsec hlk hlen hlast hx hg
  generalize seed.length = SN at *
  have hE8 : 8 * wi ≤ 256 := by omega
  unfold eN
  obtain ⟨R, hR⟩ : ∃ R, R = 16 * wi * wi := ⟨_, rfl⟩
  rw [← hR]
  have HR := hide hR
  clear hR
  generalize hE : 8 * wi = E at *
  go_enter Tryd.func50, Tryd.ntmps50
  go_wp2_with fail
  go_loopw [7, 8] (fun v iv wr => ∃ (k : Nat) (ao : Option Addr) (cp n : Nat), k ≤ E ∧ iv = .int .i64 (k : Nat) ∧ v = .slice ao n cp ∧ n = (ent (lk wi K seed) k).length ∧ OB w wr ao cp (ent (lk wi K seed) k)) (fun _ iv _ => E - (intOf iv).toNat)
  case atStart => exact ⟨0, none, 0, 0, Nat.zero_le _, rfl, rfl, rfl, ⟨own_nil _ _, Fr.refl _ _⟩⟩
  case round =>
    obtain ⟨k, ao, cp, n, hk, rfl, rfl, hn, hO⟩ := hrel
    by_cases hlt : k < E
    · have hlt' : (k : Int) < 8 * (wi : Int) := by omega
      have HO := hide (And.intro hn hO)
      clear hn hO
      go_wp2_with fail
      go_loopw [7, 9] (fun v iv wq => ∃ (u : Nat) (bo : Option Addr) (bc m : Nat), u ≤ 2 ∧ iv = .int .i64 (u : Nat) ∧ v = .slice bo m bc ∧ m = (entv (lk wi K seed) k u).length ∧ OB w wq bo bc (entv (lk wi K seed) k u)) (fun _ iv _ => 2 - (intOf iv).toNat)
      case atStart => exact ⟨0, _, _, _, by omega, rfl, rfl, by rw [entv_zero]; exact (unhide HO).1, by rw [entv_zero]; exact (unhide HO).2⟩
      case round =>
        obtain ⟨u, bo, bc, m, hu, rfl, rfl, hm, hP⟩ := hrel
        by_cases hu2 : u < 2
        · have hu' : (u : Int) < 2 := by omega
          have hsl : (sm (wi : Int) (scm K k u seed)).length = wi := by rw [sm_len ⟨by omega, by omega⟩, Int.toNat_natCast]
          have hse := (unhide HC).1 k u _ hP.fr (by omega) hu2
          have hslt := sm_lt (wi : Int) (scm K k u seed)
          have hfin : sm (wi : Int) (sm (wi : Int) (scm K k u seed)) = lk wi K seed k u := rfl
          generalize sm (wi : Int) (scm K k u seed) = SC at *
          have HP := hide (And.intro hm (And.intro hP (And.intro hse (And.intro hsl (And.intro hslt hfin)))))
          clear hm hP hse hsl hslt hfin
          go_wp2_with fail
          refine (unhide HP).2.2.1.mono ?_
          rintro e w1 ⟨so, sc, rfl, hO1⟩
          have H1 := hide (And.intro hO1 ((unhide HP).2.1.fr.trans hO1.fr (fun _ _ h => h)))
          clear hO1
          go_wp2_with fail
          refine ((unhide HC).2.1 _ _ _ (unhide H1).2 ((unhide HP).2.2.2.1 ▸ (unhide H1).1.sl (unhide HP).2.2.2.2.1) (by rw [(unhide HP).2.2.2.1]; omega)).mono ?_
          rintro e w2 ⟨lo, lc, rfl, hO2⟩
          rw [(unhide HP).2.2.2.2.2] at hO2
          have hll := lk_len wi K hw1 hw32 seed k u
          have hlb := lk_lt wi K seed k u
          have hent := entv_succ (lk wi K seed) k u hu2
          have hel := (unhide HC).2.2.1 k u (by omega) (by omega)
          have heb : (2 * k + u) * wi ≤ 514 * 32 := Nat.mul_le_mul (by omega) hw32
          generalize lk wi K seed k u = LK at *
          generalize entv (lk wi K seed) k u = EV at *
          have hB2 : OB w w2 bo bc EV := ((unhide HP).2.1.ow.fr0 ((unhide H1).1.fr.trans hO2.fr (fun _ _ h => h))).ob ((unhide H1).2.trans hO2.fr (fun _ _ h => h))
          have H2 := hide (And.intro hO2 (And.intro hB2 (And.intro hll (And.intro hlb (And.intro hent (And.intro hel heb))))))
          clear hO2 hB2 hll hlb hent hel heb
          go_wp2_with fail
          go_loopw [7, 11] (fun v iv wq => ∃ (i : Nat) (co : Option Addr) (cc p : Nat), i ≤ wi ∧ iv = .int .i64 (i : Nat) ∧ v = .slice co p cc ∧ p = (EV ++ LK.take i).length ∧ OB w wq co cc (EV ++ LK.take i) ∧ Sl wq (.slice lo wi lc) LK ∧ Apt (.slice lo wi lc) (.slice co (EV ++ LK.take i).length cc)) (fun _ iv _ => wi - (intOf iv).toNat)
          case atStart =>
            refine ⟨0, bo, bc, m, by omega, rfl, rfl, by simpa using (unhide HP).1, by simpa using (unhide H2).2.1, (unhide H2).2.2.1 ▸ (unhide H2).1.sl (unhide H2).2.2.2.1, fun g o n c e g' hg' e2 => ?_⟩
            have h1 := World.ownsRow.lt (unhide H2).1.own g (by cases e; rfl)
            have h2 := World.ownsRow.lt (unhide HP).2.1.own g' (by simpa using hg')
            have h3 := (unhide H1).1.fr.size
            omega
          case round =>
            obtain ⟨i, co, cc, p, hi, rfl, rfl, hp, hQ, hS, hap⟩ := hrel
            by_cases hi2 : i < wi
            · have hi' : (i : Int) < (wi : Int) := by omega
              have hll := (unhide H2).2.2.1
              obtain ⟨lg, lq, rfl, hcl⟩ := src_cell hS.s i (by omega) hS.b
              have hVb : LK.getD i 0 < 256 := by
                rw [List.getD_eq_getElem?_getD, List.getElem?_eq_getElem (by omega)]; exact hS.b _ (List.getElem_mem _)
              have hel := (unhide H2).2.2.2.2.2.1
              have heb := (unhide H2).2.2.2.2.2.2
              have htk : LK.take (i + 1) = LK.take i ++ [LK.getD i 0] := by
                rw [List.take_add_one, List.getD_eq_getElem?_getD, List.getElem?_eq_getElem (by omega)]; rfl
              obtain ⟨a2, c2, w3, hr3, hO3, hS3, hA3⟩ := hQ.app1A (LK.getD i 0) hVb (by rw [List.length_append, List.length_take]; omega) _ LK hS (by omega) hap
              rw [List.append_assoc, ← htk] at hr3 hO3 hA3
              rw [← hp] at hr3
              generalize LK.getD i 0 = V at *
              have HQ := hide (And.intro hr3 (And.intro hO3 (And.intro hS3 hA3)))
              clear hr3 hO3 hS3 hA3 hQ hS hap hp htk hel heb hll
              go_wp2_with (at_builtin; refine wpList_app rfl _ _ 24 24 rfl _ _ _ rfl rfl (unhide HQ).1 ?_)
              exact ⟨⟨i + 1, _, _, _, by omega, by go_num, rfl, by simp, (unhide HQ).2.1, (unhide HQ).2.2.1, (unhide HQ).2.2.2⟩, by simp [intOf]; omega⟩
            · have hi' : ¬ (i : Int) < (wi : Int) := by omega
              have htk : LK.take i = LK := List.take_of_length_le (by rw [(unhide H2).2.2.1]; omega)
              rw [htk, (unhide H2).2.2.2.2.1] at hp hQ
              have HQ := hide (And.intro hp hQ)
              clear hp hQ hS hap htk
              go_wp2_with fail
              exact ⟨⟨u + 1, _, _, _, by omega, by go_num, rfl, (unhide HQ).1, (unhide HQ).2⟩, by simp [intOf]; omega⟩
        · have hu' : ¬ (u : Int) < 2 := by omega
          have hu3 : u = 2 := by omega
          subst hu3
          rw [entv_two] at hm hP
          have HP := hide (And.intro hm hP)
          clear hm hP
          go_wp2_with fail
          exact ⟨⟨k + 1, _, _, _, by omega, by go_num, rfl, (unhide HP).1, (unhide HP).2⟩, by simp [intOf]; omega⟩
    · have hlt' : ¬ (k : Int) < 8 * (wi : Int) := by omega
      have hkE : k = E := by omega
      rw [hkE, (unhide HC).2.2.2, ← unhide HR] at hn
      rw [hkE] at hO
      subst hn
      have HO := hide hO
      clear hO hkE
      go_wp2_with fail
      go_ret
      exact ⟨_, _, rfl, unhide HO⟩
end Go.Proofs.YtjokmlnghpnlbaaDoor

namespace Go.Proofs.YtjokmlnghpnlbaaDoor
open Go.RowKit

theorem wrap_pow (H : Nat) (hH : H ≤ 6) : wrap64 (2 ^ H) = ((2 ^ H : Nat) : Int) := by
  match H, hH with
  | 0, _ | 1, _ | 2, _ | 3, _ | 4, _ | 5, _ | 6, _ => decide +kernel
set_option maxRecDepth 100000 in
set_option maxHeartbeats 4000000 in
/-- The document's Leaves. -/
theorem g5leaves_in (wi H : Nat) (hw1 : 1 ≤ wi) (hw32 : wi ≤ 32) (hH : H ≤ 6) (x : Value) (seed : List Nat) (w : World) (hg : GR w) (hx : Sl w x seed) (hs : seed.length ≤ 15000000) :
    Calls Tryd.prog 21 #[.int .i64 wi, .int .i64 H, x] w fun e w' => ∃ ao cp us, e = .returned (.slice ao (2 ^ H) cp) ∧ LV w w' ao cp us (lvs wi seed (2 ^ H)) := by
  obtain ⟨xo, xc, rfl⟩ := hx.form
  have hN64 : 2 ^ H ≤ 64 := Nat.pow_le_pow_right (n := 2) (by decide) hH
  have hps9 : 16 * wi * wi ≤ 16384 := Nat.mul_le_mul (show 16 * wi ≤ 512 by omega) hw32
  have hen := fun k w' (hf : Fr (fun _ => False) w w') (hk : k < 64) => g5entry_in wi k hw1 hw32 hk _ seed w' (hg.fr0 hf) (hx.fr0 hf) hs
  have hlf := fun k y w' (hf : Fr (fun _ => False) w w') (h : Sl w' y (eN wi seed k)) => gleaf_any wi y _ w' (hg.fr0 hf) h.s h.b (by rw [eN_len wi hw1 hw32]; omega)
  have hll : ∀ k, (lf (wi : Int) (eN wi seed k)).length = wi := fun k => lf_len5 wi hw1 hw32 _
  have hel : ∀ k, (eN wi seed k).length = 16 * wi * wi := fun k => eN_len wi hw1 hw32 seed k
  generalize 16 * wi * wi = PS at *
  have HC := hide (And.intro hen (And.intro hlf (And.intro hll hel)))
  clear hen hlf hll hx hg hel
  generalize seed.length = SN at *
  have hW := wrap_pow H hH
  generalize 2 ^ H = N at *
  go_enter Tryd.func21, Tryd.ntmps21
  go_wp2_with fail
  go_loopw [7, 8] (fun v iv wr => ∃ (k : Nat) (ao : Option Addr) (cp : Nat) (us : List Value), k ≤ N ∧ iv = .int .i64 (k : Nat) ∧ v = .slice ao k cp ∧ us.length = k ∧ LV w wr ao cp us (lvs wi seed k)) (fun _ iv _ => N - (intOf iv).toNat)
  case atStart => exact ⟨0, none, 0, [], Nat.zero_le _, rfl, rfl, rfl, LV.nil w⟩
  case round =>
    obtain ⟨k, ao, cp, us, hk, rfl, rfl, hus, hI⟩ := hrel
    by_cases hlt : k < N
    · have hlt' : (k : Int) < (N : Int) := by omega
      have HI := hide (And.intro hI hus)
      clear hI hus
      go_wp2_with fail
      refine ((unhide HC).1 k _ (unhide HI).1.own.fr (by omega)).mono ?_
      rintro e w1 ⟨eo, ec, rfl, hO1⟩
      have hs1 : Sl w1 (.slice eo PS ec) (eN wi seed k) := (unhide HC).2.2.2 k ▸ hO1.sl (eN_lt wi seed k)
      have H1 := hide (And.intro hs1 hO1.fr)
      clear hs1 hO1
      go_wp2_with fail
      refine ((unhide HC).2.1 k _ _ ((unhide HI).1.own.fr.trans (unhide H1).2 (fun _ _ h => h)) (unhide H1).1).mono ?_
      rintro e w2 ⟨yo, yc, rfl, hO2⟩
      obtain ⟨ao', cp', w3, hr3, hL3⟩ := (unhide HI).1.step (lf wi (eN wi seed k)) yo yc (hO2.base (unhide H1).2) (lf_lt _ _) (by rw [(unhide HI).2]; omega)
      rw [← lvs_succ] at hL3
      rw [(unhide HI).2] at hr3
      have HL := hide (And.intro hL3 hr3)
      clear hL3 hr3 hO2
      generalize lf (wi : Int) (eN wi seed k) = LF at *
      generalize LF.length = LN at *
      go_wp2_with (at_builtin; refine wpList_app rfl _ _ 40 40 rfl _ _ _ rfl rfl (unhide HL).2 ?_)
      exact ⟨⟨k + 1, ao', cp', _, by omega, by go_num, rfl, by rw [List.length_append, (unhide HI).2]; rfl, (unhide HL).1⟩, by simp [intOf]; omega⟩
    · have hlt' : ¬ (k : Int) < (N : Int) := by omega
      have hkN : k = N := by omega
      subst hkN
      have HI := hide hI
      clear hI hus
      go_wp2_with fail
      go_ret
      exact ⟨ao, cp, rfl, us, unhide HI⟩
end Go.Proofs.YtjokmlnghpnlbaaDoor

namespace Go.Proofs.YtjokmlnghpnlbaaDoor
open Go.RowKit

set_option maxRecDepth 100000 in
set_option maxHeartbeats 2000000 in
/-- The document's Bit. -/
theorem gbit2_in (ho : Option Addr) (wi hc9 J : Nat) (hw32 : wi ≤ 32) (hJ : J < 8 * wi) (h : List Nat) (w : World) (hB : Sl w (.slice ho wi hc9) h) (hl : h.length = wi) :
    Calls Tryd.prog 53 #[.slice ho wi hc9, .int .i64 J] w fun e w' => e = .returned (.int .i64 (bitv h J)) ∧ w' = w := by
  obtain ⟨A, r, hr, hJr, hA, hR⟩ : ∃ A r, r < 8 ∧ J = 8 * A + r ∧ J / 8 = A ∧ J % 8 = r := ⟨J / 8, J % 8, by omega, by omega, rfl, rfl⟩
  unfold bitv
  rw [hA, hR]
  have hAw : A < wi := by omega
  have hA9 : A ≤ 32 := by omega
  obtain ⟨g, o, rfl, hc⟩ := src_cell hB.s A (by omega) hB.b
  have hlt : h.getD A 0 < 256 := by
    rw [List.getD_eq_getElem?_getD, List.getElem?_eq_getElem (by omega)]; exact hB.b _ (List.getElem_mem _)
  generalize h.getD A 0 = B at *
  have q2 : (A : Int) < (wi : Int) := by omega
  have hJ9 : J < 256 := by omega
  have hbt := hide (gbit_tab r hr B hlt)
  clear hB hJ hJr
  go_enter Tryd.func53, Tryd.ntmps53
  go_wp2_with fail
  go_ret
  rw [unhide hbt]
  exact ⟨rfl, rfl⟩
set_option maxRecDepth 100000 in
set_option maxHeartbeats 4000000 in
/-- The document's With. -/
theorem g5with_in (wi K : Nat) (hw1 : 1 ≤ wi) (hw32 : wi ≤ 32) (hK : K < 64) (x mv pv : Value) (seed m : List Nat) (vs : List Value) (ps : List (List Nat)) (w : World) (hg : GR w) (hx : Sl w x seed) (hs : seed.length ≤ 15000000) (hm : Sl w mv m) (hml : m.length ≤ 16000000) (hp : Pcs w pv vs ps) (hpw : ∀ p ∈ ps, p.length = wi) (hpl : ps.length ≤ 64) :
    Calls Tryd.prog 23 #[.int .i64 wi, x, .int .i64 K, mv, pv] w fun e w' => ∃ yo n yc, e = .returned (.slice yo n yc) ∧ n = (sgn wi K seed (sm wi m) (8 * wi) ++ ps.flatten).length ∧ OB w w' yo yc (sgn wi K seed (sm wi m) (8 * wi) ++ ps.flatten) := by
  obtain ⟨xo, xc, rfl⟩ := hx.form
  obtain ⟨mo, mc, rfl⟩ := hm.form
  obtain ⟨po, pc, rfl⟩ := hp.form
  have hsec := fun J V w' (hf : Fr (fun _ => False) w w') (hJ : J < 8 * wi) (hV : V < 2) => g5secret_in wi K J V hw1 hw32 hK hJ hV _ seed w' (hg.fr0 hf) (hx.fr0 hf) hs
  have hlk := fun y m w' (hf : Fr (fun _ => False) w w') (h : Sl w' y m) (hm : m.length ≤ 16000000) => g5lock_in wi hw1 hw32 y m w' (hg.fr0 hf) h hm
  have hsum := gsum_T wi _ m w hg hm.s hm.b hml
  have hsl : (sm (wi : Int) m).length = wi := by rw [sm_len ⟨by omega, by omega⟩, Int.toNat_natCast]
  have hsb := sm_lt (wi : Int) m
  rw [hsl] at hsum
  have hbit := fun (ho : Option Addr) (hc J : Nat) (w' : World) (hJ : J < 8 * wi) (h : Sl w' (.slice ho wi hc) (sm wi m)) => gbit2_in ho wi hc J hw32 hJ _ w' h hsl
  have hps9 : 16 * wi * wi ≤ 16384 := Nat.mul_le_mul (show 16 * wi ≤ 512 by omega) hw32
  have hmul : 16 * (wi : Int) * (wi : Int) = ((16 * wi * wi : Nat) : Int) := by simp
  generalize hPS : 16 * wi * wi = PS at *
  generalize hHS : sm (wi : Int) m = HS at *
  have HC := hide (And.intro hsec (And.intro hlk (And.intro hsum (And.intro hbit (And.intro hp (And.intro hpw hpl))))))
  have HB := hide (And.intro hsl hsb)
  clear hsec hlk hsum hbit hp hpw hpl hx hm hg hsl hsb
  generalize seed.length = SN at *
  generalize m.length = ML at *
  generalize hPL : ps.length = PL at *
  go_enter Tryd.func23, Tryd.ntmps23
  go_wp2_with fail
  refine (unhide HC).2.2.1.mono ?_
  rintro e w1 ⟨ho, hc, rfl, hO1⟩
  obtain ⟨wE, hrE, hoE, hFE⟩ := make0 PS w1 (by omega)
  have hS1 : Sl w1 (.slice ho wi hc) HS := (unhide HB).1 ▸ hO1.sl (unhide HB).2
  have hOE : OB w1 wE (some ⟨w1.heap.size, 0, none⟩) PS [] := ⟨hoE, hFE⟩
  have H1 := hide (And.intro hS1 (And.intro hOE (hO1.fr.trans hFE (fun _ _ h => h))))
  have HF1 := hide hO1.fr
  clear hS1 hOE hoE hFE hO1
  go_wp2_with fail
  generalize hE : 8 * wi = E at *
  go_loopw [12, 13] (fun v iv wr => ∃ (k : Nat) (zo : Option Addr) (zc n : Nat), k ≤ E ∧ iv = .int .i64 (k : Nat) ∧ v = .slice zo n zc ∧ n = (sgn wi K seed HS k).length ∧ OB w1 wr zo zc (sgn wi K seed HS k)) (fun _ iv _ => E - (intOf iv).toNat)
  case atStart => exact ⟨0, _, _, 0, Nat.zero_le _, rfl, rfl, rfl, (unhide H1).2.1⟩
  case round =>
    obtain ⟨k, zo, zc, n, hk, rfl, rfl, hn, hI⟩ := hrel
    by_cases hlt : k < E
    · have hlt' : (k : Int) < 8 * (wi : Int) := by omega
      have hF : Fr (fun _ => False) w wr := (unhide HF1).trans hI.fr (fun _ _ h => h)
      have hval := (unhide HC).2.2.2.1 ho hc k wr (by omega) ((unhide H1).1.fr0 hI.fr)
      have hbv := bitv_lt HS k
      have hsg : sgn wi K seed HS (k + 1) = sgn wi K seed HS k ++ sm wi (scm K k (bitv HS k) seed) ++ lk wi K seed k (1 - bitv HS k) := rfl
      have e1 : (1 : Int) - ((bitv HS k : Nat) : Int) = ((1 - bitv HS k : Nat) : Int) := by omega
      have hsec1 := fun w' (hf : Fr (fun _ => False) w w') => (unhide HC).1 k (bitv HS k) w' hf (by omega) hbv
      have hsec2 := fun w' (hf : Fr (fun _ => False) w w') => (unhide HC).1 k (1 - bitv HS k) w' hf (by omega) (by omega)
      generalize bitv HS k = V at *
      have hb3 : 2 * k * wi ≤ 512 * 32 := Nat.mul_le_mul (by omega) hw32
      have hll := sgn_len wi K hw1 hw32 seed HS k
      have hsl0 : (sm (wi : Int) (scm K k V seed)).length = wi := by rw [sm_len ⟨by omega, by omega⟩, Int.toNat_natCast]
      have hsl1 : (sm (wi : Int) (scm K k (1 - V) seed)).length = wi := by rw [sm_len ⟨by omega, by omega⟩, Int.toNat_natCast]
      have hlk0 := lk_len wi K hw1 hw32 seed k (1 - V)
      have hfin : sm (wi : Int) (sm (wi : Int) (scm K k (1 - V) seed)) = lk wi K seed k (1 - V) := rfl
      have hslt := sm_lt (wi : Int) (scm K k (1 - V) seed)
      generalize sgn wi K seed HS k = S0 at *
      generalize sm (wi : Int) (scm K k V seed) = S1 at *
      generalize sm (wi : Int) (scm K k (1 - V) seed) = S2 at *
      generalize lk wi K seed k (1 - V) = S3 at *
      have HQ := hide (And.intro hval (And.intro hsec1 (And.intro hsec2 (And.intro hsg (And.intro hn (And.intro hI hF))))))
      have HL := hide (And.intro hb3 (And.intro hll (And.intro hsl0 (And.intro hsl1 (And.intro hlk0 (And.intro hfin hslt))))))
      clear hval hsec1 hsec2 hsg hn hI hF hb3 hll hsl0 hsl1 hlk0 hfin hslt
      go_wp2_with fail
      refine (unhide HQ).1.mono ?_
      rintro e w2 ⟨rfl, rfl⟩
      go_wp2_with fail
      refine ((unhide HQ).2.1 _ (unhide HQ).2.2.2.2.2.2).mono ?_
      rintro e w3 ⟨so, sc, rfl, hO3⟩
      have oZ : OB w1 w3 zo zc S0 := ((unhide HQ).2.2.2.2.2.1.ow.fr0 hO3.fr).ob ((unhide HQ).2.2.2.2.2.1.fr.trans hO3.fr (fun _ _ h => h))
      obtain ⟨a2, c2, w4, hr4, oT⟩ := oZ.app _ S1 hO3.src (by have := (unhide HL).1; have := (unhide HL).2.1; have := (unhide HL).2.2.1; omega)
      obtain ⟨n2, hn2⟩ : ∃ n2, (S0 ++ S1).length = n2 := ⟨_, rfl⟩
      rw [(unhide HL).2.2.1, ← (unhide HQ).2.2.2.2.1, hn2] at hr4
      have HN2 := hide hn2
      clear hn2
      have H4 := hide (And.intro hr4 (And.intro oT ((unhide HF1).trans oT.fr (fun _ _ h => h))))
      clear hr4 oT oZ hO3
      go_wp2_with (at_builtin; refine wpList_app rfl _ _ 24 24 rfl _ _ _ rfl rfl (unhide H4).1 ?_)
      refine ((unhide HQ).2.2.1 _ (unhide H4).2.2).mono ?_
      rintro e w5 ⟨so5, sc5, rfl, hO5⟩
      have hs5 : Sl w5 (.slice so5 wi sc5) S2 := (unhide HL).2.2.2.1 ▸ hO5.sl (unhide HL).2.2.2.2.2.2
      have H5 := hide (And.intro hs5 (And.intro hO5.fr ((unhide H4).2.2.trans hO5.fr (fun _ _ h => h))))
      clear hs5 hO5
      go_wp2_with fail
      refine ((unhide HC).2.1 _ _ _ (unhide H5).2.2 (unhide H5).1 (by rw [(unhide HL).2.2.2.1]; omega)).mono ?_
      rintro e w6 ⟨lo, lc, rfl, hO6⟩
      rw [(unhide HL).2.2.2.2.2.1] at hO6
      have oZ2 : OB w1 w6 a2 c2 (S0 ++ S1) := ((unhide H4).2.1.ow.fr0 ((unhide H5).2.1.trans hO6.fr (fun _ _ h => h))).ob ((unhide H4).2.1.fr.trans ((unhide H5).2.1.trans hO6.fr (fun _ _ h => h)) (fun _ _ h => h))
      obtain ⟨a7, c7, w7, hr7, oV⟩ := oZ2.app _ S3 hO6.src (by have := (unhide HL).1; have := (unhide HL).2.1; have := (unhide HL).2.2.1; have := (unhide HL).2.2.2.2.1; rw [List.length_append]; omega)
      obtain ⟨n3, hn3⟩ : ∃ n3, (S0 ++ S1 ++ S3).length = n3 := ⟨_, rfl⟩
      rw [(unhide HL).2.2.2.2.1, unhide HN2, hn3] at hr7
      have HN3 := hide hn3
      clear hn3
      have H7 := hide (And.intro hr7 oV)
      clear hr7 oV oZ2 hO6
      go_wp2_with (at_builtin; refine wpList_app rfl _ _ 24 24 rfl _ _ _ rfl rfl (unhide H7).1 ?_)
      exact ⟨⟨k + 1, _, _, _, by omega, by go_num, rfl, by rw [(unhide HQ).2.2.2.1]; exact (unhide HN3).symm, by rw [(unhide HQ).2.2.2.1]; exact (unhide H7).2⟩, by simp [intOf]; omega⟩
    · have hlt' : ¬ (k : Int) < 8 * (wi : Int) := by omega
      have hkE : k = E := by omega
      subst hkE
      have hgl := sgn_len wi K hw1 hw32 seed HS k
      have hb3 : 2 * k * wi ≤ 512 * 32 := Nat.mul_le_mul (by omega) hw32
      generalize hSG : sgn wi K seed HS k = S0 at *
      have hPc := (unhide HC).2.2.2.2.1
      have hfb : ∀ j, j ≤ PL → (fl ps j).length ≤ 32 * j := fun j => by
        induction j with
        | zero => intro _; simp [fl]
        | succ j ih =>
          intro hj
          have h1 := ih (by omega)
          have h2 := (unhide HC).2.2.2.2.2.1 (ps[j]'(by omega)) (List.getElem_mem _)
          rw [fl_succ ps j (by omega), List.length_append]
          omega
      have HQ := hide (And.intro hn (And.intro hI (And.intro hPc (And.intro hgl (And.intro hb3 hfb)))))
      clear hn hI hPc hgl hb3 hfb
      have HSG := hide (And.intro hSG hE)
      clear hSG
      go_wp2_with fail
      go_loopw [12, 15] (fun v iv wq => ∃ (j : Nat) (qo : Option Addr) (qc n' : Nat), j ≤ PL ∧ iv = .int .i64 (j : Nat) ∧ v = .slice qo n' qc ∧ n' = (S0 ++ fl ps j).length ∧ OB w1 wq qo qc (S0 ++ fl ps j)) (fun _ iv _ => PL - (intOf iv).toNat)
      case atStart => exact ⟨0, _, _, _, Nat.zero_le _, rfl, rfl, by simp [fl, (unhide HQ).1], by simpa [fl] using (unhide HQ).2.1⟩
      case round =>
        obtain ⟨j, qo, qc, n', hj, rfl, rfl, hn', hO⟩ := hrel
        have hPL2 := (unhide HC).2.2.2.2.2.2
        by_cases hjl : j < PL
        · have hjl' : (j : Int) < (PL : Int) := by omega
          have hkp : j < ps.length := by omega
          obtain ⟨g, o, v, rfl, hcell, hsrc, hcap, _, _⟩ := (unhide HQ).2.2.1.cell ((unhide HF1).trans hO.fr (fun _ _ h => h)) j hkp
          obtain ⟨vo, vc, rfl⟩ := hsrc.form
          have hb1 := (unhide HC).2.2.2.2.2.1 ps[j] (List.getElem_mem hkp)
          have hb2 := (unhide HQ).2.2.2.2.2 j hj
          have hb4 := (unhide HQ).2.2.2.1
          have hb5 := (unhide HQ).2.2.2.2.1
          obtain ⟨a2, c2, w2, hr2, hO2⟩ := hO.app _ ps[j] hsrc (by rw [List.length_append]; omega)
          rw [← hn'] at hr2
          have e2 : (S0 ++ fl ps j) ++ ps[j] = S0 ++ fl ps (j + 1) := by rw [fl_succ ps j hkp, List.append_assoc]
          rw [e2] at hr2 hO2
          have HR2 := hide (And.intro hr2 hO2)
          clear hr2 hO2 e2 hO hsrc hcap hn' hb1 hb2 hb4 hb5
          go_wp2_with (at_builtin; refine wpList_app rfl _ _ 24 24 rfl _ _ _ rfl rfl (unhide HR2).1 ?_)
          exact ⟨⟨j + 1, _, _, _, by omega, by go_num, rfl, by simp, (unhide HR2).2⟩, by simp [intOf]; omega⟩
        · have hjl' : ¬ (j : Int) < (PL : Int) := by omega
          have hjV : j = PL := by omega
          have e : fl ps j = ps.flatten := by rw [hjV, ← hPL, fl_all]
          rw [e] at hO hn'
          have HO2 := hide (And.intro hn' (hO.base (unhide HF1)))
          clear hO hn' e hjV
          go_wp2_with fail
          go_ret
          rw [(unhide HSG).1]
          exact ⟨qo, n', qc, rfl, by simpa using (unhide HO2).1, (unhide HO2).2⟩
end Go.Proofs.YtjokmlnghpnlbaaDoor

namespace Go.Proofs.YtjokmlnghpnlbaaDoor
open Go.RowKit

theorem take_sub (s : List Nat) (n a k : Nat) (h : a + k ≤ n) : ((s.take n).drop a).take k = (s.drop a).take k := by
  rw [List.drop_take, List.take_take]
  congr 1
  omega
theorem small64 (N : Nat) (h : N ≤ 64) : (N : Int) < 9223372036854775808 := by omega
/-- Bytes more, beside bytes that lie apart. -/
theorem OB.appA {w wr : World} {xo : Option Addr} {cp : Nat} {l : List Nat} (h : OB w wr xo cp l) (x : Value) (c : List Nat) (hx : Src wr x c) (hb : l.length + c.length ≤ 140737488355328) (lv : Value) (L : List Nat) (hs : Sl wr lv L) (hap : Apt lv (.slice xo l.length cp)) :
    ∃ ao cp' w2, (Builtin.append_ #[24, 24] 24 #[.slice xo l.length cp, x]).run Tryd.prog wr = .ok (.slice ao (l ++ c).length cp') w2 ∧ OB w w2 ao cp' (l ++ c) ∧ Sl w2 lv L := by
  obtain ⟨ao, cp', w2, hr, hown, hgrow, _⟩ := run_app_sl wr 24 w.heap.size l.length _ x _ c h.own hx hb h.fr.size
  rw [← List.length_append] at hr hown
  have hF : Fr (fun k => (Value.slice xo l.length cp).ownBlock = some k) wr w2 := (Fr.refl _ _).grown hgrow (fun g hg => .inl hg)
  exact ⟨ao, cp', w2, hr, ⟨by rw [cellsOf_append]; exact hown, h.fr.grown hgrow (fun g hg => .inr (h.own.lt g hg).1)⟩, hs.frD hF (.inr (fun g o n c e hg => hap g o n c e g hg rfl))⟩
set_option maxRecDepth 100000 in
set_option maxHeartbeats 400000 in
/-- The document's Check, of what may be. -/
theorem g5check_in (wi H K : Nat) (hw1 : 1 ≤ wi) (hw32 : wi ≤ 32) (hH : H ≤ 6) (hK : K < 2 ^ H) (pv mv sv : Value) (pub m s : List Nat) (w : World) (hg : GR w) (hp : Sl w pv pub) (hm : Sl w mv m) (hs : Sl w sv s) (hpl : pub.length = wi) (hml : m.length ≤ 16000000) (hsl : s.length = 16 * wi * wi + H * wi) :
    Calls Tryd.prog 25 #[.int .i64 wi, .int .i64 H, pv, .int .i64 K, mv, sv] w fun e w' => e = .returned (.bool (chk5 wi H pub K m s)) ∧ Fr (fun _ => False) w w' := by
  obtain ⟨po, pc, rfl⟩ := hp.form
  obtain ⟨so, sc, rfl⟩ := hs.form
  obtain ⟨mo, mc, rfl⟩ := hm.form
  have hps1 : 1 ≤ 16 * wi * wi := by
    have : 1 * 1 ≤ 16 * wi * wi := Nat.mul_le_mul (by omega) hw1
    exact this
  have hps9 : 16 * wi * wi ≤ 16384 := Nat.mul_le_mul (show 16 * wi ≤ 512 by omega) hw32
  have hhw9 : H * wi ≤ 192 := Nat.mul_le_mul hH hw32
  have hN64 : 2 ^ H ≤ 64 := Nat.pow_le_pow_right (n := 2) (by decide) hH
  obtain ⟨g, o, rfl, _⟩ := src_cell hs.s 0 (by omega) hs.b
  have hsc : s.length ≤ sc := hs.cap _ _ _ rfl
  have hmay := fun w' => g5may_any wi H w'
  rw [decide_eq_true (by omega)] at hmay
  have hsz := fun w' => g5size_any wi H w'
  rw [szF_nat wi H hw1 hw32 hH] at hsz
  have hsum := gsum_T wi _ m w hg hm.s hm.b hml
  have hhl : (sm (wi : Int) m).length = wi := by rw [sm_len ⟨by omega, by omega⟩, Int.toNat_natCast]
  have hhb := sm_lt (wi : Int) m
  rw [hhl] at hsum
  have hbit := fun (ho : Option Addr) (hc J : Nat) (w' : World) (hJ : J < 8 * wi) (h : Sl w' (.slice ho wi hc) (sm wi m)) => gbit2_in ho wi hc J hw32 hJ _ w' h hhl
  have hlk := fun y m w' (hf : Fr (fun _ => False) w w') (h : Sl w' y m) (hm : m.length ≤ 16000000) => g5lock_in wi hw1 hw32 y m w' (hg.fr0 hf) h hm
  have hmul : 16 * (wi : Int) * (wi : Int) = ((16 * wi * wi : Nat) : Int) := by simp
  have hW := wrap_pow H hH
  have hNi : ((2 ^ H : Nat) : Int) < 9223372036854775808 := small64 _ hN64
  have hpt : (s.take (16 * wi * wi)).length = 16 * wi * wi := by rw [List.length_take]; omega
  have hcp := fun lv x leaf vs w' (hf : Fr (fun _ => False) w w') (h1 : Sl w' lv leaf) (h2 : Pcs w' x vs (cuts wi (s.drop (16 * wi * wi)) H)) (h3 : Cp x) => gcheckPath_any wi K ((2 ^ H : Nat) : Int) lv _ x leaf pub vs _ w' (hg.fr0 hf) h1 (hp.fr0 hf) h2 h3 hNi (by simp [cuts]; omega)
  have hlf := fun y w' l (hf : Fr (fun _ => False) w w') (h : Sl w' y l) (hl : l.length ≤ 4000000) => gleaf_any wi y l w' (hg.fr0 hf) h.s h.b hl
  have hsub := fun a k (h : a + k ≤ 16 * wi * wi + H * wi) => hs.sub a k (by omega)
  have hres : chk5 wi H pub K m s = chkP wi (lf wi (ent (lt5 wi (sm wi m) (s.take (16 * wi * wi))) (8 * wi))) K ((2 ^ H : Nat) : Int) (cuts wi (s.drop (16 * wi * wi)) H) pub := rfl
  rw [hres]
  have hent : ∀ k, k ≤ 8 * wi → (ent (lt5 wi (sm wi m) (s.take (16 * wi * wi))) k).length = 2 * k * wi := fun k hk => ent_len _ wi k (fun J V h1 _ => lt5_len wi hw1 hw32 _ _ J V (by omega) hpt)
  have hlt5 : ∀ J V, J < 8 * wi → lt5 wi (sm wi m) (s.take (16 * wi * wi)) J V = if V = bitv (sm wi m) J then sm wi ((s.drop (2 * J * wi)).take wi) else (s.drop (2 * J * wi + wi)).take wi := fun J V hJ => by
    have : (2 * J + 2) * wi ≤ 16 * wi * wi := Nat.mul_le_mul_right wi (by omega)
    rw [Nat.add_mul] at this
    rw [lt5, take_sub _ _ _ _ (by omega), take_sub _ _ _ _ (by omega)]
  have hsub2 : ∀ J, J < 8 * wi → 2 * J * wi + 2 * wi ≤ 16 * wi * wi := fun J hJ => by
    have : (2 * J + 2) * wi ≤ 16 * wi * wi := Nat.mul_le_mul_right wi (by omega)
    rw [Nat.add_mul] at this
    exact this
  have hsb := hs.b
  have HFB := hide (fun n => ent_lt _ (lt5_lt wi (sm wi m) (s.take (16 * wi * wi)) (fun v hv => hs.b v (List.mem_of_mem_take hv))) n)
  have HHW := hide (fun (j : Nat) (hj : j ≤ H) => Nat.mul_le_mul_right wi hj)
  generalize hPS : 16 * wi * wi = PS at *
  generalize hHW : H * wi = HWI at *
  generalize hN : 2 ^ H = N at *
  generalize hHS : sm (wi : Int) m = HS at *
  generalize hF5 : lt5 wi HS (s.take PS) = F at *
  subst hpl
  have HC := hide (And.intro hmay (And.intro hsz (And.intro hsum (And.intro hbit (And.intro hlk (And.intro hcp hlf))))))
  clear hNi
  have HD := hide (And.intro hhl (And.intro hhb (And.intro hsub (And.intro hent (And.intro hlt5 (And.intro hsub2 (And.intro hs hsb)))))))
  clear hmay hsz hsum hbit hlk hcp hlf hhl hhb hsub hent hlt5 hsub2 hp hm hs hg hpt hsb hres hF5 hHS hHW hN
  generalize hSN : s.length = SN at *
  generalize m.length = ML at *
  generalize pub.length = wi at *
  subst hsl
  go_enter Tryd.func25, Tryd.ntmps25
  go_wp2_with fail
  refine ((unhide HC).1 _).mono ?_
  rintro e w1 ⟨rfl, rfl⟩
  go_wp2_with fail
  refine ((unhide HC).2.1 _).mono ?_
  rintro e w2 ⟨rfl, rfl⟩
  go_wp2_with fail
  refine (unhide HC).2.2.1.mono ?_
  rintro e w3 ⟨ho, hc, rfl, hO3⟩
  obtain ⟨wE, hrE, hoE, hFE⟩ := make0 PS w3 (by omega)
  have hS3 : Sl w3 (.slice ho wi hc) HS := (unhide HD).1 ▸ hO3.sl (unhide HD).2.1
  have H3 := hide (And.intro hS3 (And.intro (⟨hoE, hFE⟩ : OB w3 wE (some ⟨w3.heap.size, 0, none⟩) PS []) hO3.fr))
  clear hS3 hoE hFE hO3
  go_wp2_with fail
  generalize hE : 8 * wi = E at *
  go_loopw [14, 15] (fun v iv wr => ∃ (k : Nat) (zo : Option Addr) (zc n : Nat), k ≤ E ∧ iv = .int .i64 (k : Nat) ∧ v = .slice zo n zc ∧ n = (ent F k).length ∧ OB w3 wr zo zc (ent F k)) (fun _ iv _ => E - (intOf iv).toNat)
  case atStart => exact ⟨0, _, _, 0, Nat.zero_le _, rfl, rfl, rfl, (unhide H3).2.1⟩
  case round =>
    obtain ⟨k, zo, zc, n, hk, rfl, rfl, hn, hI⟩ := hrel
    by_cases hlt : k < E
    · have hlt' : (k : Int) < 8 * (wi : Int) := by omega
      have hF : Fr (fun _ => False) w2 wr := (unhide H3).2.2.trans hI.fr (fun _ _ h => h)
      have hb2 := (unhide HD).2.2.2.2.2.1 k hlt
      have hs1 := (unhide HD).2.2.1 (2 * k * wi) wi (by omega)
      have hs2 := (unhide HD).2.2.1 (2 * k * wi + wi) wi (by omega)
      have hm1 : 2 * (k : Int) * (wi : Int) = ((2 * k * wi : Nat) : Int) := by simp
      generalize hP : 2 * k * wi = P at *
      have hp9 : P ≤ 16384 := by omega
      have q0 : (0 : Int) ≤ (P : Int) := by omega
      have q1 : (P : Int) ≤ (P : Int) + (wi : Int) := by omega
      have q2 : (P : Int) + (wi : Int) ≤ (sc : Int) := by omega
      have q3 : (P : Int) + (wi : Int) ≤ (P : Int) + 2 * (wi : Int) := by omega
      have q4 : (P : Int) + 2 * (wi : Int) ≤ (sc : Int) := by omega
      have e3 : P + 2 * wi - (P + wi) = wi := by omega
      have hll : (sm (wi : Int) ((s.drop P).take wi)).length = wi := by rw [sm_len ⟨by omega, by omega⟩, Int.toNat_natCast]
      have hol : ((s.drop (P + wi)).take wi).length = wi := by rw [List.length_take, List.length_drop]; omega
      have hf0 := (unhide HD).2.2.2.2.1 k 0 hlt
      have hf1 := (unhide HD).2.2.2.2.1 k 1 hlt
      rw [hP] at hf0 hf1
      have hl1 : ((s.drop P).take wi).length ≤ 16000000 := by rw [List.length_take]; omega
      have hen : ent F (k + 1) = ent F k ++ F k 0 ++ F k 1 := rfl
      have hel := (unhide HD).2.2.2.1 k hk
      rw [hP] at hel
      have hbv := bitv_lt HS k
      have hval := (unhide HC).2.2.2.1 ho hc k
      have hlo1 := fun w' (hf : Fr (fun _ => False) w2 w') => (unhide HC).2.2.2.2.1 _ _ w' hf (hs1.fr0 hf) hl1
      have HLB := hide (sm_lt (wi : Int) ((s.drop P).take wi))
      generalize sm (wi : Int) ((s.drop P).take wi) = LK at *
      generalize (s.drop (P + wi)).take wi = OT at *
      generalize bitv HS k = V at *
      have HQ := hide (And.intro hn (And.intro hI (And.intro hF (And.intro hs2 (And.intro hll (And.intro hol (And.intro hf0 (And.intro hf1 (And.intro hen hel)))))))))
      have HV := hide (And.intro hval hlo1)
      clear hn hI hF hs1 hs2 hll hol hf0 hf1 hen hel hl1 hval hlo1
      go_wp2_with fail
      refine ((unhide HV).2 _ (unhide HQ).2.2.1).mono ?_
      rintro e w4 ⟨lo, lc, rfl, hO4⟩
      have H4 := hide (And.intro hO4 ((unhide HQ).2.1.fr.trans hO4.fr (fun _ _ h => h)))
      clear hO4
      go_wp2_with fail
      refine ((unhide HV).1 _ (by omega) ((unhide H3).1.fr0 (unhide H4).2)).mono ?_
      rintro e w5 ⟨rfl, rfl⟩
      have oZ : OB w3 w5 zo zc (ent F k) := ((unhide HQ).2.1.ow.fr0 (unhide H4).1.fr).ob (unhide H4).2
      have hLs : Sl w5 (.slice lo wi lc) LK := (unhide HQ).2.2.2.2.1 ▸ (unhide H4).1.sl (unhide HLB)
      have hap : Apt (.slice lo wi lc) (.slice zo (ent F k).length zc) := fun g o n c e g' hg' e2 => by
        have h1 := World.ownsRow.lt (unhide H4).1.own g (by cases e; rfl)
        have h2 := World.ownsRow.lt (unhide HQ).2.1.own g' hg'
        omega
      have hf5 : Fr (fun _ => False) w2 w5 := (unhide H3).2.2.trans (unhide H4).2 (fun _ _ h => h)
      have hOs := (unhide HQ).2.2.2.1.fr0 hf5
      have H5 := hide (And.intro oZ (And.intro hLs (And.intro hap hOs)))
      clear oZ hLs hap hf5 hOs
      rcases (by omega : V = 0 ∨ V = 1) with rfl | rfl
      · have hF9 : ent F (k + 1) = ent F k ++ LK ++ OT := by
          rw [(unhide HQ).2.2.2.2.2.2.2.2.1, (unhide HQ).2.2.2.2.2.2.1, (unhide HQ).2.2.2.2.2.2.2.1]; rfl
        obtain ⟨n1, hn1⟩ : ∃ n1, (ent F k ++ LK).length = n1 := ⟨_, rfl⟩
        obtain ⟨n2, hn2⟩ : ∃ n2, (ent F k ++ LK ++ OT).length = n2 := ⟨_, rfl⟩
        have hle := (unhide HQ).2.2.2.2.2.2.2.2.2
        have hLK := (unhide HQ).2.2.2.2.1
        have hOT := (unhide HQ).2.2.2.2.2.1
        obtain ⟨a6, c6, w6, hr6, oT⟩ := (unhide H5).1.app _ LK (unhide H5).2.1.s (by omega)
        rw [← (unhide HQ).1, hn1] at hr6
        obtain ⟨a7, c7, w7, hr7, oV⟩ := oT.app _ OT ((unhide HQ).2.2.2.1.fr0 ((unhide H3).2.2.trans oT.fr (fun _ _ h => h))).s (by rw [List.length_append]; omega)
        rw [hn1, hn2] at hr7
        have H6 := hide hr6
        have H7 := hide (And.intro hr7 (And.intro hn2 (And.intro hF9 oV)))
        clear hr6 hr7 hn1 hn2 hF9 oV oT hle hLK hOT
        go_wp2_with (at_builtin; first | (refine wpList_app rfl _ _ 24 24 rfl _ _ _ rfl rfl (unhide H6) ?_; clear H6) | (refine wpList_app rfl _ _ 24 24 rfl _ _ _ rfl rfl (unhide H7).1 ?_))
        exact ⟨⟨k + 1, _, _, _, by omega, by go_num, rfl, by rw [(unhide H7).2.2.1]; exact (unhide H7).2.1.symm, by rw [(unhide H7).2.2.1]; exact (unhide H7).2.2.2⟩, by simp [intOf]; omega⟩
      · have hF9 : ent F (k + 1) = ent F k ++ OT ++ LK := by
          rw [(unhide HQ).2.2.2.2.2.2.2.2.1, (unhide HQ).2.2.2.2.2.2.1, (unhide HQ).2.2.2.2.2.2.2.1]; rfl
        obtain ⟨n1, hn1⟩ : ∃ n1, (ent F k ++ OT).length = n1 := ⟨_, rfl⟩
        obtain ⟨n2, hn2⟩ : ∃ n2, (ent F k ++ OT ++ LK).length = n2 := ⟨_, rfl⟩
        have hle := (unhide HQ).2.2.2.2.2.2.2.2.2
        have hLK := (unhide HQ).2.2.2.2.1
        have hOT := (unhide HQ).2.2.2.2.2.1
        obtain ⟨a6, c6, w6, hr6, oT, hL6⟩ := (unhide H5).1.appA _ OT (unhide H5).2.2.2.s (by omega) _ LK (unhide H5).2.1 (unhide H5).2.2.1
        rw [← (unhide HQ).1, hn1] at hr6
        obtain ⟨a7, c7, w7, hr7, oV⟩ := oT.app _ LK hL6.s (by rw [List.length_append]; omega)
        rw [hn1, hn2] at hr7
        clear hL6
        have H6 := hide hr6
        have H7 := hide (And.intro hr7 (And.intro hn2 (And.intro hF9 oV)))
        clear hr6 hr7 hn1 hn2 hF9 oV oT hle hLK hOT
        go_wp2_with (at_builtin; first | (refine wpList_app rfl _ _ 24 24 rfl _ _ _ rfl rfl (unhide H6) ?_; clear H6) | (refine wpList_app rfl _ _ 24 24 rfl _ _ _ rfl rfl (unhide H7).1 ?_))
        exact ⟨⟨k + 1, _, _, _, by omega, by go_num, rfl, by rw [(unhide H7).2.2.1]; exact (unhide H7).2.1.symm, by rw [(unhide H7).2.2.1]; exact (unhide H7).2.2.2⟩, by simp [intOf]; omega⟩
    · have hlt' : ¬ (k : Int) < 8 * (wi : Int) := by omega
      have hkE : k = E := by omega
      have hel := (unhide HD).2.2.2.1 k hk
      have hPE : 2 * k * wi = PS := by rw [hkE, ← hE, ← hPS, ← Nat.mul_assoc]
      rw [hPE] at hel
      rw [hel] at hn
      rw [hkE] at hI hel
      have hn' := hn.symm
      subst hn'
      have hFw : Fr (fun _ => False) w2 wr := (unhide H3).2.2.trans hI.fr (fun _ _ h => h)
      have hEb : ∀ v ∈ ent F E, v < 256 := (unhide HFB) E
      have hEs : Sl wr (.slice zo PS zc) (ent F E) := hel ▸ hI.sl hEb
      have hpcs : ∀ w' ao cp, OS wr w' ao cp (cvs wi g (o + PS) (sc - PS) H) → Pcs w' (.slice ao H cp) (cvs wi g (o + PS) (sc - PS) H) (cuts wi (s.drop PS) H) ∧ Cp (.slice ao H cp) ∧ Fr (fun _ => False) wr w' := fun w' ao cp hO => by
        have hP := hO.pcs (ps := cuts wi (s.drop PS) H) (by simp [cvs, cuts]) (fun j v p hv hp => by
          have hj : j < H := by
            have := (List.getElem?_eq_some_iff.1 hv).1
            rwa [cvs_len] at this
          have e1 : v = .slice (some ⟨g, o + PS + j * wi, none⟩) wi (sc - PS - j * wi) := by
            simp [cvs, List.getElem?_range hj] at hv; exact hv.symm
          have e2 : p = ((s.drop PS).drop (j * wi)).take wi := by
            simp only [cuts, List.getElem?_map, List.getElem?_range hj, Option.map_some, Option.some.injEq] at hp; exact hp.symm
          have hjw : (j + 1) * wi ≤ HWI := (unhide HHW) (j + 1) (by omega)
          rw [Nat.add_mul, Nat.one_mul] at hjw
          have := (unhide HD).2.2.1 (PS + j * wi) wi (by omega)
          rw [e1, e2, List.drop_drop, Nat.add_assoc, Nat.sub_sub]
          exact this.fr0 (hFw.trans hO.fr (fun _ _ h => h)))
        rw [cvs_len] at hP
        refine ⟨hP, fun a m b e => ?_, hO.fr⟩
        cases e
        rcases hO.own.2 with ⟨e, e2⟩ | ⟨g, cap, cur, e, _, _, h3, _⟩
        · rw [cvs_len] at e2; omega
        · simp only [Value.slice.injEq, true_and] at e
          rw [cvs_len] at h3
          rw [e.2]; exact h3
      have hleaf := fun w' (hf : Fr (fun _ => False) wr w') => (unhide HC).2.2.2.2.2.2 _ w' _ (hFw.trans hf (fun _ _ h => h)) (hEs.fr0 hf) (by rw [hel]; omega)
      have hlfl := lf_len5 wi hw1 hw32 (ent F E)
      have hlfb := lf_lt (wi : Int) (ent F E)
      rw [hlfl] at hleaf
      have hcp := (unhide HC).2.2.2.2.2.1
      have hsubs := (unhide HHW)
      have HQ := hide (And.intro hpcs (And.intro hleaf (And.intro hlfl (And.intro hlfb (And.intro hcp hFw)))))
      clear hpcs hleaf hlfl hlfb hcp hFw hEs hEb hel hI hPE hkE
      generalize hLF : lf (wi : Int) (ent F E) = LF at *
      have HLF := hide hLF
      clear hLF
      go_wp2_with fail
      go_loopw [18, 19] (fun v iv wq => ∃ (i : Nat) (ao : Option Addr) (cp : Nat), i ≤ H ∧ iv = .int .i64 (i : Nat) ∧ v = .slice ao i cp ∧ OS wr wq ao cp (cvs wi g (o + PS) (sc - PS) i)) (fun _ iv _ => H - (intOf iv).toNat)
      case atStart => exact ⟨0, none, 0, Nat.zero_le _, rfl, rfl, OS.nil _⟩
      case round =>
        obtain ⟨i, ao, cp, hi, rfl, rfl, hO⟩ := hrel
        by_cases hil : i < H
        · have hil' : (i : Int) < (H : Int) := by omega
          have hjw : (i + 1) * wi ≤ HWI := hsubs (i + 1) (by omega)
          rw [Nat.add_mul, Nat.one_mul] at hjw
          have hm2 : (i : Int) * (wi : Int) = ((i * wi : Nat) : Int) := by simp
          obtain ⟨a2, c2, w5, hr5, hO5, _⟩ := hO.app1 (some ⟨g, o + (PS + i * wi), none⟩) wi (sc - (PS + i * wi)) (by rw [cvs_len]; omega)
          rw [cvs_len] at hr5
          have e5 : cvs wi g (o + PS) (sc - PS) i ++ [.slice (some ⟨g, o + (PS + i * wi), none⟩) wi (sc - (PS + i * wi))] = cvs wi g (o + PS) (sc - PS) (i + 1) := by rw [cvs_succ, Nat.add_assoc, Nat.sub_sub]
          rw [e5] at hO5
          generalize i * wi = Q at *
          have q1 : (0 : Int) ≤ (PS : Int) + (Q : Int) := by omega
          have q2 : (PS : Int) + (Q : Int) ≤ (PS : Int) + (Q : Int) + (wi : Int) := by omega
          have q3 : (PS : Int) + (Q : Int) + (wi : Int) ≤ (sc : Int) := by omega
          have e6 : PS + Q + wi - (PS + Q) = wi := by omega
          have HR := hide (And.intro hr5 hO5)
          clear hr5 hO5 hO e5
          go_wp2_with (at_builtin; refine wpList_app rfl _ _ 40 40 rfl _ _ _ rfl rfl (unhide HR).1 ?_)
          exact ⟨⟨i + 1, a2, c2, by omega, by go_num, rfl, (unhide HR).2⟩, by simp [intOf]; omega⟩
        · have hil' : ¬ (i : Int) < (H : Int) := by omega
          have hiH : i = H := by omega
          subst hiH
          obtain ⟨h1, h2, h3⟩ := (unhide HQ).1 _ _ _ hO
          have H6 := hide (And.intro h1 (And.intro h2 h3))
          clear h1 h2 h3 hO
          go_wp2_with fail
          refine ((unhide HQ).2.1 _ (unhide H6).2.2).mono ?_
          rintro e w7 ⟨lo, lc, rfl, hO7⟩
          have hl7 : Sl w7 (.slice lo wi lc) LF := (unhide HQ).2.2.1 ▸ hO7.sl (unhide HQ).2.2.2.1
          have H7 := hide (And.intro hl7 (And.intro ((unhide H6).1.fr0 hO7.fr) ((unhide HQ).2.2.2.2.2.trans ((unhide H6).2.2.trans hO7.fr (fun _ _ h => h)) (fun _ _ h => h))))
          clear hl7 hO7
          go_wp2_with fail
          refine ((unhide HQ).2.2.2.2.1 _ _ _ _ _ (unhide H7).2.2 (unhide H7).1 (unhide H7).2.1 (unhide H6).2.1).mono ?_
          rintro e w8 ⟨rfl, hF8⟩
          have H8 := hide ((unhide H7).2.2.trans hF8 (fun _ _ h => h))
          clear hF8
          go_wp2_with fail
          go_ret
          exact ⟨by rw [hE, unhide HLF]; rfl, unhide H8⟩
set_option maxRecDepth 100000 in
set_option maxHeartbeats 400000 in
/-- The document's Check, of what may not be. -/
theorem g5check_no (j h K : Int) (po so : Option Addr) (pc sc : Nat) (mv : Value) (pub s : List Nat) (w : World) (hn : ¬ okL j h K pub s) :
    Calls Tryd.prog 25 #[.int .i64 j, .int .i64 h, .slice po pub.length pc, .int .i64 K, mv, .slice so s.length sc] w fun e w' => e = .returned (.bool false) ∧ Fr (fun _ => False) w w' := by
  have hmay := hide (g5may_any j h w)
  unfold okL at hn
  by_cases h1 : (1 ≤ j ∧ j ≤ 32) ∧ 0 ≤ h ∧ h ≤ 6
  · rw [decide_eq_true h1] at hmay
    by_cases h2 : (pub.length : Int) = j
    · obtain ⟨H, rfl⟩ : ∃ H : Nat, h = (H : Int) := ⟨h.toNat, by omega⟩
      rw [Int.toNat_natCast] at hn
      have hW := wrap_pow H (by omega)
      generalize hN : ((2 ^ H : Nat) : Int) = N at *
      by_cases h3 : K < 0
      · generalize s.length = SN at *
        generalize pub.length = PN at *
        clear hn h1
        subst h2
        go_enter Tryd.func25, Tryd.ntmps25
        go_wp2_with fail
        refine (unhide hmay).mono ?_
        rintro e w0 ⟨rfl, rfl⟩
        go_wp2_with fail
        go_ret
        exact ⟨rfl, Fr.refl _ _⟩
      · have hH6 : H ≤ 6 := by omega
        by_cases h4 : N ≤ K
        · generalize s.length = SN at *
          generalize pub.length = PN at *
          clear hn h1
          subst h2
          go_enter Tryd.func25, Tryd.ntmps25
          go_wp2_with fail
          refine (unhide hmay).mono ?_
          rintro e w0 ⟨rfl, rfl⟩
          go_wp2_with fail
          go_ret
          exact ⟨rfl, Fr.refl _ _⟩
        · have hsz := hide (g5size_any j H w)
          have h5 : ¬ (s.length : Int) = szF j H := fun e => hn ⟨h1, h2, ⟨by omega, by omega⟩, e⟩
          generalize szF j H = SZ at *
          generalize s.length = SN at *
          generalize pub.length = PN at *
          clear hn h1
          subst h2
          have h6 : ((SN : Int) != SZ) = true := by simpa using h5
          go_enter Tryd.func25, Tryd.ntmps25
          go_wp2_with fail
          refine (unhide hmay).mono ?_
          rintro e w0 ⟨rfl, rfl⟩
          go_wp2_with fail
          refine (unhide hsz).mono ?_
          rintro e w0' ⟨rfl, rfl⟩
          go_wp2_with fail
          go_ret
          exact ⟨rfl, Fr.refl _ _⟩
    · generalize s.length = SN at *
      generalize pub.length = PN at *
      clear hn h1
      go_enter Tryd.func25, Tryd.ntmps25
      go_wp2_with fail
      refine (unhide hmay).mono ?_
      rintro e w0 ⟨rfl, rfl⟩
      go_wp2_with fail
      go_ret
      exact ⟨rfl, Fr.refl _ _⟩
  · rw [decide_eq_false h1] at hmay
    generalize s.length = SN at *
    generalize pub.length = PN at *
    clear hn h1
    go_enter Tryd.func25, Tryd.ntmps25
    go_wp2_with fail
    refine (unhide hmay).mono ?_
    rintro e w0 ⟨rfl, rfl⟩
    go_wp2_with fail
    go_ret
    exact ⟨rfl, Fr.refl _ _⟩
/-- The document's Check. -/
theorem g5check_any (j h K : Int) (pv mv sv : Value) (pub m s : List Nat) (w : World) (hg : GR w) (hp : Sl w pv pub) (hm : Sl w mv m) (hs : Sl w sv s) (hml : m.length ≤ 16000000) :
    Calls Tryd.prog 25 #[.int .i64 j, .int .i64 h, pv, .int .i64 K, mv, sv] w fun e w' => e = .returned (.bool (chkL j h pub K m s)) ∧ Fr (fun _ => False) w w' := by
  unfold chkL
  by_cases hok : okL j h K pub s
  · rw [if_pos hok]
    obtain ⟨h1, h2, h3, h4⟩ := hok
    obtain ⟨wi, rfl⟩ : ∃ wi : Nat, j = (wi : Int) := ⟨j.toNat, by omega⟩
    obtain ⟨H, rfl⟩ : ∃ H : Nat, h = (H : Int) := ⟨h.toNat, by omega⟩
    obtain ⟨k, rfl⟩ : ∃ k : Nat, K = (k : Int) := ⟨K.toNat, by omega⟩
    rw [Int.toNat_natCast] at h3
    rw [szF_nat wi H (by omega) (by omega) (by omega)] at h4
    rw [Int.toNat_natCast, Int.toNat_natCast]
    exact g5check_in wi H k (by omega) (by omega) (by omega) (Int.ofNat_lt.1 h3.2) pv mv sv pub m s w hg hp hm hs (by omega) hml (by omega)
  · rw [if_neg hok]
    obtain ⟨po, pc, rfl⟩ := hp.form
    obtain ⟨so, sc, rfl⟩ := hs.form
    exact g5check_no j h K po so pc sc mv pub s w hok
end Go.Proofs.YtjokmlnghpnlbaaDoor

namespace Go.Proofs.YtjokmlnghpnlbaaDoor
open Go.RowKit

theorem sl_lit (w : World) (l : List Nat) (cs : Array Value) (t : TypeId) (fz : Nat × Nat) (n : Nat) (hn : n = l.length) (h : cs = (cellsOf l).toArray) (hb : ∀ v ∈ l, v < 256) : Sl (w.alloc (.cells cs t fz)) (.slice (some ⟨w.heap.size, 0, none⟩) n n) l :=
  ⟨src_new w l cs t fz n n hn h, cap_lit, .inr lt_lit, hb⟩
theorem Fr.freeze {S : Nat → Prop} {a w : World} (h : Fr S a w) {p : Addr} (hp : S p.block ∨ a.heap.size ≤ p.block) (n : Nat) : Fr S a (w.freeze p n) := by
  unfold World.freeze
  split
  · exact h
  · refine ⟨h.os, h.tape, h.output, by simpa using h.size, fun k hk hs => ?_⟩
    rw [← h.block k hk hs]
    simp only [Array.getElem?_modify]
    rw [if_neg (fun e => ?_)]
    rcases hp with hp | hp
    · exact hs (e ▸ hp)
    · omega
theorem cell_freeze (w : World) (p : Addr) (n : Nat) (a : Addr) : (w.freeze p n).cell? a = w.cell? a := by
  unfold World.freeze
  split
  · rfl
  · by_cases e : p.block = a.block
    · unfold World.cell?
      simp only [Array.getElem?_modify, if_pos e]
      rcases hq : w.heap[a.block]? with _ | o
      · rfl
      · rcases o with ⟨c, el, lo, hi⟩ | _ <;> rfl
    · unfold World.cell?
      simp only [Array.getElem?_modify, if_neg e]
theorem size_freeze (w : World) (p : Addr) (n : Nat) : (w.freeze p n).heap.size = w.heap.size := by
  unfold World.freeze
  split
  · rfl
  · simp
theorem Sl.freeze {w : World} {x : Value} {l : List Nat} (h : Sl w x l) (p : Addr) (n : Nat) : Sl (w.freeze p n) x l := by
  refine ⟨?_, h.cap, by rw [size_freeze]; exact h.lt, h.b⟩
  rcases h.s with h0 | ⟨g, o, c, e, hc⟩ | h0
  · exact .inl h0
  · exact .inr (.inl ⟨g, o, c, e, fun j v hv => by rw [cell_freeze]; exact hc j v hv⟩)
  · exact .inr (.inr h0)
theorem conv_frz (W : World) (b n c k : Nat) (hsh : W.shape? b = some (5, k)) : (convert 24 24 (.slice (some ⟨b, 0, none⟩) n c)).run Tryd.prog W = .ok (.slice (some ⟨b, 0, none⟩) n c) (W.freeze ⟨b, k, none⟩ 1) := by
  simp [convert, run_underlying Tryd.underlying24, run_underlying Tryd.underlying5, markStringish, hsh]
theorem shape_new {W wP : World} {C : Array Value} {t : TypeId} {fz : Nat × Nat} (hf : Fr (fun _ => False) (W.alloc (.cells C t fz)) wP) : wP.shape? W.heap.size = some (t, C.size) := by
  unfold World.shape?
  rw [hf.block W.heap.size (by simp) (fun h => h)]
  have : (W.alloc (.cells C t fz)).heap[W.heap.size]? = some (.cells C t fz) := by
    show (W.heap.push (.cells C t fz))[W.heap.size]? = _
    simp
  rw [this]
/-- What lives asks for. -/
structure Lv5 : Prop where
  new : ∀ w' x, GS w' → GT w' → Sl w' x [1, 2, 3] → Calls Tryd.prog 11 #[.int .i64 2, .int .i64 1, x] w' fun e w'' => ∃ kb base tb yo yc, e = .returned (.tuple #[.pointer (some ⟨kb, 0, none⟩), .int .i64 0]) ∧ KyAt w'' kb base tb 2 1 (.slice yo 3 yc) [1, 2, 3] (lvs 2 [1, 2, 3] 2) ∧ Fr (fun _ => False) w' w''
  sign : ∀ w' kb base tb yo yc x, KyAt w' kb base tb 2 1 (.slice yo 3 yc) [1, 2, 3] (lvs 2 [1, 2, 3] 2) → Sl w' x [97, 98, 99] → Calls Tryd.prog 14 #[.pointer (some ⟨kb, 0, none⟩), .int .i64 1, x] w' fun e w'' => ∃ zo zc, e = .returned (.tuple #[.slice zo 66 zc, .int .i64 0]) ∧ OB w' w'' zo zc (sig 2 1 1 [1, 2, 3] (sm 2 [97, 98, 99]))
  pub : ∀ w' kb base tb yo yc, KyAt w' kb base tb 2 1 (.slice yo 3 yc) [1, 2, 3] (lvs 2 [1, 2, 3] 2) → Calls Tryd.prog 15 #[.pointer (some ⟨kb, 0, none⟩)] w' fun e w'' => ∃ yo yc, e = .returned (.slice yo 2 yc) ∧ OB w' w'' yo yc (mth 2 (lvs 2 [1, 2, 3] 2))
  size : ∀ w', Calls Tryd.prog 9 #[.int .i64 2, .int .i64 3] w' fun e w'' => e = .returned (.int .i64 70) ∧ w'' = w'
  chk : ∀ w' pv mv sv, GS w' → Sl w' pv (mth 2 (lvs 2 [1, 2, 3] 2)) → Sl w' mv [97, 98, 99] → Sl w' sv (sig 2 1 1 [1, 2, 3] (sm 2 [97, 98, 99])) → Calls Tryd.prog 16 #[.int .i64 2, .int .i64 1, pv, .int .i64 1, mv, sv] w' fun e w'' => e = .returned (.bool true) ∧ Fr (fun _ => False) w' w''
  chn : ∀ w' pv mv sv s, GS w' → Sl w' pv (mth 2 (lvs 2 [1, 2, 3] 2)) → Sl w' mv [97, 98, 99] → Sl w' sv s → s.length = 65 → Calls Tryd.prog 16 #[.int .i64 2, .int .i64 1, pv, .int .i64 1, mv, sv] w' fun e w'' => e = .returned (.bool false) ∧ Fr (fun _ => False) w' w''
  slen : (sig 2 1 1 [1, 2, 3] (sm 2 [97, 98, 99])).length = 66
  sbyt : ∀ v ∈ sig 2 1 1 [1, 2, 3] (sm 2 [97, 98, 99]), v < 256
  plen : (mth 2 (lvs 2 [1, 2, 3] 2)).length = 2
  pbyt : ∀ v ∈ mth 2 (lvs 2 [1, 2, 3] 2), v < 256
theorem lv5 : Lv5 := by
  refine ⟨fun w' x hg ht hx => ?_, fun w' kb base tb yo yc x h hx => ?_, fun w' kb base tb yo yc h => ?_, fun w' => ?_, fun w' pv mv sv hg hp hm hs => ?_, fun w' pv mv sv s hg hp hm hs hl => ?_, ?_, ?_, ?_, ?_⟩
  · exact lnew_in 2 1 (by decide) (by decide) (by decide) x [1, 2, 3] w' hg ht hx (by decide)
  · exact lsign_sig 2 1 kb base tb 1 (by decide) (by decide) (by decide) (by decide) yo 3 yc [1, 2, 3] w' h (by decide) x [97, 98, 99] hx (by decide)
  · exact lpublic_any 2 1 kb base tb (by decide) (by decide) (by decide) _ [1, 2, 3] _ w' h (lvs_len 2 _ _)
  · have := lsize_any 2 3 w'
    have e : szF 2 3 = 70 := by decide
    rw [e] at this
    exact this
  · have := lcheck_any 2 1 1 pv mv sv _ _ _ w' hg hp hm hs (by decide)
    have e : chkL 2 1 (mth 2 (lvs 2 [1, 2, 3] 2)) 1 [97, 98, 99] (sig 2 1 1 [1, 2, 3] (sm 2 [97, 98, 99])) = true := chkL_sig 2 1 1 (by decide) (by decide) (by decide) (by decide) [1, 2, 3] [97, 98, 99]
    rw [e] at this
    exact this
  · have := lcheck_any 2 1 1 pv mv sv _ _ _ w' hg hp hm hs (by decide)
    have e : chkL 2 1 (mth 2 (lvs 2 [1, 2, 3] 2)) 1 [97, 98, 99] s = false := chkL_len 2 1 1 (by decide) (by decide) (by decide) _ _ s (by omega)
    rw [e] at this
    exact this
  · exact sig_len 2 1 1 (by decide) (by decide) (by decide) _ _
  · exact sig_lt _ _ _ _ _
  · exact pub_len 2 1 (by decide) (by decide) _
  · exact pub_lt 2 1 _
theorem OB.sl2 {w wr : World} {xo : Option Addr} {cp n : Nat} {l : List Nat} (h : OB w wr xo cp l) (hb : ∀ v ∈ l, v < 256) (hn : l.length = n) : Sl wr (.slice xo n cp) l := hn ▸ h.sl hb
theorem chk_at (HC : Lv5) {w2 W : World} {pv mv sv : Value} (h : Fr (fun _ => False) w2 W ∧ Sl W pv (mth 2 (lvs 2 [1, 2, 3] 2)) ∧ Sl W mv [97, 98, 99]) (hs : Sl w2 sv (sig 2 1 1 [1, 2, 3] (sm 2 [97, 98, 99]))) (hg : GS w2) :
    Calls Tryd.prog 16 #[.int .i64 2, .int .i64 1, pv, .int .i64 1, mv, sv] W fun e w'' => e = .returned (.bool true) ∧ Fr (fun _ => False) w2 w'' := by
  refine (HC.chk W pv mv sv (hg.fr0 h.1) h.2.1 h.2.2 (hs.fr0 h.1)).mono ?_
  rintro e w'' ⟨rfl, hf⟩
  exact ⟨rfl, h.1.trans hf (fun _ _ h => h)⟩
theorem chn_at (HC : Lv5) {w2 W : World} {pv mv sv : Value} {s : List Nat} (h : Fr (fun _ => False) w2 W ∧ Sl W pv (mth 2 (lvs 2 [1, 2, 3] 2)) ∧ Sl W mv [97, 98, 99]) (hs : Sl w2 sv s) (hl : s.length = 65) (hg : GS w2) :
    Calls Tryd.prog 16 #[.int .i64 2, .int .i64 1, pv, .int .i64 1, mv, sv] W fun e w'' => e = .returned (.bool false) ∧ Fr (fun _ => False) w2 w'' := by
  refine (HC.chn W pv mv sv s (hg.fr0 h.1) h.2.1 h.2.2 (hs.fr0 h.1) hl).mono ?_
  rintro e w'' ⟨rfl, hf⟩
  exact ⟨rfl, h.1.trans hf (fun _ _ h => h)⟩
set_option maxRecDepth 100000 in
set_option maxHeartbeats 4000000 in
/-- lives. -/
theorem lives5_any (w : World) (hg : GS w) (ht : GT w) : Calls Tryd.prog 8 #[] w fun e w' => e = .returned (.bool true) ∧ Fr (fun _ => False) w w' := by
  have hcv := fun (w : World) (C : Array Value) (n c : Nat) => Lib.run_convert_bytes_const (P := Tryd.prog) w 24 5 C n c Tryd.underlying24 Tryd.underlying5
  have hcd : ∀ (w : World) (C : Array Value) (n c : Nat), (convert 24 24 (.slice (some ⟨w.heap.size, 0, none⟩) n c)).run Tryd.prog (w.alloc (.cells C 5)).drew = .ok (.slice (some ⟨w.heap.size, 0, none⟩) n c) (w.alloc (.cells C 5 (C.size, C.size + 1))).drew := fun w C n c => hcv w.drew C n c
  have HC := hide lv5
  have hsl := lv5.slen
  have hsb := lv5.sbyt
  have hpl := lv5.plen
  have hpb := lv5.pbyt
  have HG := hide (And.intro hg ht)
  clear hg ht
  go_enter Tryd.func8, Tryd.ntmps8
  go_wp2_with fail
  refine ((unhide HC).new _ _ ((unhide HG).1.fr0 ((Fr.refl _ _).alloc _)) ((unhide HG).2.fr0 ((Fr.refl _ _).alloc _)) (sl_lit w [1, 2, 3] _ _ _ _ rfl rfl (by decide))).mono ?_
  rintro e w1 ⟨kb, base, tb, yo, yc, rfl, hK, hF1⟩
  have H1 := hide (And.intro hK (((Fr.refl _ w).alloc _).trans hF1 (fun _ _ h => h)))
  clear hK hF1
  go_wp2_with fail
  refine ((unhide HC).sign _ _ _ _ _ _ _ ((unhide H1).1.fr0 ((Fr.refl _ _).alloc _)) (sl_lit w1 [97, 98, 99] _ _ _ _ rfl rfl (by decide))).mono ?_
  rintro e w2 ⟨zo, zc, rfl, hO2⟩
  have hFa := ((Fr.refl _ w1).alloc _).trans hO2.fr (fun _ _ h => h)
  have H2 := hide (And.intro ((unhide H1).1.fr0 hFa) (And.intro hO2 ((unhide H1).2.trans hFa (fun _ _ h => h))))
  clear hO2 hFa
  obtain ⟨zg, rfl, _, _, hzc, _⟩ := (unhide H2).2.1.at_ (by rw [hsl]; decide)
  rw [hsl] at hzc
  have hzs := (unhide H2).2.1.sl hsb
  rw [hsl] at hzs
  have hzs1 := hzs.sub 1 65 (by rw [hsl]; decide)
  have hl65 : (((sig 2 1 1 [1, 2, 3] (sm 2 [97, 98, 99])).drop 1).take 65).length = 65 := by rw [List.length_take, List.length_drop, hsl]; decide
  generalize ((sig 2 1 1 [1, 2, 3] (sm 2 [97, 98, 99])).drop 1).take 65 = S1 at *
  have H3 := hide (And.intro (unhide H2).1 (And.intro hzs (And.intro hzs1 (And.intro (unhide H2).2.2 (And.intro ((unhide HG).1.fr0 (unhide H2).2.2) (And.intro hl65 (And.intro hpl hpb)))))))
  clear hzs hzs1 hl65 H2 hsl hsb hpl hpb H1 HG
  have hz1 : (1 : Int) ≤ (zc : Int) := by omega
  have hz2 : ¬ zc = 1 := by omega
  go_wp2_with fail
  go_region_held_law (fun _ => True)
    (first | trivial)
    (first
      | (go_at_call 9; refine ((unhide HC).size _).mono ?_; rintro e wX ⟨rfl, rfl⟩)
      | (go_at_call 15; refine ((unhide HC).pub _ _ _ _ _ _ ((unhide H3).1.fr0 (by first | exact (Fr.refl _ _).drew | exact (Fr.refl _ _).drew.alloc _))).mono ?_; rintro e wP ⟨po, pc, rfl, hP⟩; try have hcx := conv_frz wP w2.heap.size 3 3 3 (shape_new (W := w2.drew) hP.fr))
      | (go_at_call 16; refine (chk_at (unhide HC) (by first | exact ⟨((Fr.refl _ _).drew.trans hP.fr (fun _ _ h => h)).alloc _, (hP.sl2 (unhide H3).2.2.2.2.2.2.2 (unhide H3).2.2.2.2.2.2.1).fr0 ((Fr.refl _ _).alloc _), sl_lit wP [97, 98, 99] _ _ _ _ rfl rfl (by decide)⟩ | exact ⟨(((Fr.refl _ _).drew.alloc _).trans hP.fr (fun _ _ h => h)).freeze (.inr (Nat.le_refl _)) _, (hP.sl2 (unhide H3).2.2.2.2.2.2.2 (unhide H3).2.2.2.2.2.2.1).freeze _ _, ((sl_lit w2.drew [97, 98, 99] _ _ _ _ rfl rfl (by decide)).fr0 hP.fr).freeze _ _⟩ | exact ⟨((Fr.refl _ _).drew.alloc _).trans hP.fr (fun _ _ h => h), hP.sl2 (unhide H3).2.2.2.2.2.2.2 (unhide H3).2.2.2.2.2.2.1, (sl_lit w2.drew [97, 98, 99] _ _ _ _ rfl rfl (by decide)).fr0 hP.fr⟩) (unhide H3).2.1 (unhide H3).2.2.2.2.1).mono ?_; rintro e wC ⟨rfl, hC⟩; have H4 := hide (And.intro ((unhide H3).1.fr0 hC) (And.intro ((unhide H3).2.1.fr0 hC) (And.intro ((unhide H3).2.2.1.fr0 hC) (And.intro ((unhide H3).2.2.2.1.trans hC (fun _ _ h => h)) (And.intro ((unhide H3).2.2.2.2.1.fr0 hC) (And.intro (unhide H3).2.2.2.2.2.1 (unhide H3).2.2.2.2.2.2)))))); clear hC hP H3; try clear hcx)
      | (go_at_call 15; refine ((unhide HC).pub _ _ _ _ _ _ ((unhide H4).1.fr0 (by first | exact (Fr.refl _ _) | exact (Fr.refl _ _).alloc _))).mono ?_; rintro e wP ⟨po, pc, rfl, hP⟩; try have hcx := conv_frz wP wC.heap.size 3 3 3 (shape_new (W := wC) hP.fr))
      | (go_at_call 16; refine (chn_at (unhide HC) (by first | exact ⟨((Fr.refl _ _).trans hP.fr (fun _ _ h => h)).alloc _, (hP.sl2 (unhide H4).2.2.2.2.2.2.2 (unhide H4).2.2.2.2.2.2.1).fr0 ((Fr.refl _ _).alloc _), sl_lit wP [97, 98, 99] _ _ _ _ rfl rfl (by decide)⟩ | exact ⟨(((Fr.refl _ _).alloc _).trans hP.fr (fun _ _ h => h)).freeze (.inr (Nat.le_refl _)) _, (hP.sl2 (unhide H4).2.2.2.2.2.2.2 (unhide H4).2.2.2.2.2.2.1).freeze _ _, ((sl_lit wC [97, 98, 99] _ _ _ _ rfl rfl (by decide)).fr0 hP.fr).freeze _ _⟩ | exact ⟨((Fr.refl _ _).alloc _).trans hP.fr (fun _ _ h => h), hP.sl2 (unhide H4).2.2.2.2.2.2.2 (unhide H4).2.2.2.2.2.2.1, (sl_lit wC [97, 98, 99] _ _ _ _ rfl rfl (by decide)).fr0 hP.fr⟩) (unhide H4).2.2.1 (unhide H4).2.2.2.2.2.1 (unhide H4).2.2.2.2.1).mono ?_; rintro e wD ⟨rfl, hD⟩; have H5 := hide ((unhide H4).2.2.2.1.trans hD (fun _ _ h => h)); clear hD hP; try clear hcx))
  all_goals go_wp2_with fail
  all_goals go_ret
  all_goals exact ⟨rfl, unhide H5⟩
end Go.Proofs.YtjokmlnghpnlbaaDoor

namespace Go.Proofs.YtjokmlnghpnlbaaDoor
open Go.RowKit

set_option maxRecDepth 100000 in
set_option maxHeartbeats 400000 in
/-- LamportChecks. -/
theorem lchecks_any (j h K : Int) (pv mv sv : Value) (pub m s : List Nat) (w : World) (hg : GS w) (hr : GR w) (ht : GT w) (hp : Sl w pv pub) (hm : Sl w mv m) (hs : Sl w sv s) (hpl : pub.length ≤ 2000000) (hml : m.length ≤ 2000000) (hsl : s.length ≤ 2000000) :
    Calls Tryd.prog 6 #[.int .i64 j, .int .i64 h, pv, .int .i64 K, mv, sv] w fun e w' => e = .returned (.bool true) ∧ Fr (fun _ => False) w w' := by
  obtain ⟨po, pc, rfl⟩ := hp.form
  obtain ⟨mo, mc, rfl⟩ := hm.form
  obtain ⟨so, sc, rfl⟩ := hs.form
  have hnil : ∀ w' : World, OB w' w' none 0 [] := fun w' => ⟨own_nil _ _, Fr.refl _ _⟩
  obtain ⟨ao, ac, w1, hr1, hO1⟩ := (hnil w).app _ pub hp.s (by simp; omega)
  obtain ⟨bo, bc, w2, hr2, hO2⟩ := (hnil w1).app _ m (hm.fr0 hO1.fr).s (by simp; omega)
  have hf2 : Fr (fun _ => False) w w2 := hO1.fr.trans hO2.fr (fun _ _ h => h)
  obtain ⟨co, cc, w3, hr3, hO3⟩ := (hnil w2).app _ s (hs.fr0 hf2).s (by simp; omega)
  rw [List.nil_append] at hr1 hO1 hr2 hO2 hr3 hO3
  rw [List.length_nil] at hr1 hr2 hr3
  have hf3 : Fr (fun _ => False) w w3 := hf2.trans hO3.fr (fun _ _ h => h)
  have h1 := ((hO1.sl hp.b).fr0 hO2.fr).fr0 hO3.fr
  have h2 := (hO2.sl hm.b).fr0 hO3.fr
  have h3 := hO3.sl hs.b
  have hck := lcheck_any j h K _ _ _ pub m s w3 (hg.fr0 hf3) h1 h2 h3 (by omega)
  have hgk := fun w' (hf : Fr (fun _ => False) w3 w') => g5check_any j h K _ _ _ pub m s w' (hr.fr0 (hf3.trans hf (fun _ _ h => h))) (hp.fr0 (hf3.trans hf (fun _ _ h => h))) (hm.fr0 (hf3.trans hf (fun _ _ h => h))) (hs.fr0 (hf3.trans hf (fun _ _ h => h))) (by omega)
  generalize chkL j h pub K m s = RES at *
  have b1 : pub.length ≤ 140737488355328 := by omega
  have b2 : m.length ≤ 140737488355328 := by omega
  have b3 : s.length ≤ 140737488355328 := by omega
  have HR1 := hide hr1
  have HR2 := hide hr2
  have HR3 := hide hr3
  have HS := hide (And.intro h1 (And.intro h2 (And.intro h3 (And.intro (hp.fr0 hf3) (And.intro (hm.fr0 hf3) (hs.fr0 hf3))))))
  have HC := hide (And.intro hck (And.intro hgk (And.intro (hg.fr0 hf3) (And.intro (ht.fr0 hf3) hf3))))
  clear hr1 hr2 hr3 hO1 hO2 hO3 h1 h2 h3 hck hgk hp hm hs hg hr ht hf2 hf3 b1 b2 b3 hnil
  generalize hPN : pub.length = PN at *
  generalize hMN : m.length = MN at *
  generalize hSN : s.length = SN at *
  have HB := hide (show pub.length ≤ 140737488355328 ∧ m.length ≤ 140737488355328 ∧ s.length ≤ 140737488355328 from ⟨by omega, by omega, by omega⟩)
  clear hPN hMN hSN
  go_enter Tryd.func6, Tryd.ntmps6
  go_wp2_with (at_builtin; first | (refine wpList_app rfl _ _ 24 24 rfl _ _ _ rfl rfl (unhide HR1) ?_; clear HR1) | (refine wpList_app rfl _ _ 24 24 rfl _ _ _ rfl rfl (unhide HR2) ?_; clear HR2) | (refine wpList_app rfl _ _ 24 24 rfl _ _ _ rfl rfl (unhide HR3) ?_; clear HR3))
  refine (unhide HC).1.mono ?_
  rintro e w4 ⟨rfl, hF4⟩
  have H4 := hide hF4
  clear hF4
  go_wp2_with fail
  refine ((unhide HC).2.1 _ (unhide H4)).mono ?_
  rintro e w5 ⟨rfl, hF5⟩
  have H5 := hide ((unhide H4).trans hF5 (fun _ _ h => h))
  clear hF5
  go_wp2_with fail
  refine (same_T ((unhide HS).1.fr0 (unhide H5)).s ((unhide HS).2.2.2.1.fr0 (unhide H5)).s (unhide HB).1 (sameB_refl _)).mono ?_
  rintro e w6 ⟨rfl, hF6⟩
  have H6 := hide ((unhide H5).trans hF6 (fun _ _ h => h))
  clear hF6
  go_wp2_with fail
  refine (same_T ((unhide HS).2.1.fr0 (unhide H6)).s ((unhide HS).2.2.2.2.1.fr0 (unhide H6)).s (unhide HB).2.1 (sameB_refl _)).mono ?_
  rintro e w7 ⟨rfl, hF7⟩
  have H7 := hide ((unhide H6).trans hF7 (fun _ _ h => h))
  clear hF7
  go_wp2_with fail
  refine (same_T ((unhide HS).2.2.1.fr0 (unhide H7)).s ((unhide HS).2.2.2.2.2.fr0 (unhide H7)).s (unhide HB).2.2 (sameB_refl _)).mono ?_
  rintro e w8 ⟨rfl, hF8⟩
  have H8 := hide ((unhide H7).trans hF8 (fun _ _ h => h))
  clear hF8
  go_wp2_with fail
  refine (lives5_any _ ((unhide HC).2.2.1.fr0 (unhide H8)) ((unhide HC).2.2.2.1.fr0 (unhide H8))).mono ?_
  rintro e w9 ⟨rfl, hF9⟩
  have H9 := hide ((unhide HC).2.2.2.2.trans ((unhide H8).trans hF9 (fun _ _ h => h)) (fun _ _ h => h))
  clear hF9
  go_wp2_with fail
  go_ret
  exact ⟨rfl, unhide H9⟩
end Go.Proofs.YtjokmlnghpnlbaaDoor

namespace Go.Proofs.YtjokmlnghpnlbaaDoor
open Go.ChangeShapes Go.WideShapes Go.ChangeAt Go.RowKit
set_option maxRecDepth 100000

theorem lchecks_contract (H : Type) (enc : TypeId × Value → H) (W : World) (base : Nat) (args : Array Value) (ds gs : List (DataW H)) (before : List MemPlace)
    (hval : ∀ (j : Nat) t v, Tryd.f6.params[j]? = some t → args[j]? = some v → Value.okWide Tryd.prog W .any base t v)
    (hW : DataW.Whole enc Tryd.prog Tryd.f6.params.toList Rows.lamportChecksSpec.vars false W args.toList ds gs before) (hk : Rows.uptoSmall H (ds ++ gs) = true) (hL : laidMetH Tryd.prog Rows.lamportChecksUptoRow.laid W) (hsh : W.ShapedOpen Tryd.prog) :
    Calls Tryd.prog 6 args W fun e W' => ∃ v, e = .returned v ∧ Rows.lamportChecksSpec.post enc Tryd.prog Tryd.f6 false true false false W args v W' := by
  have hW' := hW
  obtain ⟨p, q, hA0, hV, rfl, hfz, hnd⟩ := hW
  have hA : DataW.TrodAll enc Tryd.prog W 0 (fun _ => true) true Tryd.f6.params.toList args.toList ds p := hA0
  rw [Tryd.params6] at hA hval
  obtain ⟨v0, vs0, d0, ds0, p0, q0, hargs, rfl, rfl, h0, r0⟩ := trodAll_cons hA
  obtain ⟨v1, vs1, d1, ds1, p1, q1, rfl, rfl, rfl, h1, r1⟩ := trodAll_cons r0
  obtain ⟨v2, vs2, d2, ds2, p2, q2, rfl, rfl, rfl, h2, r2⟩ := trodAll_cons r1
  obtain ⟨v3, vs3, d3, ds3, p3, q3, rfl, rfl, rfl, h3, r3⟩ := trodAll_cons r2
  obtain ⟨v4, vs4, d4, ds4, p4, q4, rfl, rfl, rfl, h4, r4⟩ := trodAll_cons r3
  obtain ⟨v5, vs5, d5, ds5, p5, q5, rfl, rfl, rfl, h5, r5⟩ := trodAll_cons r4
  obtain ⟨rfl, rfl, rfl⟩ := trodAll_nil r5
  obtain rfl : args = #[v0, v1, v2, v3, v4, v5] := by cases args; simp_all
  obtain ⟨rfl, rfl⟩ := trodVars_none hV
  obtain ⟨a0, rfl, rfl, rfl, w0⟩ := open_int Tryd.underlying3 (hval 0 3 v0 rfl rfl) h0
  obtain ⟨a1, rfl, rfl, rfl, w1⟩ := open_int Tryd.underlying3 (hval 1 3 v1 rfl rfl) h1
  have hb2 : ∃ l : List Nat, Sl W v2 l ∧ l.length ≤ Rows.uptoBulk d2 := by
    obtain ⟨a, len, cap, rfl⟩ := okWide_slice Tryd.underlying24 (hval 2 24 v2 rfl rfl)
    obtain ⟨fuel, hf⟩ := h2
    obtain ⟨l, q1, q2, q3, q4, q5⟩ := src_of_trod (by simpa [Value.cells] using hf)
    exact ⟨l, ⟨q1, q3, q4, q2⟩, q5⟩
  obtain ⟨l2, hS2, hN2⟩ := hb2
  obtain ⟨a3, rfl, rfl, rfl, w3⟩ := open_int Tryd.underlying3 (hval 3 3 v3 rfl rfl) h3
  have hb4 : ∃ l : List Nat, Sl W v4 l ∧ l.length ≤ Rows.uptoBulk d4 := by
    obtain ⟨a, len, cap, rfl⟩ := okWide_slice Tryd.underlying24 (hval 4 24 v4 rfl rfl)
    obtain ⟨fuel, hf⟩ := h4
    obtain ⟨l, q1, q2, q3, q4, q5⟩ := src_of_trod (by simpa [Value.cells] using hf)
    exact ⟨l, ⟨q1, q3, q4, q2⟩, q5⟩
  obtain ⟨l4, hS4, hN4⟩ := hb4
  have hb5 : ∃ l : List Nat, Sl W v5 l ∧ l.length ≤ Rows.uptoBulk d5 := by
    obtain ⟨a, len, cap, rfl⟩ := okWide_slice Tryd.underlying24 (hval 5 24 v5 rfl rfl)
    obtain ⟨fuel, hf⟩ := h5
    obtain ⟨l, q1, q2, q3, q4, q5⟩ := src_of_trod (by simpa [Value.cells] using hf)
    exact ⟨l, ⟨q1, q3, q4, q2⟩, q5⟩
  obtain ⟨l5, hS5, hN5⟩ := hb5
  have hk2 : Rows.uptoBulk d2 ≤ 1048576 := by
    have h := of_decide_eq_true hk
    simp only [List.append_nil, Rows.uptoBulkAll] at h
    omega
  have hk4 : Rows.uptoBulk d4 ≤ 1048576 := by
    have h := of_decide_eq_true hk
    simp only [List.append_nil, Rows.uptoBulkAll] at h
    omega
  have hk5 : Rows.uptoBulk d5 ≤ 1048576 := by
    have h := of_decide_eq_true hk
    simp only [List.append_nil, Rows.uptoBulkAll] at h
    omega
  obtain ⟨hg, hr, ht⟩ := g6_of_laid (show laidMet Tryd.prog laid6 W from hL) (heap_enough hsh)
  clear hA0
  refine (lchecks_any a0 a1 a3 v2 v4 v5 l2 l4 l5 W hg hr ht hS2 hS4 hS5 (by omega) (by omega) (by omega)).mono fun e W' ⟨he, hf⟩ => ?_
  subst he
  have hlt : ∀ x ∈ [] ++ ([] ++ (p2 ++ ([] ++ (p4 ++ (p5 ++ []))))), x.block < W.heap.size := fun x hx => hW'.lt x (by simpa using hx)
  have hb := hf.below
  refine ⟨_, rfl, _, _, _, [], [] ++ ([] ++ (p2 ++ ([] ++ (p4 ++ (p5 ++ []))))), [], hW', ?_, ?_, ?_, hb.frame _, fun h => by cases h⟩
  · exact trodAll_cons_mk (shut_bool Tryd.underlying4 true) trodAll_mk0
  · exact (trodAll_cons_mk (shut_int Tryd.underlying3 w0) (trodAll_cons_mk (shut_int Tryd.underlying3 w1) (trodAll_cons_mk (Below.trod (by kernel_rfl) (by kernel_rfl) (by decide +kernel) h2 hb (fun x hx => hlt x (by simp [hx]))) (trodAll_cons_mk (shut_int Tryd.underlying3 w3) (trodAll_cons_mk (Below.trod (by kernel_rfl) (by kernel_rfl) (by decide +kernel) h4 hb (fun x hx => hlt x (by simp [hx]))) (trodAll_cons_mk (Below.trod (by kernel_rfl) (by kernel_rfl) (by decide +kernel) h5 hb (fun x hx => hlt x (by simp [hx]))) trodAll_mk0))))))
  · rfl

theorem lchecks_laid_met (os : Os) : laidMetH Tryd.prog Rows.lamportChecksUptoRow.laid ((mWorld os).forCall (fun _ _ => 0) ⟨#[], #[.int .i64 0, .int .i64 0, .slice none 0 0, .int .i64 0, .slice none 0 0, .slice none 0 0], []⟩).memory :=
  laidMetH_of_parts (laidMet_of_run' 8 (by kernel_rfl) (by kernel_rfl)) (by kernel_rfl)
theorem lchecks_reads (os : Os) {H : Type} (enc : TypeId × Value → H) : ∃ places, DataW.whole enc Tryd.prog ((mWorld os).forCall (fun _ _ => 0) ⟨#[], #[.int .i64 0, .int .i64 0, .slice none 0 0, .int .i64 0, .slice none 0 0, .slice none 0 0], []⟩).memory Tryd.f6.params.toList Rows.lamportChecksSpec.vars false #[Value.int .i64 0, .int .i64 0, .slice none 0 0, .int .i64 0, .slice none 0 0, .slice none 0 0].toList 8 = some ([.lit (.int .i64 0), .lit (.int .i64 0), .nil, .lit (.int .i64 0), .nil, .nil], [], places) :=
  ⟨[], by kernel_rfl⟩

theorem lchecks_lifted (os : Os) (started : os.Started) (H : Type) (enc : TypeId × Value → H) (F : Stop.Interp) :
    ReturnsInHanded {} Tryd.checked os 6 .any ((Rows.OpenSpec.upto Rows.lamportChecksSpec).preRow enc Tryd.prog Tryd.f6 Rows.lamportChecksUptoRow.domain false Rows.lamportChecksUptoRow.laid) (((Rows.OpenSpec.upto Rows.lamportChecksSpec).at F).post enc Tryd.prog Tryd.f6 false true false false) := by
  obtain ⟨places, hx⟩ := lchecks_reads os enc
  refine returnsInHanded_of_row (C := Tryd.checked) (s := Rows.OpenSpec.upto Rows.lamportChecksSpec) Tryd.ownKnob started (by kernel_rfl) Tryd.func6
    (witness_row_atRef (enc := enc) (C := Tryd.checked) false (mWorld os) #[.int .i64 0, .int .i64 0, .slice none 0 0, .int .i64 0, .slice none 0 0, .slice none 0 0] rfl (by kernel_rfl) (by kernel_rfl) (by kernel_rfl)
      (OpenSpec.preRow_of_cond 8 hx (by kernel_rfl) (fun k hk => by cases hk; kernel_rfl) (by kernel_rfl) (lchecks_laid_met os))) ?_
  intro W base args ds gs before hval hW _ hcond _ hL hsh _
  exact lchecks_contract H enc W base args ds gs before hval hW (hcond _ rfl) hL hsh

theorem lchecks_said : Rows.LamportChecksUptoSaid :=
  OpenClaim.holds_of_cond 6 Tryd.f6 rfl rfl rfl rfl rfl rfl rfl ⟨rfl, rfl, rfl, rfl, rfl⟩ rfl rfl rfl rfl rfl (by kernel_rfl) Tryd.func6 (by kernel_rfl)
    (of_decide_eq_true (by kernel_rfl)) (by unfold Func.isWrapper; first | (rw [if_pos (by decide +kernel)]; kernel_rfl) | (rw [if_neg (by decide +kernel)]; exact ⟨rfl, rfl⟩))
    (fun os started H enc _ F => by rw [OpenClaim.pre_eq_preRow]; exact lchecks_lifted os started H enc F)

theorem lchecks_plain (f : FuncId) (fn : Func) (hf : Tryd.pinned.checked.prog.funcNamed Rows.lamportChecksUptoRow.func = some f) (hfn : Tryd.pinned.checked.prog.funcs[f]? = some fn) :
    false = Tryd.pinned.checked.prog.looks [] ∧ ∀ (j : Nat) t, fn.params[j]? = some t → Tryd.pinned.checked.prog.wantsStandIn t = false := by
  obtain rfl : f = 6 := Option.some.inj ((show Tryd.prog.funcNamed Rows.lamportChecksUptoRow.func = some 6 by kernel_rfl).symm.trans hf) |>.symm
  obtain rfl : fn = Tryd.f6 := (Option.some.inj (Tryd.func6.symm.trans hfn)).symm
  refine ⟨by kernel_rfl, fun j t ht => ?_⟩
  rw [Tryd.params6] at ht
  have ht' : t = 3 ∨ t = 24 ∨ t = 3 ∨ t = 24 := by simpa using Array.mem_of_getElem? ht
  rcases ht' with rfl | rfl | rfl | rfl
  · exact (show Tryd.prog.wantsStandIn 3 = false by kernel_rfl)
  · exact (show Tryd.prog.wantsStandIn 24 = false by kernel_rfl)
  · exact (show Tryd.prog.wantsStandIn 3 = false by kernel_rfl)
  · exact (show Tryd.prog.wantsStandIn 24 = false by kernel_rfl)

/-- THE SECOND FORM's CARD. -/
theorem lchecks_card : Rows.LamportChecksUptoCardSaid :=
  Claim7.holds_tied_plain_at .later [] _ _ _ _ lchecks_said (fun _ h => by cases h) (by kernel_rfl) (fun _ h => by cases h) lamportChecksUpto_row_tie rfl ⟨rfl, rfl⟩ (by kernel_rfl) rfl lchecks_plain (by kernel_rfl)
#print axioms lchecks_card
end Go.Proofs.YtjokmlnghpnlbaaDoor

