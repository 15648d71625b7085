import Derived.Test.YtkiepcdncegniaaPk2
import Derived.Test.YtkiepcdncegniaaPk3
import Derived.Deep.CutBlock
import Derived.Test.YtkiepcdncegniaaZrb
import Derived.Test.YtkiepcdncegniaaPk1
import Derived.Deep.CutRange
namespace Go.Proofs.Ytkiepcdncegniaa
open Go.RowKit Go.Maps

/-- looked. -/
theorem looked_any {w0 w : World} {d c : Nat} {cs : List SC} {dn : List Nat} {T : Nat → Prop} {l : List RC} (hs : SS w d c cs dn T) (hf : Fr (fun _ => False) w0 w) (base : Nat) (v : Value) (ho : OwC w base v l) (hR : Rel w0 c cs dn l) (hc : c < 4294967296) (cl k : Nat) (hcl : cl < 4294967296) (hk : k < 4294967296) :
    Calls Try.prog 23 #[.pointer (some ⟨d, 0, none⟩), .agg #[.int .u32 (c : Nat), v, .int .i64 (dn.length : Nat)], .agg #[.int .u32 (cl : Nat), .int .u32 (k : Nat)]] w fun e w' => e = .returned (.bool true) ∧ Fr (fun _ => False) w w' := by
  have hl : l.length ≤ 4096 := by rw [hR.n]; exact hs.len
  by_cases hu : cl = c ∧ k ≠ 0 ∧ k ≤ cs.length
  · obtain ⟨rfl, h0, hle⟩ := hu
    obtain ⟨i, rfl⟩ : ∃ i, k = i + 1 := ⟨k - 1, by omega⟩
    obtain ⟨q, hq⟩ : ∃ q, cs[i]? = some q := ⟨_, List.getElem?_eq_getElem (by omega)⟩
    obtain ⟨x, hx⟩ : ∃ x, l[i]? = some x := ⟨_, List.getElem?_eq_getElem (by rw [hR.n]; omega)⟩
    have hq0 := hR.q i q x hq hx
    have hk := hR.k x (List.mem_of_getElem? hx)
    cases hd : q.d with
    | none =>
      have hw := hq0.w hd
      exact looked_wait hs dn.length base v l ho hl hc i q x hq hx (hk.1.fr0 hf) hd hw.1 hk.2 hw.2.1 hw.2.2
    | some y =>
      obtain ⟨g1, g2, g3, g4, g5, _⟩ := hq0.d y hd
      exact looked_done hs dn.length base v l ho hl hc i q x hq hx (hk.1.fr0 hf) y hd g1 g3 g4 g5
  · refine looked_none hs dn.length base v l ho hl cl k hcl hk (gnum_no (by rw [hR.n]; exact hu)) (fun e => fA_no ?_) (fun e => fW_no ?_)
    all_goals
      by_cases h0 : k = 0
      · exact .inl h0
      · exact .inr (by
          have : ¬ k ≤ cs.length := fun hl => hu ⟨e, h0, hl⟩
          omega)
end Go.Proofs.Ytkiepcdncegniaa

namespace Go.Proofs.Ytkiepcdncegniaa
open Go.RowKit Go.Maps

/-- The requests among the first m that wait. -/
def wlm (cs : List SC) (m : Nat) : List Nat := (List.range m).filterMap fun j => if (cs[j]?.any fun q => q.d.isNone) then some (j + 1) else none
theorem wlm_all (cs : List SC) : wlm cs cs.length = wl cs := rfl
theorem wlm_wait {cs : List SC} {m : Nat} {q : SC} (hq : cs[m]? = some q) (hd : q.d = none) : wlm cs (m + 1) = wlm cs m ++ [m + 1] := by
  unfold wlm
  rw [List.range_succ, List.filterMap_append]
  simp [hq, hd]
theorem wlm_done {cs : List SC} {m : Nat} {q : SC} {y : AD} (hq : cs[m]? = some q) (hd : q.d = some y) : wlm cs (m + 1) = wlm cs m := by
  unfold wlm
  rw [List.range_succ, List.filterMap_append]
  simp [hq, hd]
theorem wlm_more (cs : List SC) (m : Nat) : ∀ n, ∃ r, wlm cs (m + n) = wlm cs m ++ r
  | 0 => ⟨[], by simp⟩
  | n + 1 => by
    obtain ⟨r, hr⟩ := wlm_more cs m n
    have : ∃ s, wlm cs (m + (n + 1)) = wlm cs (m + n) ++ s := by
      unfold wlm
      rw [← Nat.add_assoc, List.range_succ, List.filterMap_append]
      exact ⟨_, rfl⟩
    obtain ⟨s, hs⟩ := this
    exact ⟨r ++ s, by rw [hs, hr, List.append_assoc]⟩
/-- Where a request that waits stands among those that do. -/
theorem wl_at {cs : List SC} {m : Nat} {q : SC} (hq : cs[m]? = some q) (hd : q.d = none) : (wl cs)[(wlm cs m).length]? = some (m + 1) := by
  have hm := (List.getElem?_eq_some_iff.1 hq).1
  obtain ⟨r, hr⟩ := wlm_more cs (m + 1) (cs.length - (m + 1))
  rw [show m + 1 + (cs.length - (m + 1)) = cs.length by omega, wlm_all, wlm_wait hq hd] at hr
  rw [hr, List.append_assoc, List.getElem?_append_right (Nat.le_refl _), Nat.sub_self]
  rfl
theorem wlm_le (cs : List SC) (m : Nat) (hm : m ≤ cs.length) : (wlm cs m).length ≤ (wl cs).length := by
  obtain ⟨r, hr⟩ := wlm_more cs m (cs.length - m)
  rw [show m + (cs.length - m) = cs.length by omega, wlm_all] at hr
  rw [hr, List.length_append]
  omega
theorem wl_small (cs : List SC) (k : Nat) (h : k ∈ wl cs) : k ≤ cs.length := by
  unfold wl at h
  rw [List.mem_filterMap] at h
  obtain ⟨j, hj, e⟩ := h
  have := List.mem_range.1 hj
  split at e
  · cases e; omega
  · cases e
/-- Numbers of one's own. -/
def OwN (w : World) (base : Nat) (v : Value) (l : List Nat) : Prop := w.ownsRow base 3 1 v l.length (l.map fun k : Nat => .int .i64 (k : Nat))
theorem Try.infoNu : (Try.prog.info? 3).map (fun i => (i.zero, i.size, i.bytes)) = some (some (.int .i64 0), 1, 8) := by kernel_rfl
/-- append(l, k). -/
theorem app_num (w : World) (base : Nat) (v : Value) (l : List Nat) (k : Nat) (h : OwN w base v l) (hb : base ≤ w.heap.size) (hl : l.length ≤ 1000000000) :
    ∃ ao cap w', (Builtin.append_ #[38, 38] 38 #[v, .slice (some ⟨w.heap.size, 0, none⟩) 1 1]).run Try.prog (w.alloc (.cells #[.int .i64 (k : Nat)] 3)) = .ok (.slice ao (l.length + 1) cap) w' ∧ OwN w' base (.slice ao (l.length + 1) cap) (l ++ [k]) ∧ Fr (fun g => v.ownBlock = some g) w w' ∧
      ∀ g, (Value.slice ao (l.length + 1) cap).ownBlock = some g → v.ownBlock = some g ∨ w.heap.size ≤ g := by
  obtain ⟨i0, hi, hz0, hz1, hz2⟩ := info_parts Try.infoNu
  have hb' := ownsRow_of_block (w' := w.alloc (.cells #[.int .i64 (k : Nat)] 3)) h (fun g hg => Below.heap_alloc _ _ _ (h.lt g hg).2)
  obtain ⟨v', w', hr, h2, h3, _, h5⟩ := run_append_own_at (P := Try.prog) (w := w.alloc (.cells #[.int .i64 (k : Nat)] 3)) base 38 38 3 i0 (.int .i64 0) 1 8 Try.underlying38 hi hz0 hz1 hz2 rfl (by decide) v l.length (l.map fun k : Nat => .int .i64 (k : Nat)) hb' ⟨w.heap.size, 0, none⟩ 1 1 [.int .i64 (k : Nat)] rfl (fun j u hu => by
    rw [addr_add, World.cell?_alloc_at _ _ _ _ rfl]; simpa using hu) (fun u hu => by simp at hu; subst hu; rfl) (by simp only [maxLen]; omega) (by omega) (by simp; omega)
  obtain ⟨ao, cap, rfl⟩ := own_formX h2
  refine ⟨ao, cap, w', hr, by unfold OwN; rw [List.map_append, List.length_append, List.length_singleton]; exact h2, ((box1 w _).mono (fun _ _ h => h.elim)).grown h3 (fun g hg => .inl hg), fun g hg => ?_⟩
  rcases h5 with e | e
  · rw [e] at hg; exact .inl hg
  · rw [e] at hg; cases hg; exact .inr (by simp)
end Go.Proofs.Ytkiepcdncegniaa

namespace Go.Proofs.Ytkiepcdncegniaa
open Go.RowKit Go.Maps

/-- told, between two rounds. -/
structure TI (w4 wr : World) (DB D : Nat) (cs : List SC) (l : List RC) (m : Nat) (wv : Value) : Prop where
  f : Fr (fun g => g = DB) w4 wr
  w : OwN wr w4.heap.size wv (wlm cs m)
  d : ∃ xs, wr.ownsRow 0 3 1 (.slice (some ⟨DB, 0, none⟩) D D) D xs ∧ ∀ (i : Nat) (x : RC), i < m → l[i]? = some x → 0 < x.o → xs[x.o - 1]? = some (.int .i64 ((i : Int) + 1))
theorem flat_at {α : Type} (f : α → List Value) (z : Nat) (hz : ∀ a, (f a).length = z) : ∀ (l : List α) (i j : Nat) (x : α), l[i]? = some x → j < z → (l.flatMap f)[i * z + j]? = (f x)[j]?
  | [], i, j, x, h, _ => by simp at h
  | y :: r, 0, j, x, h, hj => by
    simp only [List.getElem?_cons_zero, Option.some.injEq] at h
    subst h
    rw [List.flatMap_cons, Nat.zero_mul, Nat.zero_add, List.getElem?_append_left (by rw [hz]; exact hj)]
  | y :: r, i + 1, j, x, h, hj => by
    have ih := flat_at f z hz r i j x (by simpa using h) hj
    rw [List.flatMap_cons, List.getElem?_append_right (by rw [hz, Nat.succ_mul]; omega), hz, ← ih]
    congr 1
    rw [Nat.succ_mul]
    omega
theorem SS.idq {w : World} {d c : Nat} {cs : List SC} {dn : List Nat} {T : Nat → Prop} (h : SS w d c cs dn T) {i : Nat} {q : SC} (hq : cs[i]? = some q) : q.r.cl = c ∧ q.r.nu = i + 1 := by
  obtain ⟨mw, ma, dv, h⟩ := h
  exact h.id i q hq
/-- What told's round looks at, where a request waits. -/
structure TW (W : World) (gh gt B K c m : Nat) (q : SC) (vv gv : Value) : Prop where
  h : W.rangeAt gh (K * 35) (hmsg (q.r.re vv))
  b : W.rangeAt B 0 (q.r.re gv).cs
  t : W.rangeAt gt (K * 35) (tmsg c (m + 1))
  i : W.rangeAt B 0 [.int .u32 (c : Nat), .int .u32 ((m : Int) + 1)]
theorem wl_le0 (cs : List SC) : (wl cs).length ≤ cs.length := by
  unfold wl
  have := List.length_filterMap_le (fun j => if (cs[j]?.any fun q => q.d.isNone) then some (j + 1) else none) (List.range cs.length)
  simpa using this
theorem told_wait {w0 w w4 wr W6 W3 : World} {d c DB D L m : Nat} {cs : List SC} {dn : List Nat} {T : Nat → Prop} {l : List RC} {R : List RQ} {hv tv wv : Value} (hs : SS w d c cs dn T) (hf : Fr (fun _ => False) w0 w) (hR : Rel w0 c cs dn l) (hf4 : Fr (fun _ => False) w W3) (hDB : w.heap.size ≤ DB) (hDB3 : DB < W3.heap.size) (hO : OutI W3 w4 c cs L hv tv R) (hL : (wl cs).length = L) (hT : TI w4 wr DB D cs l m wv) {x : RC} {q : SC} (hx : l[m]? = some x) (hq : cs[m]? = some q) (hd : q.d = none) (hb6 : W6.heap[wr.heap.size]? = some (.cells x.cs.toArray 66)) (hf6 : Fr (fun _ => False) wr W6) :
    ∃ K gh ch gt ct vv bo bc W7, (wlm cs m).length = K ∧ K < L ∧ L ≤ 4096 ∧ hv = .slice (some ⟨gh, 0, none⟩) L ch ∧ tv = .slice (some ⟨gt, 0, none⟩) L ct ∧ (Builtin.append_ #[38, 38] 38 #[wv, .slice (some ⟨W6.heap.size, 0, none⟩) 1 1]).run Try.prog (W6.alloc (.cells #[.int .i64 ((m : Int) + 1)] 3)) = .ok (.slice bo (K + 1) bc) W7 ∧ TI w4 W7 DB D cs l (m + 1) (.slice bo (K + 1) bc) ∧ (wlm cs (m + 1)).length = K + 1 ∧
      (∀ W', Fr (fun _ => False) W7 W' → TW W' gh gt wr.heap.size K c m q vv x.r.fv) ∧ (∀ W', Fr (fun _ => False) W7 W' → Calls Try.prog 39 #[.agg (hmsg (q.r.re vv)).toArray, .agg (q.r.re x.r.fv).cs.toArray] W' fun e w' => e = .returned (.bool true) ∧ Fr (fun _ => False) W' w') := by
  have hq0 := hR.q m q x hq hx
  have hok := (hR.k x (List.mem_of_getElem? hx)).1
  have hid := hs.idq hq
  obtain ⟨K, hK⟩ : ∃ K, (wlm cs m).length = K := ⟨_, rfl⟩
  have hwl := wl_at hq hd
  rw [hK] at hwl
  have hKL : K < L := by have := (List.getElem?_eq_some_iff.1 hwl).1; omega
  have hL4 : L ≤ 4096 := by have := wl_le0 cs; have := hs.len; omega
  obtain ⟨r, hr⟩ : ∃ r, R[K]? = some r := ⟨_, List.getElem?_eq_getElem (by have := hO.rl; omega)⟩
  obtain ⟨k', q', hk', hq', vv, hre, hF⟩ := hO.rr K r hr
  rw [hwl] at hk'
  cases hk'
  rw [Nat.add_sub_cancel, hq] at hq'
  cases hq'
  subst hre
  obtain ⟨gh, ch, egh, hgh, hgc⟩ := own_one_form hO.h (by omega)
  obtain ⟨gt, ct, egt, hgt, htc⟩ := own_one_form hO.t (by omega)
  have lgh := (hO.h.lt gh (by rw [egh]; rfl)).2
  have lgt := (hO.t.lt gt (by rw [egt]; rfl)).2
  have r4h : w4.rangeAt gh (K * 35) (hmsg (q.r.re vv)) := fun j u hu => hgc (K * 35 + j) u (by
    rw [flat_at hmsg 35 (fun _ => rfl) R K j _ hr (List.getElem?_eq_some_iff.1 hu).1]
    exact hu)
  have r4t : w4.rangeAt gt (K * 35) (tmsg c (m + 1)) := fun j u hu => htc (K * 35 + j) u (by
    rw [flat_at (tmsg c) 35 (fun _ => rfl) _ K j (m + 1) (by rw [List.getElem?_take_of_lt hKL]; exact hwl) (List.getElem?_eq_some_iff.1 hu).1]
    exact hu)
  have z3 := hO.fr.size
  obtain ⟨bo, bc, W7, hap, ho7, hf7, ht7⟩ := app_num W6 w4.heap.size wv (wlm cs m) (m + 1) (ownsRow_of_block hT.w (fun g hg => hf6.block g (hT.w.lt g hg).2 (fun h => h))) (Nat.le_trans hT.f.size hf6.size) (by omega)
  rw [hK] at hap ho7 ht7
  have hu5 : ∀ g, wv.ownBlock = some g → w4.heap.size ≤ g ∧ g < wr.heap.size := fun g hg => hT.w.lt g hg
  have f47 : Fr (fun g => g = DB ∨ wv.ownBlock = some g) w4 W7 := ((hT.f.mono (fun _ _ e => .inl e)).trans hf6 (fun _ _ e => e.elim)).trans hf7 (fun _ _ e => .inr e)
  refine ⟨K, gh, ch, gt, ct, vv, bo, bc, W7, hK, hKL, hL4, egh, egt, hap, ⟨?_, by rw [wlm_wait hq hd]; exact ho7, ?_⟩, by rw [wlm_wait hq hd, List.length_append, hK]; rfl, fun W' hf' => ?_, fun W' hf' => ?_⟩
  · refine (hT.f.trans hf6 (fun _ _ e => e.elim)).trans hf7 (fun g hg e => ?_)
    have := (hu5 g e).1
    omega
  · obtain ⟨xs, hrx, hxs⟩ := hT.d
    have hDw : DB < w4.heap.size := by omega
    refine ⟨xs, ownsRow_of_block hrx (fun g hg => ?_), fun i y hi hy hyo => ?_⟩
    · have hl := hrx.lt g hg
      cases hg
      exact (hf7.block DB (Nat.lt_of_lt_of_le hl.2 hf6.size) (fun e => by have := (hu5 DB e).1; omega)).trans (hf6.block DB hl.2 (fun h => h))
    · by_cases e : i = m
      · subst e
        rw [hx] at hy
        cases hy
        have := (hq0.w hd).1
        omega
      · exact hxs i y (by omega) hy hyo
  · have hx6 : W6.rangeAt wr.heap.size 0 x.cs := range_of_block hb6
    have mv : ∀ (b o : Nat) (us : List Value), b ≠ DB → b < w4.heap.size → w4.rangeAt b o us → W'.rangeAt b o us := fun b o us h1 h2 h3 j u hu => by
      have h4 := h3 j u hu
      have h5 := (f47.cell (p := ⟨b, o + j, none⟩) h2 (fun e => by
        rcases e with e | e
        · exact h1 e
        · have := (hu5 b e).1
          omega)).trans h4
      exact (hf'.cell (p := ⟨b, o + j, none⟩) (lt_of_cell h5) (fun h => h)).trans h5
    have mw : ∀ (us : List Value), (∀ j u, us[j]? = some u → x.cs[j]? = some u) → W'.rangeAt wr.heap.size 0 us := fun us hus j u hu => by
      have h4 := hx6 j u (hus j u hu)
      have h5 := (hf7.cell (p := ⟨wr.heap.size, 0 + j, none⟩) (lt_of_cell h4) (fun e => Nat.lt_irrefl _ (hu5 _ e).2)).trans h4
      exact (hf'.cell (p := ⟨wr.heap.size, 0 + j, none⟩) (lt_of_cell h5) (fun h => h)).trans h5
    have pre : ∀ j u, x.r.cs[j]? = some u → x.cs[j]? = some u := fun j u hu => by
      unfold RC.cs
      rw [List.getElem?_append_left (List.getElem?_eq_some_iff.1 hu).1]
      exact hu
    refine ⟨mv gh _ _ (by omega) lgh r4h, mw _ (fun j u hu => pre j u (by rw [hq0.r]; exact hu)), mv gt _ _ (by omega) lgt r4t, mw _ (fun j u hu => pre j u ?_)⟩
    have e1 : x.r.cl = c := (congrArg RQ.cl hq0.r).trans hid.1
    have e2 : x.r.nu = m + 1 := (congrArg RQ.nu hq0.r).trans hid.2
    have hj : j < 2 := (List.getElem?_eq_some_iff.1 hu).1
    unfold RQ.cs
    rw [e1, e2]
    match j, hj with
    | 0, _ => exact hu
    | 1, _ => exact hu
  · have zw := hf.size
    have z43 := hf4.size
    have f0r : Fr (fun _ => False) w0 wr := ((hf.trans0 hf4).trans0 hO.fr).trans hT.f (fun g hg e => by omega)
    have fw : Fr (fun _ => False) w0 W' := ((f0r.trans0 hf6).trans hf7 (fun g hg e => by have := (hu5 g e).1; omega)).trans0 hf'
    have fv : Fds W' vv q.F := OwF.fds ((hF.fr f47 (fun g hg e => by
      have h1 := hF.lt g hg
      rcases e with e | e
      · omega
      · have := (hu5 g e).1
        omega)).fr hf' (fun _ _ h => h))
    have gv : Fds W' x.r.fv q.F := by rw [← hq0.F]; exact rd_fds (hok.f.fr0 fw)
    exact requested_true q.r vv x.r.fv q.F W' fv gv (by rw [← hq0.F]; exact hok.fl)
end Go.Proofs.Ytkiepcdncegniaa

namespace Go.Proofs.Ytkiepcdncegniaa
open Go.RowKit Go.Maps

theorem wpList_mkN {P : Program} {w w' : World} {ops : Array Oper} {rest : List Oper} {op : Oper} {a : Act} {Q : Exit → Act → World → Prop} (hgd : op.guard = none) (ty : TypeId) (x y : Operand) (ho : op.op = .makeSlice ty x y) (vx vy v : Value) (hx : a.eval x = vx) (hy : a.eval y = vy) (hr : (Instr.makeSlice ty vx vy).run P w = .ok v w')
    (h : wpList P ops Q rest (a.put op.dst v) w') : wpList P ops Q (op :: rest) a w :=
  wpList_plain hgd fun _ hK => by
    unfold Oper.wp execOp
    simp only [ho, hx, hy, Sem.run_bind, hr, Result.andThen_ok, Sem.run_pure]
    exact hK _ _ h
set_option maxRecDepth 100000 in
set_option maxHeartbeats 16000000 in
theorem told_any {w0 w : World} {d c : Nat} {cs : List SC} {dn : List Nat} {T : Nat → Prop} {l : List RC} (hs : SS w d c cs dn T) (hf : Fr (fun _ => False) w0 w) (base : Nat) (v : Value) (ho : OwC w base v l) (hR : Rel w0 c cs dn l) (hdl : dn.length ≤ 1048575) :
    Calls Try.prog 24 #[.pointer (some ⟨d, 0, none⟩), .agg #[.int .u32 (c : Nat), v, .int .i64 (dn.length : Nat)]] w fun e w' => e = .returned (.bool true) ∧ Fr (fun _ => False) w w' := by
  obtain ⟨ao, cap, rfl⟩ := own_formX ho
  obtain ⟨N, hN⟩ : ∃ N, l.length = N := ⟨_, rfl⟩
  obtain ⟨D, hD⟩ : ∃ D, dn.length = D := ⟨_, rfl⟩
  have hl : N ≤ 4096 := by rw [← hN, hR.n]; exact hs.len
  have HO := hide ho
  have HSS := hide hs
  have HRL := hide hR
  have HNN := hide (And.intro hN hD)
  have HF0 := hide hf
  rw [hN] at HO ⊢
  rw [hD] at hdl ⊢
  obtain ⟨W1, hW1⟩ : ∃ W1, w.alloc (.cells #[.int .u32 (c : Nat), .slice ao N cap, .int .i64 (D : Nat)] 60) = W1 := ⟨_, rfl⟩
  have hf1 : Fr (fun _ => False) w W1 := by rw [← hW1]; exact box1 w _
  have hb0 : W1.heap[w.heap.size]? = some (.cells #[.int .u32 (c : Nat), .slice ao N cap, .int .i64 (D : Nat)] 60) := by rw [← hW1]; exact heap_alloc_new w _
  have hz1 : W1.heap.size = w.heap.size + 1 := by rw [← hW1]; simp
  have c2 : W1.cell? ⟨w.heap.size, 2, none⟩ = some (.int .i64 (D : Nat)) := cell_of_blk hb0 rfl
  obtain ⟨DB, hDB⟩ : ∃ DB, W1.heap.size = DB := ⟨_, rfl⟩
  obtain ⟨i0, hi, hz0, hzz, hz2⟩ := info_parts Try.infoNu
  obtain ⟨W2, hrun, hrow, hgr⟩ := run_makeSlice_full (P := Try.prog) (w := W1) W1.heap.size 38 3 i0 (.int .i64 0) 1 Try.underlying38 hi hz0 hzz .i64 .i64 D (by omega) (by rw [hz2]; omega) (by simp only [maxLen]; omega) (Nat.le_refl _)
  have hf12 : Fr (fun _ => False) W1 W2 := (Fr.refl (fun _ => False) W1).grown hgr (fun g hg => by cases hg)
  rw [hDB] at hrun hrow
  have HMK := hide hrun
  have HB := hide (And.intro hb0 (And.intro (hf1.trans0 hf12) (And.intro hrow (And.intro hf12 (hz1.symm.trans hDB)))))
  have HOU := hide (((unhide HSS).fr0 (hf1.trans0 hf12)).out)
  clear hs hf ho hR hN hD hf1 hb0 hz1 hrun hrow hgr hf12 hi hz0 hzz hz2
  go_enter Try.func24, Try.ntmps24
  go_wp2_with (refine wpList_mkN rfl 38 (.tmp 13) (.tmp 13) rfl _ _ _ (by simp [Act.eval]) (by simp [Act.eval]) (unhide HMK) ?_)
  refine (unhide HOU).mono ?_
  rintro e w4 ⟨hv, tv, rfl, W3, R, hfo, hO⟩
  obtain ⟨ho, hc, rfl⟩ := own_formX hO.h
  obtain ⟨to_, tc, rfl⟩ := own_formX hO.t
  obtain ⟨L, hL⟩ : ∃ L, (wl cs).length = L := ⟨_, rfl⟩
  rw [hL] at hO ⊢
  have HOI := hide (And.intro hO (And.intro hfo hL))
  have HTI : Hid (TI w4 w4 DB D cs l 0 (.slice none 0 0)) := hide ⟨Fr.refl _ _, World.ownsRow_nil _ _ _ _, ⟨_, ownsRow_base (ownsRow_of_block (unhide HB).2.2.1 (fun g hg => (hfo.trans0 hO.fr).block g ((unhide HB).2.2.1.lt g hg).2 (fun h => h))) (Nat.zero_le _), fun i x hi => absurd hi (Nat.not_lt_zero _)⟩⟩
  clear HOU HMK hO hfo hL c2 hW1
  go_upto_block 0 with fail
  go_cut [5, 9, 10, 11] from 20 to 78 (fun wv kv _ _ wr => kv = .int .i64 (L : Nat) ∧ TI w4 wr DB D cs l N wv)
  case first =>
    go_wp2_with fail
    go_loopw [5, 9, 10, 11] (fun wv kv iv _ wr => ∃ m : Nat, m ≤ N ∧ iv = .int .i64 ((m : Int) + 1) ∧ kv = .int .i64 ((wlm cs m).length : Nat) ∧ TI w4 wr DB D cs l m wv) (fun _ _ iv _ _ => N + 1 - (intOf iv).toNat)
    case atStart => exact ⟨0, Nat.zero_le _, rfl, rfl, unhide HTI⟩
    case round =>
      clear HTI
      obtain ⟨m, hm, rfl, rfl, hT⟩ := hrel
      rename World => wr
      have HT := hide hT
      have hfw : Fr (fun g => g = DB) w wr := (((unhide HB).2.1.trans0 ((unhide HOI).2.1.trans0 (unhide HOI).1.fr)).mono (fun _ _ e => e.elim)).trans hT.f (fun _ _ e => e)
      have hnw : ∀ g, g < w.heap.size → g ≠ DB := fun g hg e => by have := (unhide HB).2.2.2.2; omega
      have hbr : wr.heap[w.heap.size]? = some (.cells #[.int .u32 (c : Nat), .slice ao N cap, .int .i64 (D : Nat)] 60) := by
        have h1 := (((unhide HB).2.2.2.1.trans0 ((unhide HOI).2.1.trans0 (unhide HOI).1.fr)).block _ (lt_of_block (unhide HB).1) (fun h => h)).trans (unhide HB).1
        exact (hT.f.block _ (lt_of_block h1) (fun e => by have := (unhide HB).2.2.2.2; omega)).trans h1
      have c1 : wr.cell? ⟨w.heap.size, 1, none⟩ = some (.slice ao N cap) := cell_of_blk hbr rfl
      have HFW := hide (And.intro hfw (And.intro hnw hbr))
      clear hT hfw hnw hbr
      by_cases hlt : m < N
      · have l1 : (m : Int) + 1 ≤ (N : Int) := by omega
        have l3 : (0 : Int) ≤ (m : Int) := by omega
        have l4 : (m : Int) < (N : Int) := by omega
        have hwi : wrap64 ((m : Int) + 1 - 1) = (m : Int) := by unfold wrap64; omega
        have hw2 : wrap64 ((m : Int) + 1 + 1) = (m : Int) + 1 + 1 := by unfold wrap64; omega
        obtain ⟨x, hx⟩ : ∃ x, l[m]? = some x := ⟨_, List.getElem?_eq_getElem (by have := (unhide HNN).1; omega)⟩
        obtain ⟨q, hq⟩ : ∃ q, cs[m]? = some q := ⟨_, List.getElem?_eq_getElem (by have := (unhide HNN).1; have := (unhide HRL).n; omega)⟩
        have hq0 := (unhide HRL).q m q x hq hx
        have hok := ((unhide HRL).k x (List.mem_of_getElem? hx)).1
        have hrow := unhide HO
        unfold OwC at hrow
        rw [(unhide HNN).1] at hrow
        obtain ⟨g, cp, eg, _, hg⟩ := own_one_form hrow (by omega)
        cases eg
        have hcx : wr.rangeAt g (m * 20) x.cs := fun j u hu => by
          have h20 : j < 20 := by have := (List.getElem?_eq_some_iff.1 hu).1; rwa [RC.len] at this
          have h1 := hg (m * 20 + j) u (by rw [ccells_at l m j x hx h20]; exact hu)
          exact ((unhide HFW).1.cell (p := ⟨g, m * 20 + j, none⟩) (lt_of_cell h1) ((unhide HFW).2.1 g (lt_of_cell h1))).trans h1
        have H1 := hide hok.one
        have HQ := hide (And.intro hq (And.intro hx hq0))
        obtain ⟨⟨xcl, xnu, xac, xop, xrc, xve, xwa, xow, xfv, xrs⟩, xF, xo, ⟨xdl, xdn, xdo, xdr, xdv, xgv, xhv⟩, xG, xK, xc, xb⟩ := x
        obtain ⟨xfo, xfc, e, _⟩ := hok.f.f
        simp only at e
        subst e
        obtain ⟨xgo, xgc, e, _⟩ := hok.g.f
        simp only at e
        subst e
        obtain ⟨xho, xhc, e, _⟩ := hok.k.f
        simp only at e
        subst e
        have HOK := hide hok
        simp only [RC.cs, RQ.cs, AN.cs, List.cons_append, List.nil_append] at hcx
        have HR5 := hide hcx
        obtain ⟨W6, hst6, hb6, hf6⟩ := st_all (P := Try.prog) (ty := 66) [.int .u32 0, .int .u32 0, .int .u32 0, .int .u8 0, .int .u32 0, .int .u32 0, .int .u32 0, .int .u32 0, .slice none 0 0, .string ⟨#[]⟩, .int .i64 0, .int .u32 0, .int .u32 0, .int .u8 0, .int .u32 0, .int .u32 0, .slice none 0 0, .slice none 0 0, .int .u8 0, .int .i64 0] [.int .u32 (xcl : Nat), .int .u32 (xnu : Nat), .int .u32 (xac : Nat), .int .u8 (xop : Nat), .int .u32 (xrc : Nat), .int .u32 (xve : Nat), .int .u32 (xwa : Nat), .int .u32 (xow : Nat), (.slice xfo xF.length xfc), .string xrs, .int .i64 (xo : Nat), .int .u32 (xdl : Nat), .int .u32 (xdn : Nat), .int .u8 (xdo : Nat), .int .u32 (xdr : Nat), .int .u32 (xdv : Nat), (.slice xgo xG.length xgc), (.slice xho xK.length xhc), .int .u8 (xc : Nat), .int .i64 (xb : Nat)] (heap_alloc_new wr (.cells #[.int .u32 0, .int .u32 0, .int .u32 0, .int .u8 0, .int .u32 0, .int .u32 0, .int .u32 0, .int .u32 0, .slice none 0 0, .string ⟨#[]⟩, .int .i64 0, .int .u32 0, .int .u32 0, .int .u8 0, .int .u32 0, .int .u32 0, .slice none 0 0, .slice none 0 0, .int .u8 0, .int .i64 0] 66)) rfl Try.sizeCl (unhide H1)
        have hf56 : Fr (fun _ => False) wr W6 := (box1 wr _).trans hf6 (fun g hg e => by omega)
        have d10 : W6.cell? ⟨wr.heap.size, 10, none⟩ = some (.int .i64 (xo : Nat)) := cell_of_blk hb6 rfl
        have HST6 := hide hst6
        have HB6 := hide (And.intro hb6 hf56)
        obtain ⟨XS, hXS⟩ : ∃ XS : List Value, XS = [.int .u32 (xcl : Nat), .int .u32 (xnu : Nat), .int .u32 (xac : Nat), .int .u8 (xop : Nat), .int .u32 (xrc : Nat), .int .u32 (xve : Nat), .int .u32 (xwa : Nat), .int .u32 (xow : Nat), (.slice xfo xF.length xfc), .string xrs, .int .i64 (xo : Nat), .int .u32 (xdl : Nat), .int .u32 (xdn : Nat), .int .u8 (xdo : Nat), .int .u32 (xdr : Nat), .int .u32 (xdv : Nat), (.slice xgo xG.length xgc), (.slice xho xK.length xhc), .int .u8 (xc : Nat), .int .i64 (xb : Nat)] := ⟨_, rfl⟩
        rw [← hXS] at HR5 HST6
        have hsx : (Try.prog.info? 66).map (·.size) = some XS.length := by rw [hXS]; exact Try.sizeCl
        clear hXS hst6 hb6 hf6 hf56 hcx hrow hg hok hx hq
        by_cases hxo : 0 < xo
        · have e1 : (0 : Int) < (xo : Int) := by omega
          obtain ⟨hq, hx, hq0⟩ := unhide HQ
          obtain ⟨y, hd⟩ : ∃ y, q.d = some y := by
            cases hd : q.d with
            | none => have := (hq0.w hd).1; simp only at this; omega
            | some y => exact ⟨y, rfl⟩
          obtain ⟨_, g2, _⟩ := hq0.d y hd
          simp only at g2
          obtain ⟨j, rfl⟩ : ∃ j, xo = j + 1 := ⟨xo - 1, by omega⟩
          rw [Nat.add_sub_cancel] at g2
          have hjD : j < D := by have := (List.getElem?_eq_some_iff.1 g2).1; have := (unhide HNN).2; omega
          have hwj : wrap64 ((j : Int) + 1 - 1) = (j : Int) := by unfold wrap64; omega
          have l5 : (0 : Int) ≤ (j : Int) := by omega
          have l6 : (j : Int) < (D : Int) := by omega
          obtain ⟨xs, hrx, hxs⟩ := (unhide HT).d
          have hrx6 := ownsRow_of_block hrx (fun g hg => (unhide HB6).2.block g (hrx.lt g hg).2 (fun h => h))
          obtain ⟨⟨zz, hzz⟩, zf⟩ := own_cell hrx6 (j := j) (by omega)
          obtain ⟨W7, hW7⟩ : ∃ W7, W6.setCell ⟨DB, j, none⟩ (.int .i64 ((m : Int) + 1)) = W7 := ⟨_, rfl⟩
          have hz4 : DB < w4.heap.size := by
            have h1 := ((unhide HB).2.2.1.lt DB rfl).2
            have h2 := ((unhide HOI).2.1.trans0 (unhide HOI).1.fr).size
            omega
          have HT7 : Hid (TI w4 W7 DB D cs l (m + 1) u5) := hide (by
            have f67 : Fr (fun g => g = DB) W6 W7 := by rw [← hW7]; exact (Fr.refl (fun g => g = DB) _).setCell (p := ⟨DB, j, none⟩) (.inl rfl) _
            have f47 : Fr (fun g => g = DB) wr W7 := ((unhide HB6).2.mono (fun _ _ e => e.elim)).trans f67 (fun _ _ e => e)
            refine ⟨(unhide HT).f.trans f47 (fun _ _ e => e), ?_, ⟨_, by rw [← hW7]; exact own_set hrx6 rfl j (.int .i64 ((m : Int) + 1)), fun i x hi hxi hxo => ?_⟩⟩
            · rw [wlm_done hq hd]
              exact ownsRow_of_block (unhide HT).w (fun g hg => f47.block g ((unhide HT).w.lt g hg).2 (fun e => by have := ((unhide HT).w.lt g hg).1; omega))
            · have hxl : j < xs.length := by have := hrx.1; omega
              by_cases e : i = m
              · subst e
                rw [hx] at hxi
                cases hxi
                simp only [Nat.add_sub_cancel]
                exact List.getElem?_set_self hxl
              · obtain ⟨q2, hq2⟩ : ∃ q2, cs[i]? = some q2 := ⟨_, List.getElem?_eq_getElem (by have := (List.getElem?_eq_some_iff.1 hq).1; omega)⟩
                have hr2 := (unhide HRL).q i q2 x hq2 hxi
                obtain ⟨y2, hd2⟩ : ∃ y, q2.d = some y := by
                  cases hd2 : q2.d with
                  | none => have := (hr2.w hd2).1; omega
                  | some y => exact ⟨y, rfl⟩
                have g3 := (hr2.d y2 hd2).2.1
                rw [List.getElem?_set_ne (fun e2 => by rw [← e2, g2] at g3; simp at g3; omega)]
                exact hxs i x (by omega) hxi hxo)
          have hkl : (wlm cs (m + 1)).length = (wlm cs m).length := by rw [wlm_done hq hd]
          clear hq hx hq0 g2 hrx hrx6 hxs HQ
          go_wp2_with (first | refine wpList_allocN rfl 66 rfl _ (alloc_cl wr) ?_ | refine wpList_load_mid rfl 66 (.tmp 31) rfl g (m * 20) rfl _ _ (unhide HR5) Try.underlying66 rfl hsx ?_ | refine wpList_stN rfl 66 (.tmp 11) (.tmp 32) rfl _ _ rfl rfl (unhide HST6) ?_)
          go_roundw
          case rel => exact ⟨m + 1, by omega, by go_num, by rw [hkl], unhide HT7⟩
          case measure => simp [intOf]; omega
        · obtain ⟨hq, hx, hq0⟩ := unhide HQ
          have hd : q.d = none := by
            cases hd : q.d with
            | none => rfl
            | some y => exact absurd (hq0.d y hd).1 hxo
          have e1 : ¬ (0 : Int) < (xo : Int) := fun h => hxo (Int.ofNat_lt.1 h)
          obtain ⟨K, gh, ch, gt, ct, vv, bo, bc, W7, hK, hKL, hL4, egh, egt, hap, hT7, hkl, hTW, hRQ⟩ := told_wait (unhide HSS) (unhide HF0) (unhide HRL) ((unhide HB).2.1.trans0 (unhide HOI).2.1) (Nat.le_trans (Nat.le_succ _) (Nat.le_of_eq (unhide HB).2.2.2.2)) (Nat.lt_of_lt_of_le ((unhide HB).2.2.1.lt DB rfl).2 (unhide HOI).2.1.size) (unhide HOI).1 (unhide HOI).2.2 (unhide HT) hx hq hd (unhide HB6).1 (unhide HB6).2
          cases egh
          cases egt
          simp only at hTW hRQ
          have HAP := hide hap
          have HT7 := hide hT7
          have HS : Hid (∀ W', Fr (fun _ => False) W7 W' → (fun W : World => TW W gh gt wr.heap.size K c m q vv (.slice xfo xF.length xfc)) W') := hide hTW
          have HRQ := hide hRQ
          have HKL := hide hkl
          rw [hK]
          clear hq hx hq0 hd hK hap hT7 hTW hRQ hkl HQ H1 HOK HB6 HT HFW
          have lK : ¬ (L : Int) ≤ (K : Int) := fun h => Nat.not_lt.2 (Int.ofNat_le.1 h) hKL
          have lK2 : (K : Int) < (L : Int) := Int.ofNat_lt.2 hKL
          have lK3 : (0 : Int) ≤ (K : Int) := Int.natCast_nonneg K
          have hwK := wrapS K (Nat.le_trans (Nat.le_of_lt hKL) (Nat.le_trans hL4 (by decide)))
          go_wp2_with (first | refine wpList_allocN rfl 66 rfl _ (alloc_cl wr) ?_ | refine wpList_load_mid rfl 66 (.tmp 31) rfl g (m * 20) rfl _ _ (unhide HR5) Try.underlying66 rfl hsx ?_ | refine wpList_stN rfl 66 (.tmp 11) (.tmp 32) rfl _ _ rfl rfl (unhide HST6) ?_ | refine wpList_app rfl (.tmp 42) (.tmp 44) 38 38 rfl _ _ _ (by simp [Act.eval]) (by simp [Act.eval]) (unhide HAP) ?_)
          have lKn : ¬ (L : Int) ≤ (K : Int) := fun h => Nat.not_lt.2 (Int.ofNat_le.1 h) hKL
          have lKb : decide ((L : Int) ≤ (K : Int)) = false := decide_eq_false lKn
          refine wp_region_held_drew (S := (fun W : World => TW W gh gt wr.heap.size K c m q vv (.slice xfo xF.length xfc))) (by kernel_rfl) ((unhide HS) _ (Fr.refl _ _).drew) (fun hHeld => ?_)
          refine wtk2 (i := 0) rfl hHeld ?_
          (try simp only [Act.put, nrm])
          refine wtk2 (i := 1) rfl hHeld ?_
          (try simp only [Act.put, nrm])
          refine wtk2 (i := 2) rfl hHeld ?_
          (try simp only [Act.put, nrm])
          refine wtk2 (i := 3) rfl hHeld ?_
          (try simp only [Act.put, nrm])
          refine wtk2 (i := 4) rfl hHeld ?_
          (try simp only [Act.put, nrm])
          refine wtk2 (i := 5) rfl hHeld ?_
          (try simp only [Act.put, nrm])
          refine wtk2 (i := 6) rfl hHeld ?_
          (try simp only [Act.put, nrm])
          refine wtk2 (i := 7) rfl hHeld ?_
          (try simp only [Act.put, nrm])
          refine wtk2 (i := 8) rfl hHeld ?_
          (try simp only [Act.put, nrm])
          refine wtk2 (i := 9) rfl hHeld ?_
          (try simp only [Act.put, nrm])
          refine wtk2 (i := 10) rfl hHeld ?_
          (try simp only [Act.put, nrm])
          refine wtk2 (i := 11) rfl hHeld ?_
          (try simp only [Act.put, nrm])
          refine wtk2 (i := 12) rfl hHeld ?_
          (try simp only [Act.put, nrm])
          refine wtk2 (i := 13) rfl hHeld ?_
          (try simp only [Act.put, nrm])
          refine wtk (i := 14) rfl (yieldsIf_load_mid rfl 49 (.tmp 59) rfl gh (K * 35) rfl _ _ (fun w h => h.h) Try.underlying49 rfl Try.sizeMs) hHeld ?_
          (try simp only [Act.put, nrm])
          refine wtk2 (i := 15) rfl hHeld ?_
          (try simp only [Act.put, nrm])
          refine wtk (i := 16) rfl (yieldsIf_load_mid rfl 34 (.tmp 61) rfl wr.heap.size 0 rfl _ _ (fun w h => h.b) Try.underlying34 rfl Try.sizeRq) hHeld ?_
          (try simp only [Act.put, nrm])
          refine wpAnyH_ready (rs := [17]) (by kernel_rfl) (by simp) (AllReadyH.cons rfl (fun K hK => ?_) AllReadyH.nil)
          go_simp
          refine ((unhide HRQ) _ (Fr.refl _ _).drew).mono ?_
          rintro e w8 ⟨rfl, hf8⟩
          have hf78 : Fr (fun _ => False) W7 w8 := (Fr.refl _ _).drew.trans0 hf8
          clear hf8
          try dsimp only
          refine hK.out _ _ ((unhide HS) _ hf78) (fun hHeld => ?_)
          clear hK K
          (try simp only [Act.put, nrm])
          refine wtk2 (i := 18) rfl hHeld ?_
          (try simp only [Act.put, nrm])
          refine wtk2 (i := 19) rfl hHeld ?_
          (try simp only [Act.put, nrm])
          refine wtk2 (i := 20) rfl hHeld ?_
          (try simp only [Act.put, nrm])
          refine wtk2 (i := 21) rfl hHeld ?_
          (try simp only [Act.put, nrm])
          refine wtk2 (i := 22) rfl hHeld ?_
          (try simp only [Act.put, nrm])
          refine wtk2 (i := 23) rfl hHeld ?_
          (try simp only [Act.put, nrm])
          refine wtk (i := 24) rfl (yieldsIf_load_mid rfl 49 (.tmp 69) rfl gt (K * 35) rfl _ _ (fun w h => h.t) Try.underlying49 rfl Try.sizeMs) hHeld ?_
          (try simp only [Act.put, nrm])
          refine wtk2 (i := 25) rfl hHeld ?_
          (try simp only [Act.put, nrm])
          refine wtk2 (i := 26) rfl hHeld ?_
          (try simp only [Act.put, nrm])
          refine wtk (i := 27) rfl (yieldsIf_load_mid rfl 29 (.tmp 72) rfl wr.heap.size 0 rfl _ _ (fun w h => h.i) Try.underlying29 rfl Try.sizeId2) hHeld ?_
          (try simp only [Act.put, nrm])
          refine wpAnyH_ready (rs := [28]) (by kernel_rfl) (by simp) (AllReadyH.cons rfl (fun K hK => ?_) AllReadyH.nil)
          have HAK : Hid (Calls Try.prog 40 #[.agg (tmsg c (m + 1)).toArray, .agg #[.int .u32 (c : Nat), .int .u32 ((m : Int) + 1)]] w8 fun e w' => e = .returned (.bool true) ∧ Fr (fun _ => False) w8 w') := hide (asked_true c (m + 1) w8)
          go_simp
          refine (unhide HAK).mono ?_
          clear HAK
          rintro e w9 ⟨rfl, hf9⟩
          have hf79 : Fr (fun _ => False) W7 w9 := hf78.trans0 hf9
          clear hf9
          try dsimp only
          refine hK.out _ _ ((unhide HS) _ hf79) (fun hHeld => ?_)
          clear hK K
          (try simp only [Act.put, nrm])
          refine wtk2 (i := 29) rfl hHeld ?_
          (try simp only [Act.put, nrm])
          refine wtk2 (i := 30) rfl hHeld ?_
          (try simp only [Act.put, nrm])
          refine wpAnyH_done (by kernel_rfl) ?_ _
          have HT9 : Hid (TI w4 w9 DB D cs l (m + 1) (.slice bo (K + 1) bc)) := hide ⟨(unhide HT7).f.trans hf79 (fun _ _ e => e.elim), ownsRow_of_block (unhide HT7).w (fun g hg => hf79.block g ((unhide HT7).w.lt g hg).2 (fun h => h)), by
            obtain ⟨xs, hrx, hxs⟩ := (unhide HT7).d
            exact ⟨xs, ownsRow_of_block hrx (fun g hg => hf79.block g (hrx.lt g hg).2 (fun h => h)), hxs⟩⟩
          clear hHeld HS HRQ hf78 hf79 HT7
          go_wp2_with fail
          go_roundw
          case rel => exact ⟨m + 1, hlt, by go_num, by rw [unhide HKL, hwK]; rfl, unhide HT9⟩
          case measure => simp [intOf]; omega

      · obtain rfl : m = N := by omega
        have l1 : ¬ (m : Int) + 1 ≤ (m : Int) := by omega
        have hkl : (wlm cs m).length = L := by
          have h1 := (unhide HNN).1
          have h2 := (unhide HRL).n
          rw [show m = cs.length by omega, wlm_all]
          exact (unhide HOI).2.2
        rw [hkl]
        go_wp2_with fail
        go_meet
        case rel => exact ⟨rfl, unhide HT⟩
  case rest =>
    obtain ⟨e9, hT⟩ := hcut
    subst e9
    have hDw := (unhide HB).2.2.2.2
    have hfw : Fr (fun g => g = DB) w wc := (((unhide HB).2.1.trans0 ((unhide HOI).2.1.trans0 (unhide HOI).1.fr)).mono (fun _ _ e => e.elim)).trans hT.f (fun _ _ e => e)
    have HFZ : Hid (Fr (fun _ => False) w wc) := hide ((Fr.refl (fun _ => False) w).trans hfw (fun g hg e => by omega))
    have HSC := hide ((unhide HSS).fr hfw (fun g hg e => by have := (unhide HSS).lt g hg; omega))
    have hbr : wc.heap[w.heap.size]? = some (.cells #[.int .u32 (c : Nat), .slice ao N cap, .int .i64 (D : Nat)] 60) := by
      have h1 := (((unhide HB).2.2.2.1.trans0 ((unhide HOI).2.1.trans0 (unhide HOI).1.fr)).block _ (lt_of_block (unhide HB).1) (fun h => h)).trans (unhide HB).1
      exact (hT.f.block _ (lt_of_block h1) (fun e => by omega)).trans h1
    have hNc : N = cs.length := by have h1 := (unhide HNN).1; have h2 := (unhide HRL).n; omega
    have hwt := hT.w
    rw [hNc, wlm_all] at hwt
    have hL := (unhide HOI).2.2
    obtain ⟨wo, wk, ew⟩ := own_formX hwt
    rw [hL] at ew
    subst ew
    obtain ⟨xs, hrx, hxs⟩ := hT.d
    have hxe : xs = dn.map (fun k : Nat => Value.int .i64 (k : Nat)) := by
      have hxl := hrx.1
      have hdD := (unhide HNN).2
      apply List.ext_getElem?
      intro j
      by_cases hj : j < D
      · obtain ⟨k, hk⟩ : ∃ k, dn[j]? = some k := ⟨_, List.getElem?_eq_getElem (by omega)⟩
        obtain ⟨i, x, e1, e2, e3⟩ := (unhide HRL).g j k hk
        have h4 := hxs i x (by have := (List.getElem?_eq_some_iff.1 e2).1; have := (unhide HNN).1; omega) e2 (by omega)
        rw [e3, Nat.add_sub_cancel] at h4
        rw [h4, List.getElem?_map, hk, e1]
        rfl
      · rw [List.getElem?_eq_none (by omega), List.getElem?_eq_none (by rw [List.length_map]; omega)]
    rw [hxe] at hrx
    have one1 : ∀ (l : List Nat), ∀ u ∈ l.map (fun k : Nat => Value.int .i64 (k : Nat)), u.oneCell' = true := fun l u hu => by
      obtain ⟨k, _, rfl⟩ := List.mem_map.1 hu
      rfl
    have one2 : ∀ (l : List (Nat × Nat)), ∀ u ∈ icells l, u.oneCell' = true := fun l u hu => by
      simp only [icells, List.mem_flatMap] at hu
      obtain ⟨f, _, hu⟩ := hu
      simp at hu
      rcases hu with rfl | rfl <;> rfl
    have HWT : Hid (∀ W', Fr (fun _ => False) wc W' → Rd W' (.slice wo L wk) (wl cs).length 1 ((wl cs).map fun k : Nat => .int .i64 (k : Nat))) := hide (fun W' hf' => (own_rd hwt (one1 _)).fr0 hf')
    have HDT : Hid (∀ W', Fr (fun _ => False) wc W' → Rd W' (.slice (some ⟨DB, 0, none⟩) D D) dn.length 1 (dn.map fun k : Nat => .int .i64 (k : Nat))) := hide (fun W' hf' => by rw [(unhide HNN).2]; exact (own_rd hrx (one1 _)).fr0 hf')
    have HS : Hid (∀ W', Fr (fun _ => False) wc W' → (fun W : World => W.cell? ⟨w.heap.size, 0, none⟩ = some (.int .u32 (c : Nat))) W') := hide (fun W' hf' => cell_of_blk ((hf'.block _ (lt_of_block hbr) (fun h => h)).trans hbr) rfl)
    have HON := hide one2
    have hsl := hl
    clear hT hfw hbr hNc hwt hrx hxs hxe one1 one2 hDw hL HB HTI
    go_wp2_with fail
    refine wp_region_held_drew (S := (fun W : World => W.cell? ⟨w.heap.size, 0, none⟩ = some (.int .u32 (c : Nat)))) (by kernel_rfl) ((unhide HS) _ (Fr.refl _ _).drew) (fun hHeld => ?_)
    refine wtk2 (i := 0) rfl hHeld ?_
    (try simp only [Act.put, nrm])
    refine wtk2 (i := 1) rfl hHeld ?_
    (try simp only [Act.put, nrm])
    refine wtk2 (i := 2) rfl hHeld ?_
    (try simp only [Act.put, nrm])
    refine wtk2 (i := 3) rfl hHeld ?_
    (try simp only [Act.put, nrm])
    refine wtk2 (i := 4) rfl hHeld ?_
    (try simp only [Act.put, nrm])
    refine wtk2 (i := 5) rfl hHeld ?_
    (try simp only [Act.put, nrm])
    refine wtk2 (i := 6) rfl hHeld ?_
    (try simp only [Act.put, nrm])
    refine wtk2 (i := 7) rfl hHeld ?_
    (try simp only [Act.put, nrm])
    refine wtk2 (i := 8) rfl hHeld ?_
    (try simp only [Act.put, nrm])
    refine wtk2 (i := 9) rfl hHeld ?_
    (try simp only [Act.put, nrm])
    refine wtk2 (i := 10) rfl hHeld ?_
    (try simp only [Act.put, nrm])
    refine wtk2 (i := 11) rfl hHeld ?_
    (try simp only [Act.put, nrm])
    refine wtk2 (i := 13) rfl hHeld ?_
    (try simp only [Act.put, nrm])
    refine wtk2 (i := 14) rfl hHeld ?_
    (try simp only [Act.put, nrm])
    refine wtk2 (i := 15) rfl hHeld ?_
    (try simp only [Act.put, nrm])
    refine wpAnyH_ready (rs := [12]) (by kernel_rfl) (by simp) (AllReadyH.cons rfl (fun K hK => ?_) AllReadyH.nil)
    go_simp
    refine ((unhide HSC).fr0 (Fr.refl _ _).drew).waiting.mono ?_
    rintro e w8 ⟨v8, rfl, ho8, hf8⟩
    have h8 : Fr (fun _ => False) wc w8 := (Fr.refl _ _).drew.trans0 hf8
    have HV8 : Hid (Rd w8 v8 (wl cs).length 2 (icells ((wl cs).map fun k => (c, k)))) := hide (by
      have := own_rd ho8 ((unhide HON) _)
      rwa [List.length_map] at this)
    clear ho8 hf8
    try dsimp only
    refine hK.out _ _ ((unhide HS) _ h8) (fun hHeld => ?_)
    clear hK K
    (try simp only [Act.put, nrm])
    refine wpAnyH_ready (rs := [16]) (by kernel_rfl) (by simp) (AllReadyH.cons rfl (fun K hK => ?_) AllReadyH.nil)
    have HI := hide (ids_true v8 (.slice wo L wk) c (wl cs) w8 (unhide HV8) ((unhide HWT) w8 h8) (by have := wl_le0 cs; have := (unhide HSS).len; omega) (fun k hk => by have := wl_small cs k hk; have := (unhide HSS).len; omega))
    go_simp
    refine (unhide HI).mono ?_
    clear HI
    rintro e w9 ⟨rfl, hf9⟩
    have h9 : Fr (fun _ => False) wc w9 := h8.trans0 hf9
    clear hf9
    try dsimp only
    refine hK.out _ _ ((unhide HS) _ h9) (fun hHeld => ?_)
    clear hK K
    (try simp only [Act.put, nrm])
    refine wtk2 (i := 17) rfl hHeld ?_
    (try simp only [Act.put, nrm])
    refine wtk2 (i := 18) rfl hHeld ?_
    (try simp only [Act.put, nrm])
    refine wtk2 (i := 19) rfl hHeld ?_
    (try simp only [Act.put, nrm])
    refine wtk2 (i := 21) rfl hHeld ?_
    (try simp only [Act.put, nrm])
    refine wtk2 (i := 22) rfl hHeld ?_
    (try simp only [Act.put, nrm])
    refine wtk2 (i := 23) rfl hHeld ?_
    (try simp only [Act.put, nrm])
    refine wpAnyH_ready (rs := [20]) (by kernel_rfl) (by simp) (AllReadyH.cons rfl (fun K hK => ?_) AllReadyH.nil)
    go_simp
    refine ((unhide HSC).fr0 h9).done.mono ?_
    rintro e w10 ⟨v10, rfl, ho10, hf10⟩
    have h10 : Fr (fun _ => False) wc w10 := h9.trans0 hf10
    have HV10 : Hid (Rd w10 v10 dn.length 2 (icells (dn.map fun k => (c, k)))) := hide (by
      have := own_rd ho10 ((unhide HON) _)
      rwa [List.length_map] at this)
    clear ho10 hf10
    try dsimp only
    refine hK.out _ _ ((unhide HS) _ h10) (fun hHeld => ?_)
    clear hK K
    (try simp only [Act.put, nrm])
    refine wpAnyH_ready (rs := [24]) (by kernel_rfl) (by simp) (AllReadyH.cons rfl (fun K hK => ?_) AllReadyH.nil)
    have HI := hide (ids_true v10 (.slice (some ⟨DB, 0, none⟩) D D) c dn w10 (unhide HV10) ((unhide HDT) w10 h10) (by rw [(unhide HNN).2]; omega) (fun k hk => by
      obtain ⟨j, hj⟩ := List.getElem?_of_mem hk
      obtain ⟨i, x, e1, e2, _⟩ := (unhide HRL).g j k hj
      have := (List.getElem?_eq_some_iff.1 e2).1
      have := (unhide HNN).1
      omega))
    go_simp
    refine (unhide HI).mono ?_
    clear HI
    rintro e w11 ⟨rfl, hf11⟩
    have h11 : Fr (fun _ => False) wc w11 := h10.trans0 hf11
    clear hf11
    try dsimp only
    refine hK.out _ _ ((unhide HS) _ h11) (fun hHeld => ?_)
    clear hK K
    (try simp only [Act.put, nrm])
    refine wtk2 (i := 25) rfl hHeld ?_
    (try simp only [Act.put, nrm])
    refine wtk2 (i := 26) rfl hHeld ?_
    (try simp only [Act.put, nrm])
    refine wpAnyH_done (by kernel_rfl) ?_ _
    have HE := hide ((unhide HFZ).trans0 h11)
    clear hHeld HS h8 h9 h10 h11
    go_wp2_with fail
    go_ret
    exact ⟨rfl, unhide HE⟩

end Go.Proofs.Ytkiepcdncegniaa

namespace Go.Proofs.Ytkiepcdncegniaa
open Go.ChangeShapes Go.WideShapes Go.ChangeAt Go.RowKit Go.Deep
set_option maxRecDepth 100000

theorem piece {cs l : List Value} {o n : Nat} (h : (cs.drop o).take n = l) {j : Nat} (hj : j < n) : cs[o + j]? = l[j]? := by
  rw [← h, List.getElem?_take_of_lt hj, List.getElem?_drop]
/-- A message that came in. -/
theorem ms_of_trod {H : Type} {enc : TypeId × Value → H} {W : World} {fuel : Nat} {cs : List Value} {x : DataW H × List MemPlace} (h : DataW.trod enc Try.prog W 0 (fun _ => true) true fuel 49 cs = some x) (hk : Rows.uptoBulk x.1 ≤ 1048576) :
    ∃ m : MG, cs = m.xs ∧ m.Ok W := by
  obtain ⟨xs, n, _, rfl, hl, hlen, hf⟩ := DataW.trod_struct Try.underlying49 h
  rw [Try.zclMs] at hl
  have h0 := hf 0 _ rfl
  have h1 := hf 1 _ rfl
  have h2 := hf 2 _ rfl
  have h3 := hf 3 _ rfl
  have h4 := hf 4 _ rfl
  have h5 := hf 5 _ rfl
  have h6 := hf 6 _ rfl
  match xs, hlen with
  | [y0, y1, y2, y3, y4, y5, y6], _ =>
    simp [Try.zclU32, Try.zclU8, Try.zclId, Try.zclRq, Try.zclAn, Try.zclEv, -List.drop_one] at h0 h1 h2 h3 h4 h5 h6
    change DataW.trod _ _ _ _ _ _ _ _ ((cs.drop 0).take 1) = _ at h0
    change DataW.trod _ _ _ _ _ _ _ _ ((cs.drop 1).take 10) = _ at h1
    change DataW.trod _ _ _ _ _ _ _ _ ((cs.drop 11).take 2) = _ at h2
    change DataW.trod _ _ _ _ _ _ _ _ ((cs.drop 13).take 7) = _ at h3
    change DataW.trod _ _ _ _ _ _ _ _ ((cs.drop 20).take 1) = _ at h4
    change DataW.trod _ _ _ _ _ _ _ _ ((cs.drop 21).take 13) = _ at h5
    change DataW.trod _ _ _ _ _ _ _ _ ((cs.drop 34).take 1) = _ at h6
    obtain ⟨ki, e0, _, w0⟩ := DataW.trod_int Try.underlying5 h0
    obtain ⟨_, hr⟩ := rq_one h1
    obtain ⟨icl, inu, e2, b0, b1⟩ := id_of_trod h2
    obtain ⟨a, F, K, e3, ba, bn, hF, hK, bF, bK⟩ := an_of_trod h3
    obtain ⟨co, e4, _, w4⟩ := DataW.trod_int Try.underlying5 h4
    obtain ⟨_, hv⟩ := ev_one h5
    obtain ⟨le, e6, _, w6⟩ := DataW.trod_int Try.underlying26 h6
    obtain ⟨ki, rfl, bk⟩ := nat_u8 w0
    obtain ⟨co, rfl, bc⟩ := nat_u8 w4
    have k3 := bulk_in ([y0, y1, y2, y3, y4, y5, y6].map (·.1)) y3.1 (by simp)
    have hk' : Rows.uptoBulkAll ([y0, y1, y2, y3, y4, y5, y6].map (·.1)) ≤ 1048576 := by simp only [Rows.uptoBulk] at hk; omega
    obtain ⟨fo, fn, fc, ef⟩ : ∃ fo fn fc, a.fv = .slice fo fn fc := by obtain ⟨xo, c, e, _⟩ := hF.f; exact ⟨_, _, _, e⟩
    obtain ⟨ho, hn, hc, eh⟩ : ∃ fo fn fc, a.hv = .slice fo fn fc := by obtain ⟨xo, c, e, _⟩ := hK.f; exact ⟨_, _, _, e⟩
    have han : ∀ v ∈ a.cs, v.oneCell' = true := fun v hv => by
      simp only [AN.cs, List.mem_cons, List.not_mem_nil, or_false] at hv
      rcases hv with rfl | rfl | rfl | rfl | rfl | rfl | rfl
      · rfl
      · rfl
      · rfl
      · rfl
      · rfl
      · rw [ef]; rfl
      · rw [eh]; rfl
    have hin : ∀ {o n : Nat} {l : List Value} {v : Value} {j : Nat}, (cs.drop o).take n = l → cs[j]? = some v → o ≤ j → j < o + n → v ∈ l := fun {o n l v j} h hj h1 h2 => by
      have := piece h (j := j - o) (by omega)
      rw [show o + (j - o) = j by omega, hj] at this
      exact List.mem_of_getElem? this.symm
    refine ⟨⟨cs, ki, icl, inu, co, a, F, K⟩, rfl, ⟨piece e0 (j := 0) (by decide), piece e2 (j := 0) (by decide), piece e2 (j := 1) (by decide), fun j v hj => ?_, piece e4 (j := 0) (by decide)⟩, hl, fun v hm => ?_, bk, b0, b1, bc, ba, bn, hF, hK, by simp only; omega, by simp only; omega⟩
    · have hj7 : j < 7 := (List.getElem?_eq_some_iff.1 hj).1
      exact (piece e3 hj7).trans hj
    · obtain ⟨j, hj⟩ := List.getElem?_of_mem hm
      have hj35 : j < 35 := by have := (List.getElem?_eq_some_iff.1 hj).1; simp only at this; omega
      by_cases j1 : j < 1
      · have := hin e0 hj (by omega) (by omega)
        simp only [List.mem_cons, List.not_mem_nil, or_false] at this; subst this; rfl
      by_cases j2 : j < 11
      · exact hr v (hin rfl hj (by omega) (by omega))
      by_cases j3 : j < 13
      · have := hin e2 hj (by omega) (by omega)
        simp only [List.mem_cons, List.not_mem_nil, or_false] at this; rcases this with rfl | rfl <;> rfl
      by_cases j4 : j < 20
      · exact han v (hin e3 hj (by omega) (by omega))
      by_cases j5 : j < 21
      · have := hin e4 hj (by omega) (by omega)
        simp only [List.mem_cons, List.not_mem_nil, or_false] at this; subst this; rfl
      by_cases j6 : j < 34
      · exact hv v (hin rfl hj (by omega) (by omega))
      · have := hin e6 hj (by omega) (by omega)
        simp only [List.mem_cons, List.not_mem_nil, or_false] at this; subst this; rfl
/-- Messages that came in. -/
theorem ms_of_reading {H : Type} {enc : TypeId × Value → H} {W : World} {base : Nat} {v : Value} {d : DataW H} {p : List MemPlace} (hval : Value.okWide Try.prog W .any base 39 v) (h : DataW.Trod enc Try.prog W 0 (fun _ => true) true 39 v d p) (hk : Rows.uptoBulk d ≤ 1048576) :
    ∃ l : List MG, MgR W v l := by
  obtain ⟨a0, len, cap, rfl⟩ := okWide_slice Try.underlying39 hval
  obtain ⟨fuel, hf⟩ := h
  rcases open_slice Try.underlying39 hf with ⟨hcs, hx⟩ | ⟨a, len', cap', m, n, D, Pl, hcs, _, hl, hm, hmm, hx, hel⟩
  · simp [Value.cells] at hcs
    obtain ⟨rfl, rfl, rfl⟩ := hcs
    exact ⟨[], ⟨none, 0, rfl, fun j m hj => by simp at hj⟩, by simp⟩
  · simp [Value.cells] at hcs
    obtain ⟨rfl, rfl, rfl⟩ := hcs
    simp only [Prod.mk.injEq] at hx
    obtain ⟨rfl, -⟩ := hx
    simp only [if_true] at hmm
    subst hmm
    have hbl : Rows.uptoBulkAll ((List.range len).map D) + 1 ≤ 1048576 := by simp only [Rows.uptoBulk] at hk; omega
    have hp : ∀ i, ∃ s : MG, i < len → (∀ j, j < 35 → W.cell? ((a.add (i * 35)).add j) = s.xs[j]?) ∧ s.Ok W := fun i => by
      by_cases hi : i < len
      · obtain ⟨cs', h1, h2⟩ := hel i (by omega)
        rw [Try.zclMs] at h1
        obtain ⟨_, hlen, hcell⟩ := World.cells?_some h1
        have := bulk_in ((List.range len).map D) (D i) (List.mem_map.2 ⟨i, by simpa using hi, rfl⟩)
        obtain ⟨s, rfl, hs⟩ := ms_of_trod h2 (by simp only; omega)
        exact ⟨s, fun _ => ⟨hcell, hs⟩⟩
      · exact ⟨⟨[], 0, 0, 0, 0, ⟨0, 0, 0, 0, 0, .slice none 0 0, .slice none 0 0⟩, [], []⟩, fun h => absurd h hi⟩
    obtain ⟨Q, hQ⟩ : ∃ Q : Nat → MG, ∀ i, i < len → (∀ j, j < 35 → W.cell? ((a.add (i * 35)).add j) = (Q i).xs[j]?) ∧ (Q i).Ok W := ⟨fun i => Classical.choose (hp i), fun i => Classical.choose_spec (hp i)⟩
    have hbulk := bulk_len ((List.range len).map D)
    have hll : ((List.range len).map Q).length = len := by simp
    refine ⟨(List.range len).map Q, ⟨some a, _, by rw [hll], fun j mm hj => ?_⟩, by rw [hll]; simp at hbulk; omega⟩
    have hjl : j < len := by have := (List.getElem?_eq_some_iff.1 hj).1; rwa [hll] at this
    obtain rfl : Q j = mm := by simpa [hjl] using hj
    obtain ⟨q1, q2⟩ := hQ j hjl
    have hx0 := (hQ 0 (by omega)).1 0 (by decide)
    rw [(hQ 0 (by omega)).2.x.k] at hx0
    obtain ⟨g, o, sp⟩ := a
    have hsp : sp = none := by simpa [Addr.add] using World.cell?_spot hx0
    subst hsp
    refine ⟨q2, g, o, rfl, fun t u hu => ?_⟩
    have ht : t < 35 := by have := (List.getElem?_eq_some_iff.1 hu).1; rw [q2.len] at this; exact this
    have := q1 t ht
    rw [hu, Addr.add_mid, Addr.add_mid] at this
    exact this
end Go.Proofs.Ytkiepcdncegniaa

namespace Go.Proofs.Ytkiepcdncegniaa
open Go.ChangeShapes Go.WideShapes Go.ChangeAt Go.RowKit Go.Deep
set_option maxRecDepth 100000

theorem f5b_of_trod {H : Type} {enc : TypeId × Value → H} {W : World} {fuel : Nat} {cs : List Value} {x : DataW H × List MemPlace} (h : DataW.trod enc Try.prog W 0 (fun _ => true) true fuel 79 cs = some x) :
    ∃ s : F5, (s.v < 4294967296 ∧ s.u < 256) ∧ cs = [.string s.n, .int .u8 (s.k : Nat), .string s.t, .float .f32 s.v, .int .u8 (s.u : Nat)] := by
  obtain ⟨xs, n, _, rfl, hl, hlen, hf⟩ := DataW.trod_struct Try.underlying79 h
  rw [Try.zclFd] at hl
  have h0 := hf 0 _ rfl
  have h1 := hf 1 _ rfl
  have h2 := hf 2 _ rfl
  have h3 := hf 3 _ rfl
  have h4 := hf 4 _ rfl
  match cs, hl with
  | [c0, c1, c2, c3, c4], _ =>
    match xs, hlen with
    | [y0, y1, y2, y3, y4], _ =>
      simp [Try.zclU8, Try.zclStr, Try.zclF32] at h0 h1 h2 h3 h4
      obtain ⟨a, e0, _, _⟩ := DataW.trod_string Try.underlying9 h0
      obtain ⟨b, e1, _, wb⟩ := DataW.trod_int Try.underlying5 h1
      obtain ⟨c, e2, _, _⟩ := DataW.trod_string Try.underlying9 h2
      obtain ⟨d, e3, wd⟩ := trod_floatw Try.underlying77 h3
      obtain ⟨e, e4, _, we⟩ := DataW.trod_int Try.underlying5 h4
      simp only [List.cons.injEq, and_true] at e0 e1 e2 e3 e4
      subst e0 e1 e2 e3 e4
      obtain ⟨b, rfl, _⟩ := nat_u8 wb
      obtain ⟨e, rfl, he⟩ := nat_u8 we
      exact ⟨⟨a, b, c, d, e⟩, ⟨wd, he⟩, rfl⟩
/-- Fields that came in. -/
theorem rdB_of_trod {H : Type} {enc : TypeId × Value → H} {W : World} {fuel : Nat} {v : Value} {x : DataW H × List MemPlace} (hf : DataW.trod enc Try.prog W 0 (fun _ => true) true fuel 32 [v] = some x) :
    ∃ A : List F5, Rd W v A.length 5 (fcells A) ∧ (∀ f ∈ A, f.v < 4294967296 ∧ f.u < 256) ∧ A.length + 1 ≤ Rows.uptoBulk x.1 := by
  rcases open_slice Try.underlying32 hf with ⟨hcs, hx⟩ | ⟨a, len', cap', m, n, D, Pl, hcs, _, hl, hm, hmm, hx, hel⟩
  · simp only [List.cons.injEq, and_true] at hcs
    subst hcs
    exact ⟨[], Rd.nil W 5, fun f hf => (by cases hf), bulk_pos _⟩
  · simp only [List.cons.injEq, and_true] at hcs
    subst hcs
    subst hx
    simp only [if_true] at hmm
    subst hmm
    have hp : ∀ i, ∃ s : F5, (s.v < 4294967296 ∧ s.u < 256) ∧ (i < m → ∀ j, j < 5 → W.cell? ((a.add (i * 5)).add j) = [Value.string (s).n, .int .u8 ((s).k : Nat), .string (s).t, .float .f32 (s).v, .int .u8 ((s).u : Nat)][j]?) := fun i => by
      by_cases hi : i < m
      · obtain ⟨cs', h1, h2⟩ := hel i hi
        rw [Try.zclFd] at h1
        obtain ⟨_, hlen, hcell⟩ := World.cells?_some h1
        obtain ⟨s, hs, rfl⟩ := f5b_of_trod h2
        exact ⟨s, hs, fun _ => hcell⟩
      · exact ⟨⟨ByteArray.empty, 0, ByteArray.empty, 0, 0⟩, ⟨by decide, by decide⟩, fun h => absurd h hi⟩
    obtain ⟨Q, hQb, hQ⟩ : ∃ Q : Nat → F5, (∀ i, (Q i).v < 4294967296 ∧ (Q i).u < 256) ∧ ∀ i, i < m → ∀ j, j < 5 → W.cell? ((a.add (i * 5)).add j) = ((fun s : F5 => [Value.string (s).n, .int .u8 ((s).k : Nat), .string (s).t, .float .f32 (s).v, .int .u8 ((s).u : Nat)]) (Q i))[j]? := ⟨fun i => Classical.choose (hp i), fun i => (Classical.choose_spec (hp i)).1, fun i => (Classical.choose_spec (hp i)).2⟩
    have hbulk := bulk_len ((List.range len').map D)
    have hd : Rows.uptoBulkAll ((List.range len').map D) + 1 ≤ Rows.uptoBulk (DataW.slice ((List.range len').map D) ((List.range (m - len')).map fun j => D (len' + j)) : DataW H) := by
      simp only [Rows.uptoBulk]; omega
    obtain ⟨hr1, hr2⟩ := rows_at (W := W) (a := a) (z := 5) (fun i => (fun s : F5 => [Value.string (s).n, .int .u8 ((s).k : Nat), .string (s).t, .float .f32 (s).v, .int .u8 ((s).u : Nat)]) (Q i)) len' (fun i _ => rfl) (fun i hi => hQ i (by omega))
    have hce : fcells ((List.range len').map Q) = (List.range len').flatMap (fun i => (fun s : F5 => [Value.string (s).n, .int .u8 ((s).k : Nat), .string (s).t, .float .f32 (s).v, .int .u8 ((s).u : Nat)]) (Q i)) := by
      unfold fcells
      rw [List.flatMap_map]
    have hll : ((List.range len').map Q).length = len' := by simp
    refine ⟨(List.range len').map Q, ⟨⟨some a, m, by rw [hll], by rw [hll]; exact hl, fun e => (by cases e), fun j u hu => ?_⟩, by rw [hll, hce, hr1], fcells_one _⟩, fun f hf => ?_, by simp at hbulk ⊢; omega⟩
    · rw [hce] at hu
      have h1 := hr2 j u hu
      have h0 := hr2 0 _ (List.getElem?_eq_getElem (by have := (List.getElem?_eq_some_iff.1 hu).1; omega))
      obtain ⟨g, o, sp⟩ := a
      have hsp : sp = none := by simpa [Addr.add] using World.cell?_spot h0
      subst hsp
      exact ⟨g, o, rfl, by rw [Addr.add_mid] at h1; exact h1⟩
    · obtain ⟨i, _, rfl⟩ := List.mem_map.1 hf
      exact hQb i
theorem rqb_of_trod {H : Type} {enc : TypeId × Value → H} {W : World} {fuel : Nat} {cs : List Value} {x : DataW H × List MemPlace} (h : DataW.trod enc Try.prog W 0 (fun _ => true) true fuel 34 cs = some x) : 
    ∃ (r : RQ) (F : List F5), cs = r.cs ∧ Rd W r.fv F.length 5 (fcells F) ∧ (∀ f ∈ F, f.v < 4294967296 ∧ f.u < 256) ∧ F.length + 1 ≤ Rows.uptoBulk x.1 := by
  obtain ⟨xs, n, _, rfl, hl, hlen, hf⟩ := DataW.trod_struct Try.underlying34 h
  rw [Try.zclRq] at hl
  have h0 := hf 0 _ rfl
  have h1 := hf 1 _ rfl
  have h2 := hf 2 _ rfl
  have h3 := hf 3 _ rfl
  have h4 := hf 4 _ rfl
  have h5 := hf 5 _ rfl
  have h6 := hf 6 _ rfl
  have h7 := hf 7 _ rfl
  have h8 := hf 8 _ rfl
  match cs, hl with
  | [c0, c1, c2, c3, c4, c5, c6, c7, c8, c9], _ =>
    match xs, hlen with
    | [y0, y1, y2, y3, y4, y5, y6, y7, y8], _ =>
      simp [Try.zclU32, Try.zclU8, Try.zclId, Try.zclSlf, Try.zclStr] at h0 h1 h2 h3 h4 h5 h6 h7 h8
      obtain ⟨cl, nu, e0, _⟩ := id_of_trod h0
      obtain ⟨ac, e1, q1, w1⟩ := DataW.trod_int Try.underlying26 h1
      obtain ⟨op, e2, q2, w2⟩ := DataW.trod_int Try.underlying5 h2
      obtain ⟨rc, e3, q3, w3⟩ := DataW.trod_int Try.underlying26 h3
      obtain ⟨ve, e4, q4, w4⟩ := DataW.trod_int Try.underlying26 h4
      obtain ⟨wa, e5, q5, w5⟩ := DataW.trod_int Try.underlying26 h5
      obtain ⟨ow, e6, q6, w6⟩ := DataW.trod_int Try.underlying26 h6
      obtain ⟨F, hF, hFb, bF⟩ := rdB_of_trod h7
      obtain ⟨rs, e8, q8, _⟩ := DataW.trod_string Try.underlying9 h8
      simp only [List.cons.injEq, and_true] at e0 e1 e2 e3 e4 e5 e6 e8
      obtain ⟨rfl, rfl⟩ := e0
      subst e1 e2 e3 e4 e5 e6 e8
      obtain ⟨ac, rfl, _⟩ := nat_u32 w1
      obtain ⟨op, rfl, _⟩ := nat_u8 w2
      obtain ⟨rc, rfl, _⟩ := nat_u32 w3
      obtain ⟨ve, rfl, _⟩ := nat_u32 w4
      obtain ⟨wa, rfl, _⟩ := nat_u32 w5
      obtain ⟨ow, rfl, _⟩ := nat_u32 w6
      have k7 := bulk_in ([y0, y1, y2, y3, y4, y5, y6, y7, y8].map (·.1)) y7.1 (by simp)
      exact ⟨⟨cl, nu, ac, op, rc, ve, wa, ow, c8, rs⟩, F, rfl, hF, hFb, by simp only [Rows.uptoBulk]; omega⟩
theorem Try.zclI : Try.prog.cellsOf 3 = 1 := by kernel_rfl
theorem Try.zclOp : Try.prog.cellsOf 62 = 46 := by kernel_rfl
/-- A step that came in. -/
structure OG where
  ki : Int
  r : RQ
  F : List F5
  m : MG
def OG.xs (o : OG) : List Value := .int .i64 o.ki :: (o.r.cs ++ o.m.xs)
structure OG.Ok (w : World) (o : OG) : Prop where
  f : Rd w o.r.fv o.F.length 5 (fcells o.F)
  b : ∀ f ∈ o.F, f.v < 4294967296 ∧ f.u < 256
  l : o.F.length ≤ 1048576
  m : o.m.Ok w
/-- Steps that came in. -/
structure OgR (w : World) (v : Value) (l : List OG) : Prop where
  f : ∃ vo c, v = .slice vo l.length c ∧ ∀ j o, l[j]? = some o → o.Ok w ∧ ∃ g a, vo = some ⟨g, a, none⟩ ∧ w.rangeAt g (a + j * 46) o.xs
  l : l.length ≤ 1048575
theorem og_of_trod {H : Type} {enc : TypeId × Value → H} {W : World} {fuel : Nat} {cs : List Value} {x : DataW H × List MemPlace} (h : DataW.trod enc Try.prog W 0 (fun _ => true) true fuel 62 cs = some x) (hk : Rows.uptoBulk x.1 ≤ 1048576) :
    ∃ o : OG, cs = o.xs ∧ o.Ok W := by
  obtain ⟨xs, n, _, rfl, hl, hlen, hf⟩ := DataW.trod_struct Try.underlying62 h
  rw [Try.zclOp] at hl
  have h0 := hf 0 _ rfl
  have h1 := hf 1 _ rfl
  have h2 := hf 2 _ rfl
  match xs, hlen with
  | [y0, y1, y2], _ =>
    simp [Try.zclI, Try.zclRq, Try.zclMs, -List.drop_one] at h0 h1 h2
    change DataW.trod _ _ _ _ _ _ _ _ ((cs.drop 0).take 1) = _ at h0
    change DataW.trod _ _ _ _ _ _ _ _ ((cs.drop 1).take 10) = _ at h1
    change DataW.trod _ _ _ _ _ _ _ _ ((cs.drop 11).take 35) = _ at h2
    have k1 := bulk_in ([y0, y1, y2].map (·.1)) y1.1 (by simp)
    have k2 := bulk_in ([y0, y1, y2].map (·.1)) y2.1 (by simp)
    have hk' : Rows.uptoBulkAll ([y0, y1, y2].map (·.1)) ≤ 1048576 := by simp only [Rows.uptoBulk] at hk; omega
    obtain ⟨ki, e0, _, w0⟩ := DataW.trod_int Try.underlying3 h0
    obtain ⟨r, F, e1, hF, hFb, bF⟩ := rqb_of_trod h1
    obtain ⟨m, e2, hm⟩ := ms_of_trod h2 (by omega)
    refine ⟨⟨ki, r, F, m⟩, ?_, ⟨hF, hFb, by simp only; omega, hm⟩⟩
    have s1 : cs = (cs.drop 0).take 1 ++ ((cs.drop 1).take 10 ++ (cs.drop 11).take 35) := by
      rw [List.take_of_length_le (l := cs.drop 11) (by rw [List.length_drop, hl]; omega)]
      rw [show cs.drop 11 = (cs.drop 1).drop 10 by rw [List.drop_drop], List.take_append_drop]
      exact (List.take_append_drop 1 cs).symm
    rw [e0, e1, e2] at s1
    exact s1
/-- Steps that came in, as a parameter. -/
theorem og_of_reading {H : Type} {enc : TypeId × Value → H} {W : World} {base : Nat} {v : Value} {d : DataW H} {p : List MemPlace} (hval : Value.okWide Try.prog W .any base 57 v) (h : DataW.Trod enc Try.prog W 0 (fun _ => true) true 57 v d p) (hk : Rows.uptoBulk d ≤ 1048576) :
    ∃ l : List OG, OgR W v l := by
  obtain ⟨a0, len, cap, rfl⟩ := okWide_slice Try.underlying57 hval
  obtain ⟨fuel, hf⟩ := h
  rcases open_slice Try.underlying57 hf with ⟨hcs, hx⟩ | ⟨a, len', cap', m, n, D, Pl, hcs, _, hl, hm, hmm, hx, hel⟩
  · simp [Value.cells] at hcs
    obtain ⟨rfl, rfl, rfl⟩ := hcs
    exact ⟨[], ⟨none, 0, rfl, fun j m hj => by simp at hj⟩, by simp⟩
  · simp [Value.cells] at hcs
    obtain ⟨rfl, rfl, rfl⟩ := hcs
    simp only [Prod.mk.injEq] at hx
    obtain ⟨rfl, -⟩ := hx
    simp only [if_true] at hmm
    subst hmm
    have hbl : Rows.uptoBulkAll ((List.range len).map D) + 1 ≤ 1048576 := by simp only [Rows.uptoBulk] at hk; omega
    have hp : ∀ i, ∃ s : OG, i < len → (∀ j, j < 46 → W.cell? ((a.add (i * 46)).add j) = s.xs[j]?) ∧ s.Ok W := fun i => by
      by_cases hi : i < len
      · obtain ⟨cs', h1, h2⟩ := hel i (by omega)
        rw [Try.zclOp] at h1
        obtain ⟨_, hlen, hcell⟩ := World.cells?_some h1
        have := bulk_in ((List.range len).map D) (D i) (List.mem_map.2 ⟨i, by simpa using hi, rfl⟩)
        obtain ⟨s, rfl, hs⟩ := og_of_trod h2 (by simp only; omega)
        exact ⟨s, fun _ => ⟨hcell, hs⟩⟩
      · exact ⟨⟨0, ⟨0, 0, 0, 0, 0, 0, 0, 0, .slice none 0 0, ByteArray.empty⟩, [], ⟨[], 0, 0, 0, 0, ⟨0, 0, 0, 0, 0, .slice none 0 0, .slice none 0 0⟩, [], []⟩⟩, fun h => absurd h hi⟩
    obtain ⟨Q, hQ⟩ : ∃ Q : Nat → OG, ∀ i, i < len → (∀ j, j < 46 → W.cell? ((a.add (i * 46)).add j) = (Q i).xs[j]?) ∧ (Q i).Ok W := ⟨fun i => Classical.choose (hp i), fun i => Classical.choose_spec (hp i)⟩
    have hbulk := bulk_len ((List.range len).map D)
    have hll : ((List.range len).map Q).length = len := by simp
    refine ⟨(List.range len).map Q, ⟨some a, _, by rw [hll], fun j mm hj => ?_⟩, by rw [hll]; simp at hbulk; omega⟩
    have hjl : j < len := by have := (List.getElem?_eq_some_iff.1 hj).1; rwa [hll] at this
    obtain rfl : Q j = mm := by simpa [hjl] using hj
    obtain ⟨q1, q2⟩ := hQ j hjl
    have hx0 := (hQ 0 (by omega)).1 0 (by decide)
    have hx0' : W.cell? ((a.add (0 * 46)).add 0) = some (.int .i64 (Q 0).ki) := hx0
    obtain ⟨g, o, sp⟩ := a
    have hsp : sp = none := by simpa [Addr.add] using World.cell?_spot hx0'
    subst hsp
    refine ⟨q2, g, o, rfl, fun t u hu => ?_⟩
    have ht : t < 46 := by
      have := (List.getElem?_eq_some_iff.1 hu).1
      have h35 := q2.m.len
      simp only [OG.xs, List.length_cons, List.length_append, h35, RQ.cs, List.length_nil] at this
      omega
    have := q1 t ht
    rw [hu, Addr.add_mid, Addr.add_mid] at this
    exact this
end Go.Proofs.Ytkiepcdncegniaa

namespace Go.Proofs.Ytkiepcdncegniaa
open Go.RowKit Go.Maps

/-- SessionPlays, between two rounds: the session, the document's own in its box. -/
structure PJ (w wr : World) (d B c k : Nat) (cs : List SC) (dn : List Nat) (T : Nat → Prop) (v : Value) (l : List RC) : Prop where
  s : SS wr d c cs dn T
  f : Fr (fun _ => False) w wr
  t : ∀ g, T g → w.heap.size ≤ g ∧ g ≠ B ∧ v.ownBlock ≠ some g
  o : OwC wr w.heap.size v l
  vb : v.ownBlock ≠ some B
  R : Rel w c cs dn l
  n : ∀ q ∈ cs, q.n ≤ k
  dl : dn.length ≤ k
  b : wr.heap[B]? = some (.cells #[.int .u32 (c : Nat), v, .int .i64 (dn.length : Nat)] 60)
  bw : w.heap.size ≤ B
theorem PJ.fr0 {w wr wr' : World} {d B c k : Nat} {cs : List SC} {dn : List Nat} {T : Nat → Prop} {v : Value} {l : List RC} (h : PJ w wr d B c k cs dn T v l) (hf : Fr (fun _ => False) wr wr') : PJ w wr' d B c k cs dn T v l :=
  ⟨h.s.fr0 hf, h.f.trans0 hf, h.t, h.o.fr0 hf, h.vb, h.R, h.n, h.dl, (hf.block B (lt_of_block h.b) (fun h => h)).trans h.b, h.bw⟩
theorem PJ.up {w wr : World} {d B c k : Nat} {cs : List SC} {dn : List Nat} {T : Nat → Prop} {v : Value} {l : List RC} (h : PJ w wr d B c k cs dn T v l) : PJ w wr d B c (k + 1) cs dn T v l :=
  ⟨h.s, h.f, h.t, h.o, h.vb, h.R, fun q hq => by have := h.n q hq; omega, by have := h.dl; omega, h.b, h.bw⟩
theorem PJ.len {w wr : World} {d B c k : Nat} {cs : List SC} {dn : List Nat} {T : Nat → Prop} {v : Value} {l : List RC} (h : PJ w wr d B c k cs dn T v l) : l.length ≤ 4096 := by rw [h.R.n]; exact h.s.len
/-- The box stored anew. -/
theorem PJ.box {w wr W : World} {d B c k : Nat} {cs : List SC} {dn : List Nat} {T : Nat → Prop} {v : Value} {l : List RC} (hs : SS wr d c cs dn T) (hf : Fr (fun _ => False) w wr) (ht : ∀ g, T g → w.heap.size ≤ g ∧ g ≠ B ∧ v.ownBlock ≠ some g) (ho : OwC wr w.heap.size v l) (hvb : v.ownBlock ≠ some B) (hR : Rel w c cs dn l) (hn : ∀ q ∈ cs, q.n ≤ k) (hdl : dn.length ≤ k) (hbw : w.heap.size ≤ B)
    (hfW : Fr (fun g => g = B) wr W) (hb : W.heap[B]? = some (.cells #[.int .u32 (c : Nat), v, .int .i64 (dn.length : Nat)] 60)) : PJ w W d B c k cs dn T v l :=
  ⟨hs.fr hfW (fun g hg => (ht g hg).2.1), hf.trans hfW (fun g hg e => by omega), ht, ho.fr hfW (fun g hg e => hvb (by rw [hg, e])), hvb, hR, hn, hdl, hb, hbw⟩
/-- append(nothing, l...). -/
theorem app_cls (w : World) (base : Nat) (v : Value) (l : List RC) (hok : ∀ y ∈ l, ∀ u ∈ y.cs, u.oneCell' = true) (h : OwC w base v l) (hl : l.length ≤ 4096) :
    ∃ ao cap w', (Builtin.append_ #[58, 58] 58 #[.slice none 0 0, v]).run Try.prog w = .ok (.slice ao l.length cap) w' ∧ OwC w' w.heap.size (.slice ao l.length cap) l ∧ Fr (fun _ => False) w w' := by
  obtain ⟨i0, hi, hz0, hz1, hz2⟩ := info_parts Try.infoCl
  have hone : ∀ u ∈ l.flatMap RC.cs, u.oneCell' = true := fun u hu => by
    obtain ⟨y, hy, hu⟩ := List.mem_flatMap.1 hu
    exact hok y hy u hu
  rcases Nat.eq_zero_or_pos l.length with h0 | h0
  · obtain rfl : l = [] := List.eq_nil_of_length_eq_zero h0
    obtain ⟨ao, cap, rfl⟩ := own_formX h
    refine ⟨none, 0, w, ?_, World.ownsRow_nil _ _ _ _, Fr.refl _ _⟩
    cases ao <;> simp [Builtin.append_, go_sem]
  · have hrow := h
    unfold OwC at hrow
    obtain ⟨g, cp, eg, _, hg⟩ := own_one_form hrow h0
    subst eg
    obtain ⟨v', w', hr, h2, h3, _, h5⟩ := run_append_own_at (P := Try.prog) (w := w) w.heap.size 58 58 66 i0 (.agg #[.int .u32 0, .int .u32 0, .int .u32 0, .int .u8 0, .int .u32 0, .int .u32 0, .int .u32 0, .int .u32 0, .slice none 0 0, .string ⟨#[]⟩, .int .i64 0, .int .u32 0, .int .u32 0, .int .u8 0, .int .u32 0, .int .u32 0, .slice none 0 0, .slice none 0 0, .int .u8 0, .int .i64 0]) 20 168 Try.underlying58 hi hz0 hz1 hz2 rfl (by decide) (.slice none 0 0) 0 [] (World.ownsRow_nil _ _ _ _) ⟨g, 0, none⟩ l.length cp (l.flatMap RC.cs) (ccells_len l) (fun j u hu => by
      rw [addr_add]; simpa using hg j u hu) hone (by simp only [maxLen]; omega) (by omega) (Nat.le_refl _)
    rw [Nat.zero_add, List.nil_append] at h2
    obtain ⟨ao, cap, rfl⟩ := own_formX h2
    exact ⟨ao, cap, w', hr, h2, (Fr.refl _ _).grown h3 (fun k hk => by cases hk)⟩
end Go.Proofs.Ytkiepcdncegniaa

namespace Go.Proofs.Ytkiepcdncegniaa
open Go.RowKit Go.Maps

theorem Try.sizeOp : (Try.prog.info? 62).map (·.size) = some 46 := by kernel_rfl
theorem OG.len {w : World} {o : OG} (h : o.Ok w) : o.xs.length = 46 := by
  have := h.m.len
  simp only [OG.xs, List.length_cons, List.length_append, this, RQ.cs, List.length_nil]
theorem OG.one {w : World} {o : OG} (h : o.Ok w) : ∀ v ∈ o.xs, v.oneCell' = true := by
  intro v hv
  rcases List.mem_cons.1 hv with rfl | hv
  · rfl
  · rcases List.mem_append.1 hv with hv | hv
    · have h1 := rd_one h.f
      exact (List.all_eq_true.1 (show List.all o.r.cs (fun v => v.oneCell') = true by simp [RQ.cs, Value.oneCell']; exact h1)) v hv
    · exact h.m.one v hv
/-- An Op's box, before it is written. -/
def zO : List Value := .int .i64 0 :: ([.int .u32 0, .int .u32 0, .int .u32 0, .int .u8 0, .int .u32 0, .int .u32 0, .int .u32 0, .int .u32 0, .slice none 0 0, .string ⟨#[]⟩] ++ zM)
theorem zO_len : zO.length = 46 := rfl
set_option maxRecDepth 100000 in
set_option maxHeartbeats 40000000 in
theorem splays_any (w : World) (c : Nat) (hc32 : c < 4294967296) (x : Value) (ops : List OG) (hx : OgR w x ops) : Calls Try.prog 4 #[.int .u32 (c : Nat), x] w fun e w' => e = .returned (.bool true) ∧ Fr (fun _ => False) w w' := by
  obtain ⟨vo, vc, rfl, hms⟩ := hx.f
  have HMS := hide hms
  have hml := hx.l
  obtain ⟨N, hN⟩ : ∃ N, ops.length = N := ⟨_, rfl⟩
  have HNN := hide hN
  rw [hN] at hml ⊢
  clear hx hms hN
  go_enter Try.func4, Try.ntmps4
  go_wp2_with fail
  refine (awake17 w).mono ?_
  rintro e w0 ⟨rfl, hf0⟩
  have HF0 := hide hf0
  clear hf0
  go_wp2_with fail
  by_cases hc16 : 16 ≤ c
  · have hcI : (16 : Int) ≤ (c : Int) := by omega
    refine (snew_no c w0 hc16).mono ?_
    rintro e w1 ⟨rfl, rfl⟩
    go_wp2_with fail
    go_ret
    exact ⟨rfl, unhide HF0⟩
  · have hcI : ¬ (16 : Int) ≤ (c : Int) := by omega
    refine (SS.new c w0 (by omega)).mono ?_
    rintro e w1 ⟨d, rfl, hs1, hf1⟩
    obtain ⟨B, hB⟩ : ∃ B, w1.heap.size = B := ⟨_, rfl⟩
    have HM : Hid (PJ w (w1.alloc (.cells #[.int .u32 (c : Nat), .slice none 0 0, .int .i64 0] 60)) d B c 0 [] [] (Nb w0 w1) (.slice none 0 0) []) := hide ⟨hs1.fr0 (box1 _ _), ((unhide HF0).trans0 hf1).trans0 (box1 _ _), (fun g hg => ⟨Nat.le_trans (unhide HF0).size hg.1, (fun e => by have := hg.2; omega), (fun e => by cases e)⟩), World.ownsRow_nil _ _ _ _, (fun e => by cases e), Rel.nil w c, (fun q hq => by simp at hq), Nat.le_refl _, hB ▸ heap_alloc_new w1 _, by have := ((unhide HF0).trans0 hf1).size; omega⟩
    clear hs1 hf1 HF0
    go_wp2_with fail
    go_loopw [8] (fun iv wr => ∃ (k : Nat) (cs : List SC) (dn : List Nat) (T : Nat → Prop) (v : Value) (l : List RC), k ≤ N ∧ iv = .int .i64 (k : Nat) ∧ PJ w wr d B c k cs dn T v l) (fun iv _ => N - (intOf iv).toNat)
    case atStart => exact ⟨0, [], [], _, _, [], Nat.zero_le _, rfl, unhide HM⟩
    case round =>
      obtain ⟨k, cs, dn, T, v, l, hk, rfl, hP⟩ := hrel
      clear HM hB
      rename World => wr
      have HP := hide hP
      clear hP
      by_cases hlt : k < N
      · have hlt2 : (k : Int) < (N : Int) := by omega
        obtain ⟨o, hm⟩ : ∃ o, ops[k]? = some o := ⟨_, List.getElem?_eq_getElem (by have := unhide HNN; omega)⟩
        obtain ⟨hok, g, a, rfl, hrg⟩ := (unhide HMS) k o hm
        have hrg2 : wr.rangeAt g (a + k * 46) o.xs := fun j v hv => ((unhide HP).f.cell (p := ⟨g, a + k * 46 + j, none⟩) (lt_of_cell (hrg j v hv)) (fun h => h)).trans (hrg j v hv)
        obtain ⟨W8, hst, hb8, hf8⟩ := st_all (P := Try.prog) (ty := 62) zO o.xs (heap_alloc_new wr (.cells zO.toArray 62)) (by rw [OG.len hok]; rfl) (by rw [OG.len hok]; exact Try.sizeOp) (OG.one hok)
        have hsz : (Try.prog.info? 62).map (·.size) = some o.xs.length := by rw [OG.len hok]; exact Try.sizeOp
        obtain ⟨X, hXe⟩ : ∃ X, wr.heap.size = X := ⟨_, rfl⟩
        have hfr8 : Fr (fun _ => False) wr W8 := (box1 wr _).trans hf8 (fun g hg e => by rw [e] at hg; exact Nat.lt_irrefl _ hg)
        have HXT : Hid (∀ g, T g → g ≠ X) := hide (fun g hg e => by have := (unhide HP).s.lt g hg; omega)
        have HXB : Hid (B < X) := hide (by have := lt_of_block (unhide HP).b; omega)
        have HXV : Hid (∀ g, v.ownBlock = some g → g ≠ X) := hide (fun g hg e => by have := ((unhide HP).o.lt g hg).2; omega)
        have HP8 := hide ((unhide HP).fr0 hfr8)
        rw [hXe] at hb8 hst
        obtain ⟨ki, r, F, m⟩ := o
        have c0 : W8.cell? ⟨X, 0, none⟩ = some (.int .i64 ki) := cell_of_blk hb8 rfl
        have HRG := hide hrg2
        have HST := hide hst
        have HSZ := hide hsz
        have HOK := hide hok
        have HB8 := hide hb8
        have hjj : (0 : Int) ≤ (k : Int) := by omega
        clear hrg hrg2 hst hsz hm hok hb8 hf8 hfr8 HP
        obtain ⟨XO, hXO⟩ : ∃ XO, XO = (⟨ki, r, F, m⟩ : OG).xs := ⟨_, rfl⟩
        rw [← hXO] at HRG HST HSZ
        clear hXO
        have hvf := own_formX (unhide HP8).o
        obtain ⟨LN, hLN⟩ : ∃ n, l.length = n := ⟨_, rfl⟩
        rw [hLN] at hvf
        obtain ⟨ao, cap, rfl⟩ := hvf
        go_upto_block 2 with (first | refine wpList_load_mid rfl 62 (.tmp 39) rfl g (a + k * 46) rfl _ _ (unhide HRG) Try.underlying62 rfl (unhide HSZ) ?_ | refine wpList_stN rfl 62 (.tmp 9) (.tmp 40) rfl _ _ rfl rfl (unhide HST) ?_)
        go_cut [10, 11, 12, 13, 14, 15] from 31 to 135 (fun _ _ _ _ _ _ wx => ∃ (cs2 : List SC) (dn2 : List Nat) (T2 : Nat → Prop) (v2 : Value) (l2 : List RC), PJ w wx d B c (k + 1) cs2 dn2 T2 v2 l2)
        case first =>
          by_cases h1 : ki = 1
          · cases hfm : r.frm F
            · subst h1
              have hok := unhide HOK
              have hsr : (Try.prog.info? 34).map (·.size) = some r.cs.length := Try.sizeRq
              have HRR : Hid (W8.rangeAt X 1 r.cs) := hide (fun j u hu => cell_of_blk (unhide HB8) (by
                have := (List.getElem?_eq_some_iff.1 hu).1
                simp only [OG.xs, List.getElem?_toArray]
                rw [Nat.add_comm 1 j, List.getElem?_cons_succ, List.getElem?_append_left this]
                exact hu))
              have hrd8 := hok.f.fr0 (unhide HP8).f
              have HCA := hide ((unhide HP8).s.bad r F hrd8 hok.l hok.b hfm)
              clear hrd8
              go_wp2_with (first | refine wpList_load_mid rfl 62 (.tmp 39) rfl g (a + k * 46) rfl _ _ (unhide HRG) Try.underlying62 rfl (unhide HSZ) ?_ | refine wpList_stN rfl 62 (.tmp 9) (.tmp 40) rfl _ _ rfl rfl (unhide HST) ?_ | refine wpList_load_mid rfl 34 (.tmp 47) rfl X 1 rfl _ _ (unhide HRR) Try.underlying34 rfl hsr ?_)
              refine (unhide HCA).mono ?_
              rintro e w4 ⟨rfl, hf4⟩
              have hf85 : Fr (fun _ => False) W8 (w4.alloc (.cells #[.int .u32 0, .int .u32 0] 29)) := hf4.trans0 (box1 _ _)
              have HRR5 : Hid ((w4.alloc (.cells #[.int .u32 0, .int .u32 0] 29)).rangeAt X 1 r.cs) := hide (fun j u hu => (hf85.cell (p := ⟨X, 1 + j, none⟩) (lt_of_block (unhide HB8)) (fun h => h)).trans ((unhide HRR) j u hu))
              have HFM := hide (formed_any r F (w4.alloc (.cells #[.int .u32 0, .int .u32 0] 29)) (rd_fds (hok.f.fr0 ((unhide HP8).f.trans0 hf85))) (by have := hok.l; simp only at this; omega) hok.b)
              have HF5 := hide hf85
              clear hf4 hf85 HRR HCA
              go_wp2_with (refine wpList_load_mid rfl 34 (.tmp 52) rfl X 1 rfl _ _ (unhide HRR5) Try.underlying34 rfl hsr ?_)
              refine (unhide HFM).mono ?_
              rintro e w6 ⟨rfl, hf6⟩
              rw [hfm]
              have hf86 := (unhide HF5).trans0 hf6
              have hbi : w6.heap[w4.heap.size]? = some (.cells #[.int .u32 0, .int .u32 0] 29) := (hf6.block _ (by simp) (fun h => h)).trans (heap_alloc_new w4 _)
              have HRId : Hid (w6.rangeAt w4.heap.size 0 [.int .u32 0, .int .u32 0]) := hide (range_of_block (t := 29) hbi)
              have hq : ∀ w : World, (binOp .neq 29 (.agg #[.int .u32 0, .int .u32 0]) (.agg #[.int .u32 0, .int .u32 0])).run Try.prog w = .ok (.bool false) w := fun w => by
                have := neq_id 0 0 0 0 w
                simpa using this
              have HPn := hide (((unhide HP8).fr0 hf86).up)
              clear hf6 hf86 hbi HF5 HFM HRR5
              go_wp2_with (first | refine wpList_load_midG rfl 29 (.tmp 10) rfl w4.heap.size 0 rfl _ _ (unhide HRId) Try.underlying29 rfl Try.sizeId2 ?_ | fail)
              go_meet
              case rel => exact ⟨cs, dn, T, (.slice ao LN cap), l, unhide HPn⟩
            · by_cases hfull : cs.length = 4096
              · subst h1
                have hok := unhide HOK
                have hsr : (Try.prog.info? 34).map (·.size) = some r.cs.length := Try.sizeRq
                have HRR : Hid (W8.rangeAt X 1 r.cs) := hide (fun j u hu => cell_of_blk (unhide HB8) (by
                  have := (List.getElem?_eq_some_iff.1 hu).1
                  simp only [OG.xs, List.getElem?_toArray]
                  rw [Nat.add_comm 1 j, List.getElem?_cons_succ, List.getElem?_append_left this]
                  exact hu))
                have hrd8 := hok.f.fr0 (unhide HP8).f
                have hLNI : (4096 : Int) ≤ (LN : Int) := by have := (unhide HP8).R.n; omega
                have HCA := hide ((unhide HP8).s.full r F hrd8 hok.l hok.b hfm hfull)
                clear hrd8
                go_wp2_with (first | refine wpList_load_mid rfl 62 (.tmp 39) rfl g (a + k * 46) rfl _ _ (unhide HRG) Try.underlying62 rfl (unhide HSZ) ?_ | refine wpList_stN rfl 62 (.tmp 9) (.tmp 40) rfl _ _ rfl rfl (unhide HST) ?_ | refine wpList_load_mid rfl 34 (.tmp 47) rfl X 1 rfl _ _ (unhide HRR) Try.underlying34 rfl hsr ?_)
                refine (unhide HCA).mono ?_
                rintro e w4 ⟨rfl, hf4⟩
                have hf85 : Fr (fun _ => False) W8 (w4.alloc (.cells #[.int .u32 0, .int .u32 0] 29)) := hf4.trans0 (box1 _ _)
                have HRR5 : Hid ((w4.alloc (.cells #[.int .u32 0, .int .u32 0] 29)).rangeAt X 1 r.cs) := hide (fun j u hu => (hf85.cell (p := ⟨X, 1 + j, none⟩) (lt_of_block (unhide HB8)) (fun h => h)).trans ((unhide HRR) j u hu))
                have HFM := hide (formed_any r F (w4.alloc (.cells #[.int .u32 0, .int .u32 0] 29)) (rd_fds (hok.f.fr0 ((unhide HP8).f.trans0 hf85))) (by have := hok.l; simp only at this; omega) hok.b)
                have HF5 := hide hf85
                clear hf4 hf85 HRR HCA
                go_wp2_with (refine wpList_load_mid rfl 34 (.tmp 52) rfl X 1 rfl _ _ (unhide HRR5) Try.underlying34 rfl hsr ?_)
                refine (unhide HFM).mono ?_
                rintro e w6 ⟨rfl, hf6⟩
                rw [hfm]
                have hf86 := (unhide HF5).trans0 hf6
                have hbi : w6.heap[w4.heap.size]? = some (.cells #[.int .u32 0, .int .u32 0] 29) := (hf6.block _ (by simp) (fun h => h)).trans (heap_alloc_new w4 _)
                have HRId : Hid (w6.rangeAt w4.heap.size 0 [.int .u32 0, .int .u32 0]) := hide (range_of_block (t := 29) hbi)
                have hq : ∀ w : World, (binOp .neq 29 (.agg #[.int .u32 0, .int .u32 0]) (.agg #[.int .u32 0, .int .u32 0])).run Try.prog w = .ok (.bool false) w := fun w => by
                  have := neq_id 0 0 0 0 w
                  simpa using this
                have HPn := hide (((unhide HP8).fr0 hf86).up)
                clear hf6 hf86 hbi HF5 HFM HRR5
                have cB1 : w6.cell? ⟨B, 1, none⟩ = some (.slice ao LN cap) := cell_of_blk (unhide HPn).b rfl
                go_wp2_with (first | refine wpList_load_midG rfl 29 (.tmp 10) rfl w4.heap.size 0 rfl _ _ (unhide HRId) Try.underlying29 rfl Try.sizeId2 ?_ | fail)
                go_meet
                case rel => exact ⟨cs, dn, T, (.slice ao LN cap), l, unhide HPn⟩
              · subst h1
                have hcl : cs.length = LN := by rw [← (unhide HP8).R.n]; exact hLN
                have hL4 : LN < 4096 := by have := (unhide HP8).s.len; omega
                have hLI : ¬ (4096 : Int) ≤ (LN : Int) := by omega
                have hwL := wrapS LN (by omega)
                have hrd8 := (unhide HOK).f.fr0 (unhide HP8).f
                have hca := (unhide HP8).s.call r F hrd8 (unhide HOK).l (unhide HOK).b hfm (by omega)
                rw [hcl] at hca
                have HFMG : Hid (∀ W, Fr (fun _ => False) w W → Calls Try.prog 20 #[r.v] W fun e w' => e = .returned (.bool true) ∧ Fr (fun _ => False) W w') := hide (fun W hf => by
                  have := formed_any r F W (rd_fds ((unhide HOK).f.fr0 hf)) (by have := (unhide HOK).l; simp only at this; omega) (unhide HOK).b
                  rw [hfm] at this
                  exact this)
                have HRR : Hid (W8.rangeAt X 1 r.cs) := hide (fun j u hu => cell_of_blk (unhide HB8) (by
                  have := (List.getElem?_eq_some_iff.1 hu).1
                  simp only [OG.xs, List.getElem?_toArray]
                  rw [Nat.add_comm 1 j, List.getElem?_cons_succ, List.getElem?_append_left this]
                  exact hu))
                obtain ⟨rfo, rfc, hfe, _⟩ := (unhide HOK).f.f
                have HRDW : Hid (Rd w r.fv F.length 5 (fcells F) ∧ F.length ≤ 1048576) := hide ⟨(unhide HOK).f, (unhide HOK).l⟩
                obtain ⟨rcl, rnu, rac, rop, rrc, rve, rwa, row, rfv, rrs⟩ := r
                simp only at hfe HRDW
                subst hfe
                simp only [RQ.v, RQ.cs] at hca HFMG HRR
                have HCA := hide hca
                clear hca hrd8
                go_wp2_with (first | refine wpList_load_mid rfl 62 (.tmp 39) rfl g (a + k * 46) rfl _ _ (unhide HRG) Try.underlying62 rfl (unhide HSZ) ?_ | refine wpList_stN rfl 62 (.tmp 9) (.tmp 40) rfl _ _ rfl rfl (unhide HST) ?_ | refine wpList_load_mid rfl 34 (.tmp 47) rfl X 1 rfl _ _ (unhide HRR) Try.underlying34 rfl Try.sizeRq ?_)
                refine (unhide HCA).mono ?_
                rintro e w4 ⟨rfl, ⟨sv, hs4⟩, hf4⟩
                clear HCA
                have hfw4 : Fr (fun _ => False) w w4 := (unhide HP8).f.trans hf4 (fun g hg e => by have := ((unhide HP8).t g e).1; omega)
                have hX8 := lt_of_block (unhide HB8)
                have hB8 := lt_of_block (unhide HP8).b
                have z4 := hf4.size
                have hTX : ¬ T X := fun h => (unhide HXT) X h rfl
                have hTB : ¬ T B := fun h => ((unhide HP8).t B h).2.1 rfl
                have hbB4 := (hf4.block B hB8 hTB).trans (unhide HP8).b
                have hO4 : OwC w4 w.heap.size (.slice ao LN cap) l := (unhide HP8).o.fr hf4 (fun g hg e => ((unhide HP8).t g e).2.2 hg)
                obtain ⟨W5, hW5⟩ : ∃ W5, w4.alloc (.cells #[.int .u32 (c : Nat), .int .u32 ((LN : Int) + 1)] 29) = W5 := ⟨_, rfl⟩
                have f45 : Fr (fun _ => False) w4 W5 := by rw [← hW5]; exact box1 _ _
                have z5 : W5.heap.size = w4.heap.size + 1 := by rw [← hW5]; simp
                have hbI5 : W5.heap[w4.heap.size]? = some (.cells #[.int .u32 (c : Nat), .int .u32 ((LN : Int) + 1)] 29) := by rw [← hW5]; exact heap_alloc_new w4 _
                have HRR5 : Hid (W5.rangeAt X 1 [.int .u32 (rcl : Nat), .int .u32 (rnu : Nat), .int .u32 (rac : Nat), .int .u8 (rop : Nat), .int .u32 (rrc : Nat), .int .u32 (rve : Nat), .int .u32 (rwa : Nat), .int .u32 (row : Nat), .slice rfo F.length rfc, .string rrs]) := hide (fun j u hu => (f45.cell (p := ⟨X, 1 + j, none⟩) (Nat.lt_of_lt_of_le hX8 z4) (fun h => h)).trans ((hf4.cell (p := ⟨X, 1 + j, none⟩) hX8 hTX).trans ((unhide HRR) j u hu)))
                have HFM := hide ((unhide HFMG) W5 (hfw4.trans0 f45))
                have HK4 := hide (And.intro hs4 (And.intro hfw4 (And.intro hbB4 (And.intro hO4 (And.intro f45 (And.intro hbI5 (And.intro z5 (And.intro z4 hB8))))))))
                clear hs4 hfw4 hbB4 hO4 f45 hbI5 z5 z4 hf4 HRR HFMG
                go_wp2_with (refine wpList_load_mid rfl 34 (.tmp 52) rfl X 1 rfl _ _ (unhide HRR5) Try.underlying34 rfl Try.sizeRq ?_)
                refine (unhide HFM).mono ?_
                rintro e w6 ⟨rfl, hf6⟩
                clear HFM
                obtain ⟨hs4, hfw4, hbB4, hO4, f45, hbI5, z5, z4, _⟩ := unhide HK4
                have f46 : Fr (fun _ => False) w4 w6 := f45.trans0 hf6
                have z6 := hf6.size
                obtain ⟨R, hRe⟩ : ∃ R, w6.heap.size = R := ⟨_, rfl⟩
                obtain ⟨W7, hW7⟩ : ∃ W7, w6.alloc (.cells #[.int .u32 (rcl : Nat), .int .u32 (rnu : Nat), .int .u32 (rac : Nat), .int .u8 (rop : Nat), .int .u32 (rrc : Nat), .int .u32 (rve : Nat), .int .u32 (rwa : Nat), .int .u32 (row : Nat), .slice rfo F.length rfc, .string rrs] 34) = W7 := ⟨_, rfl⟩
                have f67 : Fr (fun _ => False) w6 W7 := by rw [← hW7]; exact box1 _ _
                have z7 : W7.heap.size = R + 1 := by rw [← hW7, ← hRe]; simp
                have hbR7 : W7.heap[R]? = some (.cells #[.int .u32 (rcl : Nat), .int .u32 (rnu : Nat), .int .u32 (rac : Nat), .int .u8 (rop : Nat), .int .u32 (rrc : Nat), .int .u32 (rve : Nat), .int .u32 (rwa : Nat), .int .u32 (row : Nat), .slice rfo F.length rfc, .string rrs] 34) := by rw [← hW7, ← hRe]; exact heap_alloc_new w6 _
                have f47 := f46.trans0 f67
                have f57 := hf6.trans0 f67
                have hbB7 := (f47.block B (lt_of_block hbB4) (fun h => h)).trans hbB4
                have hbB6 := (f46.block B (lt_of_block hbB4) (fun h => h)).trans hbB4
                have cB6 : w6.cell? ⟨B, 1, none⟩ = some (.slice ao LN cap) := cell_of_blk hbB6 rfl
                have cB7 : W7.cell? ⟨B, 1, none⟩ = some (.slice ao LN cap) := cell_of_blk hbB7 rfl
                have HRB7 : Hid (W7.rangeAt B 0 [.int .u32 (c : Nat), .slice ao LN cap, .int .i64 (dn.length : Nat)]) := hide (range_of_block hbB7)
                have HRR6 : Hid (w6.rangeAt X 1 [.int .u32 (rcl : Nat), .int .u32 (rnu : Nat), .int .u32 (rac : Nat), .int .u8 (rop : Nat), .int .u32 (rrc : Nat), .int .u32 (rve : Nat), .int .u32 (rwa : Nat), .int .u32 (row : Nat), .slice rfo F.length rfc, .string rrs]) := hide (fun j u hu => (hf6.cell (p := ⟨X, 1 + j, none⟩) (show X < W5.heap.size by omega) (fun h => h)).trans ((unhide HRR5) j u hu))
                have HGI : Hid (Calls Try.prog 21 #[.agg #[.int .u32 (c : Nat), .slice ao LN cap, .int .i64 (dn.length : Nat)], .int .i64 ((LN : Int) + 1)] W7 fun e w' => e = .returned (.agg #[.int .u32 (c : Nat), .int .u32 ((LN : Int) + 1)]) ∧ Fr (fun _ => False) W7 w') := hide (gid_any c (.slice ao LN cap) dn.length (LN + 1) W7 (by omega))
                have HK7 := hide (And.intro f47 (And.intro hbR7 (And.intro hbB7 (And.intro z7 (And.intro z6 (And.intro hRe f57))))))
                clear hs4 hfw4 hbB4 hO4 f45 hbI5 z5 z4 f46 f67 f57 f47 hbR7 hbB7 hbB6 z7 z6 hf6 HRR5 hW5
                go_wp2_with (first | refine wpList_load_mid rfl 34 (.tmp 74) rfl X 1 rfl _ _ (unhide HRR6) Try.underlying34 rfl Try.sizeRq ?_ | refine wpList_load_mid rfl 60 (.tmp 7) rfl B 0 rfl _ _ (unhide HRB7) Try.underlying60 rfl Try.sizeRs ?_)
                refine (unhide HGI).mono ?_
                rintro e w8 ⟨rfl, hf8⟩
                clear HGI
                obtain ⟨hs4, hfw4, hbB4, hO4, f45, hbI5, z5, z4, hB8'⟩ := unhide HK4
                obtain ⟨f47, hbR7, hbB7, z7, z6, _, f57⟩ := unhide HK7
                have z8 := hf8.size
                have hbR8 := (hf8.block R (lt_of_block hbR7) (fun h => h)).trans hbR7
                obtain ⟨W9, hst9, ⟨fs', hb9, _, h3, h4⟩, f9⟩ := st_mid (P := Try.prog) (ty := 29) (o := 0) ([] ++ ([.int .u32 (rcl : Nat), .int .u32 (rnu : Nat)] ++ [.int .u32 (rac : Nat), .int .u8 (rop : Nat), .int .u32 (rrc : Nat), .int .u32 (rve : Nat), .int .u32 (rwa : Nat), .int .u32 (row : Nat), .slice rfo F.length rfc, .string rrs])) [.int .u32 (c : Nat), .int .u32 ((LN : Int) + 1)] hbR8 (by simp) Try.sizeId2 (fun u hu => by simp at hu; rcases hu with rfl | rfl <;> rfl)
                have e9 : fs' = ([] ++ ([.int .u32 (c : Nat), .int .u32 ((LN : Int) + 1)] ++ [.int .u32 (rac : Nat), .int .u8 (rop : Nat), .int .u32 (rrc : Nat), .int .u32 (rve : Nat), .int .u32 (rwa : Nat), .int .u32 (row : Nat), .slice rfo F.length rfc, .string rrs]) : List Value) := mid_eq (pre := []) (olds := [.int .u32 (rcl : Nat), .int .u32 (rnu : Nat)]) rfl h3 h4
                subst e9
                simp only [List.nil_append, List.cons_append] at hb9
                have hBR : B ≠ R := fun e => by omega
                have f49 : Fr (fun _ => False) w4 W9 := (f47.trans0 hf8).trans f9 (fun g hg e => by omega)
                have z9 := f9.size
                have hbB9 := (f49.block B (lt_of_block hbB4) (fun h => h)).trans hbB4
                have cB9 : W9.cell? ⟨B, 1, none⟩ = some (.slice ao LN cap) := cell_of_blk hbB9 rfl
                obtain ⟨ao1, cap1, W10, hap1, ho10, f10⟩ := app_cls W9 w.heap.size (.slice ao LN cap) l (fun y hy => ((unhide HP8).R.k y hy).1.one) (hO4.fr0 f49) (by omega)
                rw [hLN] at hap1 ho10
                have hbR10 := (f10.block R (lt_of_block hb9) (fun h => h)).trans hb9
                have HRN10 : Hid (W10.rangeAt R 0 [.int .u32 (c : Nat), .int .u32 ((LN : Int) + 1), .int .u32 (rac : Nat), .int .u8 (rop : Nat), .int .u32 (rrc : Nat), .int .u32 (rve : Nat), .int .u32 (rwa : Nat), .int .u32 (row : Nat), .slice rfo F.length rfc, .string rrs]) := hide (range_of_block hbR10)
                have z10 := f10.size
                obtain ⟨ao2, cap2, W11, hap2, ho11, f11, ht11⟩ := app_cl W10 W9.heap.size (.slice ao1 LN cap1) l (⟨⟨c, LN + 1, rac, rop, rrc, rve, rwa, row, .slice rfo F.length rfc, rrs⟩, F, 0, ⟨0, 0, 0, 0, 0, .slice none 0 0, .slice none 0 0⟩, [], [], 0, 0⟩ : RC) (List.all_eq_true.1 (show List.all (RC.cs (⟨⟨c, LN + 1, rac, rop, rrc, rve, rwa, row, .slice rfo F.length rfc, rrs⟩, F, 0, ⟨0, 0, 0, 0, 0, .slice none 0 0, .slice none 0 0⟩, [], [], 0, 0⟩ : RC)) (fun v => v.oneCell') = true from rfl)) ho10 z10 (by omega)
                obtain ⟨LQ, hLQ⟩ : ∃ n, LN + 1 = n := ⟨_, rfl⟩
                rw [hLN] at hap2 ho11 ht11
                have ho11 : OwC W11 W9.heap.size (.slice ao2 LQ cap2) (l ++ [(⟨⟨c, LN + 1, rac, rop, rrc, rve, rwa, row, .slice rfo F.length rfc, rrs⟩, F, 0, ⟨0, 0, 0, 0, 0, .slice none 0 0, .slice none 0 0⟩, [], [], 0, 0⟩ : RC)]) := by rw [← hLQ]; exact ho11
                have ht11 : ∀ g, (Value.slice ao2 LQ cap2).ownBlock = some g → (Value.slice ao1 LN cap1).ownBlock = some g ∨ W10.heap.size ≤ g := by rw [← hLQ]; exact ht11
                have hap2' : (Builtin.append_ #[58, 58] 58 #[.slice ao1 LN cap1, .slice (some ⟨W10.heap.size, 0, none⟩) 1 1]).run Try.prog (W10.alloc (.cells #[.int .u32 (c : Nat), .int .u32 ((LN : Int) + 1), .int .u32 (rac : Nat), .int .u8 (rop : Nat), .int .u32 (rrc : Nat), .int .u32 (rve : Nat), .int .u32 (rwa : Nat), .int .u32 (row : Nat), .slice rfo F.length rfc, .string rrs, .int .i64 0, .int .u32 0, .int .u32 0, .int .u8 0, .int .u32 0, .int .u32 0, .slice none 0 0, .slice none 0 0, .int .u8 0, .int .i64 0] 66)) = .ok (.slice ao2 LQ cap2) W11 := by rw [← hLQ]; exact hap2
                have z11 := f11.size
                have hown1 : ∀ g, (Value.slice ao1 LN cap1).ownBlock = some g → W9.heap.size ≤ g := fun g hg => (ho10.lt g hg).1
                have f411 : Fr (fun _ => False) w4 W11 := (f49.trans0 f10).trans f11 (fun g hg e => by have := hown1 g e; have := f49.size; omega)
                have hbB11 := (f411.block B (lt_of_block hbB4) (fun h => h)).trans hbB4
                have cB11 : W11.cell? ⟨B, 1, none⟩ = some (.slice ao LN cap) := cell_of_blk hbB11 rfl
                have zB11 : W11.frozen? ⟨B, 1, none⟩ = false := by simp [World.frozen?, hbB11]
                obtain ⟨W12, hW12⟩ : ∃ W12, W11.setCell ⟨B, 1, none⟩ (.slice ao2 LQ cap2) = W12 := ⟨_, rfl⟩
                have f12 : Fr (fun k => k = B) W11 W12 := by rw [← hW12]; exact (Fr.refl (fun k => k = B) _).setCell (p := ⟨B, 1, none⟩) (.inl rfl) _
                have hbB12 : W12.heap[B]? = some (.cells #[.int .u32 (c : Nat), .slice ao2 LQ cap2, .int .i64 (dn.length : Nat)] 60) := by
                  rw [← hW12, blkset hbB11]
                  simp
                have hown2 : ∀ g, (Value.slice ao2 LQ cap2).ownBlock = some g → W9.heap.size ≤ g := fun g hg => by
                  rcases ht11 g hg with e | e
                  · exact hown1 g e
                  · omega
                have s49 := f49.size
                have hI4 : w4.heap.size < W9.heap.size := by omega
                have HPn : Hid (PJ w W12 d B c (k + 1) (cs ++ [⟨⟨c, LN + 1, rac, rop, rrc, rve, rwa, row, sv, rrs⟩, F, 0, 0, none⟩]) dn (Tn T W8 w4) (.slice ao2 LQ cap2) (l ++ [(⟨⟨c, LN + 1, rac, rop, rrc, rve, rwa, row, .slice rfo F.length rfc, rrs⟩, F, 0, ⟨0, 0, 0, 0, 0, .slice none 0 0, .slice none 0 0⟩, [], [], 0, 0⟩ : RC)])) := hide (PJ.box (hs4.fr0 f411) (hfw4.trans0 f411) (fun g hg => ⟨by
                    rcases hg with hg | hg
                    · exact ((unhide HP8).t g hg).1
                    · have := (unhide HP8).f.size; have := hg.1; omega, fun e => by
                    rcases hg with hg | hg
                    · exact ((unhide HP8).t g hg).2.1 e
                    · have := hg.1; omega, fun e => by
                    have := hown2 g e
                    have := hs4.lt g hg
                    omega⟩) (ownsRow_base ho11 (Nat.le_trans (hfw4.trans0 f49).size (Nat.le_refl _))) (fun e => by have := hown2 B e; omega) ((unhide HP8).R.call ⟨c, LN + 1, rac, rop, rrc, rve, rwa, row, sv, rrs⟩ F (.slice rfo F.length rfc) (unhide HRDW).1 (unhide HRDW).2) (fun q hq => by
                    rcases List.mem_append.1 hq with hq | hq
                    · have := (unhide HP8).n q hq; omega
                    · simp at hq; subst hq; exact Nat.zero_le _) (by have := (unhide HP8).dl; omega) (unhide HP8).bw f12 hbB12)
                have f59 : Fr (fun _ => False) W5 W9 := (f57.trans0 hf8).trans f9 (fun g hg e => by omega)
                have s59 := f59.size
                have f511 : Fr (fun _ => False) W5 W11 := (f59.trans0 f10).trans f11 (fun g hg e => by have := hown1 g e; omega)
                have hIB : w4.heap.size ≠ B := fun e => by omega
                have hI11 : w4.heap.size < W11.heap.size := by omega
                have hbI12 := (f12.block _ hI11 (fun e => hIB e)).trans ((f511.block _ (lt_of_block hbI5) (fun h => h)).trans hbI5)
                have hR9 : R < W9.heap.size := lt_of_block hb9
                have hbR12 := (f12.block R (by omega) (fun e => hBR e.symm)).trans ((f11.block R (by omega) (fun e => by have := hown1 R e; omega)).trans hbR10)
                have HRI12 : Hid (W12.rangeAt w4.heap.size 0 [.int .u32 (c : Nat), .int .u32 ((LN : Int) + 1)]) := hide (range_of_block hbI12)
                have HRJ12 : Hid (W12.rangeAt R 0 [.int .u32 (c : Nat), .int .u32 ((LN : Int) + 1)]) := hide (fun j u hu => cell_of_blk hbR12 (by
                  match j, (List.getElem?_eq_some_iff.1 hu).1 with
                  | 0, _ => exact hu
                  | 1, _ => exact hu))
                have hq : ∀ w : World, (binOp .neq 29 (.agg #[.int .u32 (c : Nat), .int .u32 ((LN : Int) + 1)]) (.agg #[.int .u32 (c : Nat), .int .u32 ((LN : Int) + 1)])).run Try.prog w = .ok (.bool false) w := fun w => by
                  have := neq_id c (LN + 1) c (LN + 1) w
                  simpa using this
                have HAP1 := hide hap1
                have HAP2 := hide hap2'
                have HST9 := hide hst9
                have HLL : Hid (LN + 1 = LQ) := hide hLQ
                have hlq : LQ ≤ 4096 := by omega
                clear hs4 hfw4 hbB4 hO4 f45 hbI5 z5 z4 f47 hbR7 hbB7 z7 z6 z8 hbR8 hst9 hb9 h3 h4 f9 f49 z9 hbB9 hap1 ho10 f10 hbR10 z10 hap2 hap2' ho11 f11 ht11 z11 hown1 f411 hbB11 f12 hbB12 hown2 s49 hI4 f57 f59 s59 f511 hbI12 hR9 hbR12 hLQ HK4 HK7 hf8 hW7 hRe
                try clear HXT
                try clear HXB
                try clear HXV
                try clear HOK
                try clear HB8
                try clear HSZ
                try clear HRG
                try clear HST
                try clear c0
                try clear HP8
                try clear HRDW
                try clear hcl
                try clear hL4
                try clear hLI
                try clear hfm
                try clear hfull
                try clear hTX
                try clear hTB
                try clear hX8
                try clear hB8
                try clear hRR6
                try clear HRR6
                try clear HRB7
                try clear cB6
                try clear cB7
                try clear hBR
                try clear hIB
                try clear hI11
                try clear HMS
                try clear hjj
                try clear hLN
                try clear hwL
                go_wp2_with (first | refine wpList_stN rfl 29 (.tmp 82) (.tmp 81) rfl _ _ rfl rfl (unhide HST9) ?_ | refine wpList_app rfl (.tmp 83) (.tmp 85) 58 58 rfl _ _ _ (by simp [Act.eval]) (by simp [Act.eval]) (unhide HAP1) ?_ | refine wpList_load_mid rfl 34 (.tmp 12) rfl R 0 rfl _ _ (unhide HRN10) Try.underlying34 rfl Try.sizeRq ?_ | refine wpList_app rfl (.tmp 87) (.tmp 90) 58 58 rfl _ _ _ (by simp [Act.eval]) (by simp [Act.eval]) (unhide HAP2) ?_ | refine wpList_load_midG rfl 29 (.tmp 10) rfl w4.heap.size 0 rfl _ _ (unhide HRI12) Try.underlying29 rfl Try.sizeId2 ?_ | refine wpList_load_midG rfl 29 (.tmp 97) rfl R 0 rfl _ _ (unhide HRJ12) Try.underlying29 rfl Try.sizeId2 ?_ | fail)
                go_meet
                case rel => exact ⟨(cs ++ [⟨⟨c, LN + 1, rac, rop, rrc, rve, rwa, row, sv, rrs⟩, F, 0, 0, none⟩]), dn, (Tn T W8 w4), (.slice ao2 LQ cap2), (l ++ [(⟨⟨c, LN + 1, rac, rop, rrc, rve, rwa, row, .slice rfo F.length rfc, rrs⟩, F, 0, ⟨0, 0, 0, 0, 0, .slice none 0 0, .slice none 0 0⟩, [], [], 0, 0⟩ : RC)]), unhide HPn⟩
          · by_cases h2 : ki = 2
            · subst h2
              have hmk := (unhide HOK).m
              have hsm : (Try.prog.info? 49).map (·.size) = some m.xs.length := by rw [hmk.len]; exact Try.sizeMs
              have HRM : Hid (W8.rangeAt X 11 m.xs) := hide (fun j u hu => cell_of_blk (unhide HB8) (by rw [Nat.add_comm 11 j]; simpa [OG.xs, RQ.cs] using hu))
              have HRB : Hid (W8.rangeAt B 0 [.int .u32 (c : Nat), .slice ao LN cap, .int .i64 (dn.length : Nat)]) := hide (range_of_block (unhide HP8).b)
              obtain ⟨rr, dn', l', hT⟩ := both_take (unhide HP8).s (unhide HP8).f m hmk w.heap.size (.slice ao LN cap) (unhide HP8).o (unhide HP8).f.size (unhide HP8).R (by have := (unhide HP8).dl; omega) k (by omega) (unhide HP8).n
              have HT := hide hT
              clear hT
              go_wp2_with (first | refine wpList_load_mid rfl 62 (.tmp 39) rfl g (a + k * 46) rfl _ _ (unhide HRG) Try.underlying62 rfl (unhide HSZ) ?_ | refine wpList_stN rfl 62 (.tmp 9) (.tmp 40) rfl _ _ rfl rfl (unhide HST) ?_ | refine wpList_load_mid rfl 60 (.tmp 7) rfl B 0 rfl _ _ (unhide HRB) Try.underlying60 rfl Try.sizeRs ?_ | refine wpList_load_mid rfl 49 (.tmp 105) rfl X 11 rfl _ _ (unhide HRM) Try.underlying49 rfl hsm ?_)
              refine (unhide HT).ref.mono ?_
              rintro e w4 ⟨v', rfl, ho4, hf4, hv4⟩
              obtain ⟨bo, bcap, e4⟩ := own_formX ho4
              obtain ⟨LM, hLM⟩ : ∃ n, l'.length = n := ⟨_, rfl⟩
              rw [hLM] at e4
              subst e4
              obtain ⟨W5, hW5⟩ : ∃ W5, w4.alloc (.cells #[.int .u32 (c : Nat), .slice bo LM bcap, .int .i64 (dn'.length : Nat)] 60) = W5 := ⟨_, rfl⟩
              have hf85 : Fr (fun _ => False) W8 W5 := by rw [← hW5]; exact hf4.trans0 (box1 _ _)
              have HRU : Hid (W5.rangeAt w4.heap.size 0 [.int .u32 (c : Nat), .slice bo LM bcap, .int .i64 (dn'.length : Nat)]) := hide (by rw [← hW5]; exact range_of_block (heap_alloc_new w4 _))
              have hb5 := (hf85.block B (lt_of_block (unhide HP8).b) (fun h => h)).trans (unhide HP8).b
              obtain ⟨W6, hst6, hb6, hf6⟩ := st_all (P := Try.prog) (ty := 60) [.int .u32 (c : Nat), .slice ao LN cap, .int .i64 (dn.length : Nat)] [.int .u32 (c : Nat), .slice bo LM bcap, .int .i64 (dn'.length : Nat)] hb5 rfl Try.sizeRs (fun u hu => by simp at hu; rcases hu with rfl | rfl | rfl <;> rfl)
              have hXB : X ≠ B := fun e => by have := unhide HXB; omega
              have hX5 : X < W5.heap.size := Nat.lt_of_lt_of_le (lt_of_block (unhide HB8)) hf85.size
              have HRM6 : Hid (W6.rangeAt X 11 m.xs) := hide (fun j u hu => (hf6.cell (p := ⟨X, 11 + j, none⟩) hX5 (fun e => hXB e)).trans ((hf85.cell (p := ⟨X, 11 + j, none⟩) (lt_of_block (unhide HB8)) (fun h => h)).trans ((unhide HRM) j u hu)))
              have HST6 := hide hst6
              have hS6 : SS W6 d c cs dn T := ((unhide HP8).s.fr0 hf85).fr hf6 (fun g hg e => ((unhide HP8).t g hg).2.1 e)
              have hf86 : Fr (fun _ => False) w W6 := ((unhide HP8).f.trans0 hf85).trans hf6 (fun g hg e => by have := (unhide HP8).bw; omega)
              have HSES := hide ((unhide HT).ses W6 hS6 (hmk.fr0 hf86))
              have hvB : (Value.slice bo LM bcap).ownBlock ≠ some B := fun e => by
                rcases hv4 B e with e | e
                · exact (unhide HP8).vb e
                · have := lt_of_block (unhide HP8).b; omega
              have ho6 : OwC W6 w.heap.size (.slice bo LM bcap) l' := (ho4.fr0 (by rw [← hW5]; exact box1 w4 _)).fr hf6 (fun g hg e => hvB (by rw [hg, e]))
              have hv6 : ∀ g, T g → (Value.slice bo LM bcap).ownBlock ≠ some g := fun g hg e => by
                rcases hv4 g e with e | e
                · exact ((unhide HP8).t g hg).2.2 e
                · have := (unhide HP8).s.lt g hg; omega
              have HQ := hide (And.intro hvB (And.intro ho6 (And.intro hv6 (And.intro hf86 (And.intro hb6 hS6)))))
              clear hb5 hst6 hb6 hf6 hX5 hS6 hf86 hvB ho6 hv6 ho4 hf4 hv4 hf85 HRM HRB
              go_wp2_with (first | refine wpList_load_mid rfl 60 (.tmp 14) rfl w4.heap.size 0 rfl _ _ (unhide HRU) Try.underlying60 rfl Try.sizeRs ?_ | refine wpList_stN rfl 60 (.tmp 7) (.tmp 110) rfl _ _ rfl rfl (unhide HST6) ?_ | refine wpList_load_mid rfl 49 (.tmp 112) rfl X 11 rfl _ _ (unhide HRM6) Try.underlying49 rfl hsm ?_)
              refine (unhide HSES).mono ?_
              rintro e w7 ⟨cs', rfl, hs7, hf7, hR7, hn7⟩
              have HPn : Hid (PJ w w7 d B c (k + 1) cs' dn' (Tn T W6 w7) (.slice bo LM bcap) l') := hide (by
                obtain ⟨hvB, ho6, hv6, hf86, hb6, hS6⟩ := unhide HQ
                have hTB : ¬ T B := fun h => ((unhide HP8).t B h).2.1 rfl
                refine ⟨hs7, hf86.trans hf7 (fun g hg e => by have := ((unhide HP8).t g e).1; omega), fun g hg => ?_, ho6.fr hf7 (fun g hg e => hv6 g e hg), hvB, hR7, hn7, ?_, (hf7.block B (lt_of_block hb6) hTB).trans hb6, (unhide HP8).bw⟩
                · rcases hg with hg | hg
                  · exact ⟨((unhide HP8).t g hg).1, ((unhide HP8).t g hg).2.1, hv6 g hg⟩
                  · refine ⟨Nat.le_trans hf86.size hg.1, fun e => ?_, fun e => ?_⟩
                    · have := lt_of_block hb6; have := hg.1; omega
                    · have := (ho6.lt g e).2; have := hg.1; omega
                · have := (unhide HT).dl; have := (unhide HP8).dl; omega)
              clear hs7 hf7 hR7 hn7 HQ HSES HT HRU HST6 HRM6 hW5
              clear hLN
              have hLN := hLM
              go_wp2_with fail
              go_meet
              case rel => exact ⟨cs', dn', (Tn T W6 w7), (.slice bo LM bcap), l', unhide HPn⟩
            · by_cases h3 : ki = 3
              · subst h3
                have hmk := (unhide HOK).m
                have HRI : Hid (W8.rangeAt X 22 [.int .u32 (m.icl : Nat), .int .u32 (m.inu : Nat)]) := hide (fun j u hu => by
                  match j, (List.getElem?_eq_some_iff.1 hu).1 with
                  | 0, _ => exact (Option.some.inj hu) ▸ cell_of_blk (unhide HB8) (by simpa [OG.xs, RQ.cs] using hmk.x.i1)
                  | 1, _ => exact (Option.some.inj hu) ▸ cell_of_blk (unhide HB8) (by simpa [OG.xs, RQ.cs] using hmk.x.i2))
                have HRB : Hid (W8.rangeAt B 0 [.int .u32 (c : Nat), .slice ao LN cap, .int .i64 (dn.length : Nat)]) := hide (range_of_block (unhide HP8).b)
                go_wp2_with (first | refine wpList_load_mid rfl 62 (.tmp 39) rfl g (a + k * 46) rfl _ _ (unhide HRG) Try.underlying62 rfl (unhide HSZ) ?_ | refine wpList_stN rfl 62 (.tmp 9) (.tmp 40) rfl _ _ rfl rfl (unhide HST) ?_ | refine wpList_load_mid rfl 60 (.tmp 7) rfl B 0 rfl _ _ (unhide HRB) Try.underlying60 rfl Try.sizeRs ?_ | refine wpList_load_mid rfl 29 (.tmp 122) rfl X 22 rfl _ _ (unhide HRI) Try.underlying29 rfl Try.sizeId2 ?_)
                refine (looked_any (unhide HP8).s (unhide HP8).f _ _ (unhide HP8).o (unhide HP8).R hc32 m.icl m.inu hmk.bi hmk.bn).mono ?_
                rintro e w4 ⟨rfl, hf4⟩
                have HPn := hide (((unhide HP8).fr0 hf4).up)
                clear hf4 HRI HRB
                go_wp2_with fail
                go_meet
                case rel => exact ⟨cs, dn, T, (.slice ao LN cap), l, unhide HPn⟩
              · have n1 : ¬ ki = 1 := h1
                have b1 : (ki == 1) = false := by simpa using h1
                have b2 : (ki == 2) = false := by simpa using h2
                have b3 : (ki == 3) = false := by simpa using h3
                have HPn := hide (unhide HP8).up
                go_wp2_with (first | refine wpList_load_mid rfl 62 (.tmp 39) rfl g (a + k * 46) rfl _ _ (unhide HRG) Try.underlying62 rfl (unhide HSZ) ?_ | refine wpList_stN rfl 62 (.tmp 9) (.tmp 40) rfl _ _ rfl rfl (unhide HST) ?_ | fail)
                go_meet
                case rel => exact ⟨cs, dn, T, (.slice ao LN cap), l, unhide HPn⟩
        case rest =>
          obtain ⟨cs2, dn2, T2, v2, l2, hP2⟩ := hcut
          have HPn := hide hP2
          clear hP2
          obtain ⟨LM, hLM⟩ : ∃ n, l2.length = n := ⟨_, rfl⟩
          have hvf2 := own_formX (unhide HPn).o
          rw [hLM] at hvf2
          obtain ⟨bo, bcap, rfl⟩ := hvf2
          clear hLM
          have HRC : Hid (wc.rangeAt B 0 [.int .u32 (c : Nat), .slice bo LM bcap, .int .i64 (dn2.length : Nat)]) := hide (range_of_block (unhide HPn).b)
          have cB1 : wc.cell? ⟨B, 1, none⟩ = some (.slice bo LM bcap) := cell_of_blk (unhide HPn).b rfl
          have HTD : Hid (Calls Try.prog 24 #[.pointer (some ⟨d, 0, none⟩), .agg #[.int .u32 (c : Nat), .slice bo LM bcap, .int .i64 (dn2.length : Nat)]] wc fun e w' => e = .returned (.bool true) ∧ Fr (fun _ => False) wc w') := hide (told_any (unhide HPn).s (unhide HPn).f _ _ (unhide HPn).o (unhide HPn).R (by have := (unhide HPn).dl; omega))
          have hwk := wrapS k (by omega)
          by_cases h100 : LM < 100
          · have e100 : (LM : Int) < 100 := by omega
            go_wp2_with (refine wpList_load_midG rfl 60 (.tmp 7) rfl B 0 rfl _ _ (unhide HRC) Try.underlying60 rfl Try.sizeRs ?_)
            refine (unhide HTD).mono ?_
            rintro e w9 ⟨rfl, hf9⟩
            have HPz := hide ((unhide HPn).fr0 hf9)
            clear hf9 HTD
            go_wp2_with fail
            go_roundw
            case rel => exact ⟨k + 1, cs2, dn2, T2, .slice bo LM bcap, l2, by omega, by go_num, unhide HPz⟩
            case measure => simp [intOf]; omega
          · have e100 : ¬ (LM : Int) < 100 := by omega
            go_wp2_with fail
            go_roundw
            case rel => exact ⟨k + 1, cs2, dn2, T2, .slice bo LM bcap, l2, by omega, by go_num, unhide HPn⟩
            case measure => simp [intOf]; omega
      · obtain rfl : k = N := by omega
        clear hlt
        have hl2 : ¬ (k : Int) < (k : Int) := by omega
        have HR : Hid (wr.rangeAt B 0 [.int .u32 (c : Nat), v, .int .i64 (dn.length : Nat)]) := hide (range_of_block (unhide HP).b)
        go_wp2_with (refine wpList_load_mid rfl 60 (.tmp 7) rfl B 0 rfl _ _ (unhide HR) Try.underlying60 rfl Try.sizeRs ?_)
        refine (told_any (unhide HP).s (unhide HP).f _ v (unhide HP).o (unhide HP).R (by have := (unhide HP).dl; omega)).mono ?_
        rintro e w9 ⟨rfl, hf9⟩
        go_wp2_with fail
        go_ret
        exact ⟨rfl, (unhide HP).f.trans0 hf9⟩
end Go.Proofs.Ytkiepcdncegniaa

namespace Go.Proofs.Ytkiepcdncegniaa
open Go.ChangeShapes Go.WideShapes Go.ChangeAt Go.RowKit
set_option maxRecDepth 100000

theorem seplays_lifted (os : Os) (started : os.Started) (H : Type) (enc : TypeId × Value → H) (F : Stop.Interp) :
    ReturnsInHanded {} Try.checked os 4 .any ((Rows.OpenSpec.upto Rows.sessionPlaysSpec).pre6 enc Try.prog Try.f4 Rows.sessionPlaysUptoRow.domain false) (((Rows.OpenSpec.upto Rows.sessionPlaysSpec).at F).post enc Try.prog Try.f4 false true false false) := by
  refine returnsInHanded_of_cond (C := Try.checked) (s := Rows.OpenSpec.upto Rows.sessionPlaysSpec) (k := Rows.uptoSmall) rfl Try.ownKnob started (by kernel_rfl) Try.func4
    (OpenSpec.witness (enc := enc) (C := Try.checked) (s := Rows.OpenSpec.upto Rows.sessionPlaysSpec) (k := Rows.uptoSmall) rfl false ⟨#[], #[.int .u32 0, .slice none 0 0], []⟩ 8 (by kernel_rfl) (by kernel_rfl) (by kernel_rfl)
      (x := ([.lit (.int .u32 0), .nil], [], [])) (by kernel_rfl) rfl (by kernel_rfl)) ?_
  intro W base args ds gs before hval0 hW _ hk _
  have hval : ∀ (j : Nat) t v, Try.f4.params[j]? = some t → args[j]? = some v → Value.okWide Try.prog W .any base t v := hval0
  have hW' := hW
  obtain ⟨p, q, hA0, hV, rfl, hfz, hnd⟩ := hW
  have hA : DataW.TrodAll enc Try.prog W 0 (fun _ => true) true Try.f4.params.toList args.toList ds p := hA0
  rw [Try.params4] at hA hval
  obtain ⟨v0, vs0, d0, ds0, p0, q0, hargs0, rfl, rfl, h0, r0⟩ := trodAll_cons hA
  obtain ⟨v1, vs1, d1, ds1, p1, q1, hargs1, rfl, rfl, h1, r1⟩ := trodAll_cons r0
  obtain ⟨rfl, rfl, rfl⟩ := trodAll_nil r1
  obtain rfl : args = #[v0, v1] := by cases args; simp_all
  obtain ⟨rfl, rfl⟩ := trodVars_none hV
  have hbulk : Rows.uptoBulk d0 + (Rows.uptoBulk d1 + 0) ≤ 1048576 := by
    have h := of_decide_eq_true hk
    simpa only [List.append_nil, Rows.uptoBulkAll] using h
  obtain ⟨z0, rfl, rfl, rfl, w0⟩ := open_int Try.underlying26 (hval 0 26 v0 rfl rfl) h0
  obtain ⟨k0, rfl, hk0⟩ := nat_u32 w0
  obtain ⟨A1, s1⟩ := og_of_reading (hval 1 57 v1 rfl rfl) h1 (by omega)
  clear hA0 hval0
  refine (splays_any W k0 hk0 v1 A1 s1).mono fun e W' ⟨he, hf⟩ => ?_
  subst he
  have hlt : ∀ x ∈ [] ++ (p1 ++ []), x.block < W.heap.size := fun x hx => hW'.lt x (by simpa using hx)
  have hb := hf.below
  refine ⟨_, rfl, _, _, _, [], [] ++ (p1 ++ []), [], hW', ?_, ?_, ?_, hb.frame _, fun h => by cases h⟩
  · exact trodAll_cons_mk (shut_bool Try.underlying4 true) trodAll_mk0
  · exact (trodAll_cons_mk (shut_int Try.underlying26 w0) (trodAll_cons_mk (Below.trod (by kernel_rfl) (by kernel_rfl) (by decide +kernel) h1 hb (fun x hx => hlt x (by simp [hx]))) trodAll_mk0))
  · rfl
theorem seplays_said : Rows.SessionPlaysUptoSaid :=
  OpenClaim.holds_of_cond 4 Try.f4 rfl rfl rfl rfl rfl rfl rfl ⟨rfl, rfl, rfl, rfl, rfl⟩ rfl rfl rfl rfl rfl (by kernel_rfl) Try.func4 (by kernel_rfl)
    (of_decide_eq_true (by kernel_rfl)) (by unfold Func.isWrapper; first | (rw [if_pos (by decide +kernel)]; kernel_rfl) | (rw [if_neg (by decide +kernel)]; exact ⟨rfl, rfl⟩))
    (fun os started H enc _ F => seplays_lifted os started H enc F)
#print axioms seplays_said
end Go.Proofs.Ytkiepcdncegniaa

