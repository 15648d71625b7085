import Derived.Test.YtkiepcdncegniaaZfi
import Derived.Test.YtkiepcdncegniaaZfr
namespace Go.Proofs.Ytkiepcdncegniaa
open Go.RowKit Go.Maps

/-- told, between two rounds. -/
structure TI (w4 wr : World) (DB D : Nat) (cs : List SC) (l : List RC) (m : Nat) (wv : Value) : Prop where
  f : Fr (fun g => g = DB) w4 wr
  w : OwN wr w4.heap.size wv (wlm cs m)
  d : ∃ xs, wr.ownsRow 0 3 1 (.slice (some ⟨DB, 0, none⟩) D D) D xs ∧ ∀ (i : Nat) (x : RC), i < m → l[i]? = some x → 0 < x.o → xs[x.o - 1]? = some (.int .i64 ((i : Int) + 1))
theorem flat_at {α : Type} (f : α → List Value) (z : Nat) (hz : ∀ a, (f a).length = z) : ∀ (l : List α) (i j : Nat) (x : α), l[i]? = some x → j < z → (l.flatMap f)[i * z + j]? = (f x)[j]?
  | [], i, j, x, h, _ => by simp at h
  | y :: r, 0, j, x, h, hj => by
    simp only [List.getElem?_cons_zero, Option.some.injEq] at h
    subst h
    rw [List.flatMap_cons, Nat.zero_mul, Nat.zero_add, List.getElem?_append_left (by rw [hz]; exact hj)]
  | y :: r, i + 1, j, x, h, hj => by
    have ih := flat_at f z hz r i j x (by simpa using h) hj
    rw [List.flatMap_cons, List.getElem?_append_right (by rw [hz, Nat.succ_mul]; omega), hz, ← ih]
    congr 1
    rw [Nat.succ_mul]
    omega
theorem SS.idq {w : World} {d c : Nat} {cs : List SC} {dn : List Nat} {T : Nat → Prop} (h : SS w d c cs dn T) {i : Nat} {q : SC} (hq : cs[i]? = some q) : q.r.cl = c ∧ q.r.nu = i + 1 := by
  obtain ⟨mw, ma, dv, h⟩ := h
  exact h.id i q hq
/-- What told's round looks at, where a request waits. -/
structure TW (W : World) (gh gt B K c m : Nat) (q : SC) (vv gv : Value) : Prop where
  h : W.rangeAt gh (K * 35) (hmsg (q.r.re vv))
  b : W.rangeAt B 0 (q.r.re gv).cs
  t : W.rangeAt gt (K * 35) (tmsg c (m + 1))
  i : W.rangeAt B 0 [.int .u32 (c : Nat), .int .u32 ((m : Int) + 1)]
theorem wl_le0 (cs : List SC) : (wl cs).length ≤ cs.length := by
  unfold wl
  have := List.length_filterMap_le (fun j => if (cs[j]?.any fun q => q.d.isNone) then some (j + 1) else none) (List.range cs.length)
  simpa using this
theorem told_wait {w0 w w4 wr W6 W3 : World} {d c DB D L m : Nat} {cs : List SC} {dn : List Nat} {T : Nat → Prop} {l : List RC} {R : List RQ} {hv tv wv : Value} (hs : SS w d c cs dn T) (hf : Fr (fun _ => False) w0 w) (hR : Rel w0 c cs dn l) (hf4 : Fr (fun _ => False) w W3) (hDB : w.heap.size ≤ DB) (hDB3 : DB < W3.heap.size) (hO : OutI W3 w4 c cs L hv tv R) (hL : (wl cs).length = L) (hT : TI w4 wr DB D cs l m wv) {x : RC} {q : SC} (hx : l[m]? = some x) (hq : cs[m]? = some q) (hd : q.d = none) (hb6 : W6.heap[wr.heap.size]? = some (.cells x.cs.toArray 66)) (hf6 : Fr (fun _ => False) wr W6) :
    ∃ K gh ch gt ct vv bo bc W7, (wlm cs m).length = K ∧ K < L ∧ L ≤ 4096 ∧ hv = .slice (some ⟨gh, 0, none⟩) L ch ∧ tv = .slice (some ⟨gt, 0, none⟩) L ct ∧ (Builtin.append_ #[38, 38] 38 #[wv, .slice (some ⟨W6.heap.size, 0, none⟩) 1 1]).run Try.prog (W6.alloc (.cells #[.int .i64 ((m : Int) + 1)] 3)) = .ok (.slice bo (K + 1) bc) W7 ∧ TI w4 W7 DB D cs l (m + 1) (.slice bo (K + 1) bc) ∧ (wlm cs (m + 1)).length = K + 1 ∧
      (∀ W', Fr (fun _ => False) W7 W' → TW W' gh gt wr.heap.size K c m q vv x.r.fv) ∧ (∀ W', Fr (fun _ => False) W7 W' → Calls Try.prog 39 #[.agg (hmsg (q.r.re vv)).toArray, .agg (q.r.re x.r.fv).cs.toArray] W' fun e w' => e = .returned (.bool true) ∧ Fr (fun _ => False) W' w') := by
  have hq0 := hR.q m q x hq hx
  have hok := (hR.k x (List.mem_of_getElem? hx)).1
  have hid := hs.idq hq
  obtain ⟨K, hK⟩ : ∃ K, (wlm cs m).length = K := ⟨_, rfl⟩
  have hwl := wl_at hq hd
  rw [hK] at hwl
  have hKL : K < L := by have := (List.getElem?_eq_some_iff.1 hwl).1; omega
  have hL4 : L ≤ 4096 := by have := wl_le0 cs; have := hs.len; omega
  obtain ⟨r, hr⟩ : ∃ r, R[K]? = some r := ⟨_, List.getElem?_eq_getElem (by have := hO.rl; omega)⟩
  obtain ⟨k', q', hk', hq', vv, hre, hF⟩ := hO.rr K r hr
  rw [hwl] at hk'
  cases hk'
  rw [Nat.add_sub_cancel, hq] at hq'
  cases hq'
  subst hre
  obtain ⟨gh, ch, egh, hgh, hgc⟩ := own_one_form hO.h (by omega)
  obtain ⟨gt, ct, egt, hgt, htc⟩ := own_one_form hO.t (by omega)
  have lgh := (hO.h.lt gh (by rw [egh]; rfl)).2
  have lgt := (hO.t.lt gt (by rw [egt]; rfl)).2
  have r4h : w4.rangeAt gh (K * 35) (hmsg (q.r.re vv)) := fun j u hu => hgc (K * 35 + j) u (by
    rw [flat_at hmsg 35 (fun _ => rfl) R K j _ hr (List.getElem?_eq_some_iff.1 hu).1]
    exact hu)
  have r4t : w4.rangeAt gt (K * 35) (tmsg c (m + 1)) := fun j u hu => htc (K * 35 + j) u (by
    rw [flat_at (tmsg c) 35 (fun _ => rfl) _ K j (m + 1) (by rw [List.getElem?_take_of_lt hKL]; exact hwl) (List.getElem?_eq_some_iff.1 hu).1]
    exact hu)
  have z3 := hO.fr.size
  obtain ⟨bo, bc, W7, hap, ho7, hf7, ht7⟩ := app_num W6 w4.heap.size wv (wlm cs m) (m + 1) (ownsRow_of_block hT.w (fun g hg => hf6.block g (hT.w.lt g hg).2 (fun h => h))) (Nat.le_trans hT.f.size hf6.size) (by omega)
  rw [hK] at hap ho7 ht7
  have hu5 : ∀ g, wv.ownBlock = some g → w4.heap.size ≤ g ∧ g < wr.heap.size := fun g hg => hT.w.lt g hg
  have f47 : Fr (fun g => g = DB ∨ wv.ownBlock = some g) w4 W7 := ((hT.f.mono (fun _ _ e => .inl e)).trans hf6 (fun _ _ e => e.elim)).trans hf7 (fun _ _ e => .inr e)
  refine ⟨K, gh, ch, gt, ct, vv, bo, bc, W7, hK, hKL, hL4, egh, egt, hap, ⟨?_, by rw [wlm_wait hq hd]; exact ho7, ?_⟩, by rw [wlm_wait hq hd, List.length_append, hK]; rfl, fun W' hf' => ?_, fun W' hf' => ?_⟩
  · refine (hT.f.trans hf6 (fun _ _ e => e.elim)).trans hf7 (fun g hg e => ?_)
    have := (hu5 g e).1
    omega
  · obtain ⟨xs, hrx, hxs⟩ := hT.d
    have hDw : DB < w4.heap.size := by omega
    refine ⟨xs, ownsRow_of_block hrx (fun g hg => ?_), fun i y hi hy hyo => ?_⟩
    · have hl := hrx.lt g hg
      cases hg
      exact (hf7.block DB (Nat.lt_of_lt_of_le hl.2 hf6.size) (fun e => by have := (hu5 DB e).1; omega)).trans (hf6.block DB hl.2 (fun h => h))
    · by_cases e : i = m
      · subst e
        rw [hx] at hy
        cases hy
        have := (hq0.w hd).1
        omega
      · exact hxs i y (by omega) hy hyo
  · have hx6 : W6.rangeAt wr.heap.size 0 x.cs := range_of_block hb6
    have mv : ∀ (b o : Nat) (us : List Value), b ≠ DB → b < w4.heap.size → w4.rangeAt b o us → W'.rangeAt b o us := fun b o us h1 h2 h3 j u hu => by
      have h4 := h3 j u hu
      have h5 := (f47.cell (p := ⟨b, o + j, none⟩) h2 (fun e => by
        rcases e with e | e
        · exact h1 e
        · have := (hu5 b e).1
          omega)).trans h4
      exact (hf'.cell (p := ⟨b, o + j, none⟩) (lt_of_cell h5) (fun h => h)).trans h5
    have mw : ∀ (us : List Value), (∀ j u, us[j]? = some u → x.cs[j]? = some u) → W'.rangeAt wr.heap.size 0 us := fun us hus j u hu => by
      have h4 := hx6 j u (hus j u hu)
      have h5 := (hf7.cell (p := ⟨wr.heap.size, 0 + j, none⟩) (lt_of_cell h4) (fun e => Nat.lt_irrefl _ (hu5 _ e).2)).trans h4
      exact (hf'.cell (p := ⟨wr.heap.size, 0 + j, none⟩) (lt_of_cell h5) (fun h => h)).trans h5
    have pre : ∀ j u, x.r.cs[j]? = some u → x.cs[j]? = some u := fun j u hu => by
      unfold RC.cs
      rw [List.getElem?_append_left (List.getElem?_eq_some_iff.1 hu).1]
      exact hu
    refine ⟨mv gh _ _ (by omega) lgh r4h, mw _ (fun j u hu => pre j u (by rw [hq0.r]; exact hu)), mv gt _ _ (by omega) lgt r4t, mw _ (fun j u hu => pre j u ?_)⟩
    have e1 : x.r.cl = c := (congrArg RQ.cl hq0.r).trans hid.1
    have e2 : x.r.nu = m + 1 := (congrArg RQ.nu hq0.r).trans hid.2
    have hj : j < 2 := (List.getElem?_eq_some_iff.1 hu).1
    unfold RQ.cs
    rw [e1, e2]
    match j, hj with
    | 0, _ => exact hu
    | 1, _ => exact hu
  · have zw := hf.size
    have z43 := hf4.size
    have f0r : Fr (fun _ => False) w0 wr := ((hf.trans0 hf4).trans0 hO.fr).trans hT.f (fun g hg e => by omega)
    have fw : Fr (fun _ => False) w0 W' := ((f0r.trans0 hf6).trans hf7 (fun g hg e => by have := (hu5 g e).1; omega)).trans0 hf'
    have fv : Fds W' vv q.F := OwF.fds ((hF.fr f47 (fun g hg e => by
      have h1 := hF.lt g hg
      rcases e with e | e
      · omega
      · have := (hu5 g e).1
        omega)).fr hf' (fun _ _ h => h))
    have gv : Fds W' x.r.fv q.F := by rw [← hq0.F]; exact rd_fds (hok.f.fr0 fw)
    exact requested_true q.r vv x.r.fv q.F W' fv gv (by rw [← hq0.F]; exact hok.fl)
end Go.Proofs.Ytkiepcdncegniaa
