import Derived.Test.YthamfidjilclpaaDoorPk2
import Derived.Test.YthamfidjilclpaaDoorPk1
namespace Go.Proofs.YthamfidjilclpaaDoor
open Go.RowKit

theorem OB.fr0 {w wr wq : World} {xo : Option Addr} {cp : Nat} {l : List Nat} (h : OB w wr xo cp l) (hf : Fr (fun _ => False) wr wq) : OB w wq xo cp l := ⟨h.ow.fr0 hf, h.fr.trans hf (fun _ _ h => h)⟩
/-- One hash ahead of hashes that were made behind it. -/
theorem OL.front {w w1 w2 W : World} {yo bo : Option Addr} {yc bc wi : Nat} {us : List Value} {qs : List (List Nat)} {l : List Nat} (hO : OB w w1 yo yc l) (k : OL w1 w2 bo bc us qs) (hb : ∀ v ∈ l, v < 256) (hl : l.length = wi) (hW : w2.alloc (.cells #[.slice yo wi yc] 26) = W) (hn : us.length < 16000000) :
    ∃ ao' cp' w3, (Builtin.append_ #[22, 22] 22 #[.slice (some ⟨w2.heap.size, 0, none⟩) 1 1, .slice bo us.length bc]).run Tryd.prog W = .ok (.slice ao' (1 + us.length) cp') w3 ∧ OL w w3 ao' cp' ([.slice yo wi yc] ++ us) ([l] ++ qs) := by
  have hF : Fr (fun _ => False) w2 W := by rw [← hW]; exact (Fr.refl _ _).alloc _
  have hA := ol_lit1 (hO.fr0 k.own.fr) hb wi hl W hW
  have hB := (k.fr0 hF).base hO.fr
  refine hA.add _ us qs hB.ss hB.len hB.row hB.apart (fun v hv u hu g hg hg' => ?_) hB.byt (by simp; omega)
  simp at hv
  subst hv
  have h2 := (k.inner_lt u hu g hg').1
  have h3 := (World.ownsRow.lt hO.own g (by rw [hl]; exact hg)).2
  omega
/-- The roots of the whole trees. -/
def pks (wi : Nat) (L : List (List Nat)) (f n : Nat) : List (List Nat) :=
  if _h : oc n = 1 ∨ n < 2 then [mth wi (blk L f n)]
  else mth wi (blk L f (hf n)) :: pks wi L (f + hf n) (n - hf n)
termination_by n
decreasing_by
  have := hf_pos n; omega
theorem pks_one {wi : Nat} {L : List (List Nat)} {f n : Nat} (h : oc n = 1) : pks wi L f n = [mth wi (blk L f n)] := by rw [pks, dif_pos (.inl h)]
theorem pks_two {wi : Nat} {L : List (List Nat)} {f n : Nat} (h : ¬ oc n = 1) (h2 : 2 ≤ n) : pks wi L f n = mth wi (blk L f (hf n)) :: pks wi L (f + hf n) (n - hf n) := by
  conv => lhs; rw [pks, dif_neg (by omega)]
theorem pks_le (wi : Nat) (L : List (List Nat)) (k : Nat) : ∀ f n, n ≤ k → (pks wi L f n).length ≤ n + 1 := by
  induction k with
  | zero => intro f n h; rw [pks, dif_pos (by omega)]; simp
  | succ k ih =>
    intro f n h
    by_cases h1 : oc n = 1 ∨ n < 2
    · rw [pks, dif_pos h1]; simp
    · have h3 := hf_lt n (by omega)
      have h4 := hf_pos n
      rw [pks_two (by omega) (by omega)]
      have := ih (f + hf n) (n - hf n) (by omega)
      simp; omega
def PeaksSays (tb wi : Nat) (L : List (List Nat)) (f n : Nat) (w : World) : Prop :=
  Calls Tryd.prog 57 #[pv (.pointer (some ⟨tb, 0, none⟩)) f n] w fun e w' => ∃ ao cp vs, e = .returned (.slice ao vs.length cp) ∧ OL w w' ao cp vs (pks wi L f n)
set_option maxRecDepth 100000 in
set_option maxHeartbeats 2000000 in
theorem peaks_any (tb wi : Nat) (hw1 : 1 ≤ wi) (hw32 : wi ≤ 32) (L : List (List Nat)) (k : Nat) : ∀ (f n : Nat) (w : World), n ≤ k → 1 ≤ n → Tk w tb wi L → Al f n → f + n ≤ L.length → PeaksSays tb wi L f n w := by
  induction k with
  | zero => intro f n w h h1; omega
  | succ k ih =>
    intro f n w hk h1 hT hA hL
    have hle := hT.len
    have hwh := fun w' => whole_any (some ⟨tb, 0, none⟩) f n w' (by omega)
    by_cases hoc : oc n = 1
    · rw [decide_eq_true hoc] at hwh
      have hroot := fun w' (hf : Fr (fun _ => False) w w') => root_any tb wi hw1 hw32 L _ f n w' (Nat.le_refl _) (hT.fr0 hf) hA hL
      have hMw := hT.mw hw1 hw32 f n
      have hMb := hT.mb f n
      unfold PeaksSays
      unfold RootSays at hroot
      rw [pks_one hoc]
      generalize mth wi (blk L f n) = M at *
      have HC := hide (And.intro hwh (And.intro hroot (And.intro hMw hMb)))
      clear hwh hroot hMw hMb hT hA hL ih hoc hk h1 hle
      unfold pv at *
      go_enter Tryd.func57, Tryd.ntmps57
      go_wp2_with fail
      refine ((unhide HC).1 _).mono ?_
      rintro e wA ⟨rfl, hFA⟩
      obtain ⟨b0, b1, b2, hFw⟩ := box3 hFA
      have HFA := hide hFw
      clear hFA hFw
      generalize w.heap.size = P at *
      go_wp2_with fail
      refine ((unhide HC).2.1 _ (unhide HFA)).mono ?_
      rintro e w1 ⟨yo, yc, rfl, hO⟩
      obtain ⟨W, hW⟩ : ∃ W, w1.alloc (.cells #[.slice yo wi yc] 26) = W := ⟨_, rfl⟩
      have hL1 := (ol_lit1 hO (unhide HC).2.2.2 wi (unhide HC).2.2.1 W hW).base (unhide HFA)
      have H1 := hide hL1
      clear hL1 hO
      go_wp2_with fail
      go_ret
      exact ⟨_, 1, _, rfl, unhide H1⟩
    · rw [decide_eq_false hoc] at hwh
      have h3 : 3 ≤ n := by
        have e1 : n ≠ 1 := fun e => hoc (by rw [e]; exact oc_pow 0 (by decide))
        have e2 : n ≠ 2 := fun e => hoc (by rw [e]; exact oc_pow 1 (by decide))
        omega
      have hlt := hf_lt n (by omega)
      have hpos := hf_pos n
      obtain ⟨hA1, hA2⟩ := hA.halves (by omega)
      have hpt := fun w' => parts_any (some ⟨tb, 0, none⟩) f n w' (by omega) (by omega)
      have hroot := fun w' (hf' : Fr (fun _ => False) w w') => root_any tb wi hw1 hw32 L _ f (hf n) w' (Nat.le_refl _) (hT.fr0 hf') hA1 (by omega)
      have hrec := fun w' (hf' : Fr (fun _ => False) w w') => ih (f + hf n) (n - hf n) w' (by omega) (by omega) (hT.fr0 hf') hA2 (by omega)
      have hMw := hT.mw hw1 hw32 f (hf n)
      have hMb := hT.mb f (hf n)
      have hpl := pks_le wi L _ (f + hf n) (n - hf n) (Nat.le_refl _)
      have hpl2 : (pks wi L (f + hf n) (n - hf n)).length < 16000000 := by omega
      unfold PeaksSays at *
      unfold RootSays at hroot
      rw [pks_two hoc (by omega)]
      generalize mth wi (blk L f (hf n)) = M at *
      generalize pks wi L (f + hf n) (n - hf n) = PS at *
      generalize f + hf n = F2 at *
      generalize n - hf n = N2 at *
      generalize hf n = K at *
      have HC := hide (And.intro hwh (And.intro hpt (And.intro hroot (And.intro hrec (And.intro hMw (And.intro hMb hpl2))))))
      clear hwh hpt hroot hrec hMw hMb hpl hpl2 hT hA hL ih hoc hk h1 hle hA1 hA2 h3 hlt hpos
      unfold pv at *
      go_enter Tryd.func57, Tryd.ntmps57
      go_wp2_with fail
      refine ((unhide HC).1 _).mono ?_
      rintro e wA ⟨rfl, hFA⟩
      obtain ⟨b0, b1, b2, hFw⟩ := box3 hFA
      have HFA := hide hFw
      clear hFA hFw
      generalize w.heap.size = P at *
      go_wp2_with fail
      refine ((unhide HC).2.1 _).mono ?_
      rintro e wB ⟨rfl, hFB⟩
      have HFB := hide ((unhide HFA).trans hFB (fun _ _ h => h))
      clear hFB b0 b1 b2 HFA
      go_wp2_with fail
      obtain ⟨W, hW⟩ : ∃ W, (wB.alloc (.cells #[.pointer (some ⟨tb, 0, none⟩), .int .i64 f, .int .i64 K] 79)).alloc (.cells #[.pointer (some ⟨tb, 0, none⟩), .int .i64 F2, .int .i64 N2] 79) = W := ⟨_, rfl⟩
      rw [hW]
      obtain ⟨x0, x1, x2, y0, y1, y2, hFW⟩ := two3 wB _ _ _ _ _ _ _ W hW
      have HFW := hide ((unhide HFB).trans hFW (fun _ _ h => h))
      clear hW hFW
      generalize wB.heap.size = Z at *
      have hS : ∀ w', Fr (fun _ => False) W w' → w'.cell? ⟨Z, 0, none⟩ = some (.pointer (some ⟨tb, 0, none⟩)) ∧ w'.cell? ⟨Z, 1, none⟩ = some (.int .i64 f) ∧ w'.cell? ⟨Z, 2, none⟩ = some (.int .i64 K) ∧ w'.cell? ⟨Z + 1, 0, none⟩ = some (.pointer (some ⟨tb, 0, none⟩)) ∧ w'.cell? ⟨Z + 1, 1, none⟩ = some (.int .i64 F2) ∧ w'.cell? ⟨Z + 1, 2, none⟩ = some (.int .i64 N2) := fun w' hf =>
        ⟨(hf.cell (lt_of_cell x0) (fun h => h)).trans x0, (hf.cell (lt_of_cell x1) (fun h => h)).trans x1, (hf.cell (lt_of_cell x2) (fun h => h)).trans x2, (hf.cell (lt_of_cell y0) (fun h => h)).trans y0, (hf.cell (lt_of_cell y1) (fun h => h)).trans y1, (hf.cell (lt_of_cell y2) (fun h => h)).trans y2⟩
      have HS := hide hS
      clear hS
      go_region_held3 (fun w' => w'.cell? ⟨Z, 0, none⟩ = some (.pointer (some ⟨tb, 0, none⟩)) ∧ w'.cell? ⟨Z, 1, none⟩ = some (.int .i64 f) ∧ w'.cell? ⟨Z, 2, none⟩ = some (.int .i64 K) ∧ w'.cell? ⟨Z + 1, 0, none⟩ = some (.pointer (some ⟨tb, 0, none⟩)) ∧ w'.cell? ⟨Z + 1, 1, none⟩ = some (.int .i64 F2) ∧ w'.cell? ⟨Z + 1, 2, none⟩ = some (.int .i64 N2))
        (first | assumption | exact (unhide HS) _ (Fr.refl _ _).drew | exact (unhide HS) _ fE | exact (unhide HS) _ (fD.alloc _) | exact (unhide HS) _ fD | exact (unhide HS) _ (fC.alloc _) | exact (unhide HS) _ fC)
        (first
          | (go_at_call 76; refine ((unhide HC).2.2.1 _ (by exact (unhide HFW).drew)).mono ?_; rintro e wC ⟨zo, zc, rfl, oC⟩; have fC : Fr (fun _ => False) W wC := (Fr.refl _ _).drew.trans oC.fr (fun _ _ h => h))
          | (go_at_call 57; refine ((unhide HC).2.2.2.1 _ (by first | exact (unhide HFW).trans fC (fun _ _ h => h) | exact ((unhide HFW).trans fC (fun _ _ h => h)).alloc _)).mono ?_; rintro e wD ⟨bo, bc, us, rfl, oD⟩; have fD : Fr (fun _ => False) W wD := by first | exact fC.trans oD.own.fr (fun _ _ h => h) | exact (fC.alloc _).trans oD.own.fr (fun _ _ h => h))
          | (refine Exists.elim ((ol_lit1 oC (unhide HC).2.2.2.2.2.1 wi (unhide HC).2.2.2.2.1 _ rfl).cat oD (by rw [oD.len]; have := (unhide HC).2.2.2.2.2.2; simp; omega)) fun ao2 h => Exists.elim h fun cp2 h => Exists.elim h fun wE h => ?_; have hr2 := h.1; have hO2 := h.2; clear h; have fE : Fr (fun _ => False) W wE := (Fr.refl _ _).drew.trans hO2.own.fr (fun _ _ h => h); refine step_app rfl (.tmp 17) (.tmp 19) 22 22 rfl _ _ _ (by simp [Act.eval]) (by simp [Act.eval]) hr2 ?_)
          | (refine Exists.elim (OL.front oC oD (unhide HC).2.2.2.2.2.1 (unhide HC).2.2.2.2.1 rfl (by rw [oD.len]; exact (unhide HC).2.2.2.2.2.2)) fun ao2 h => Exists.elim h fun cp2 h => Exists.elim h fun wE h => ?_; have hr2 := h.1; have hO2 := h.2; clear h; have fE : Fr (fun _ => False) W wE := (Fr.refl _ _).drew.trans hO2.own.fr (fun _ _ h => h); refine step_app rfl (.tmp 17) (.tmp 19) 22 22 rfl _ _ _ (by simp [Act.eval]) (by simp [Act.eval]) hr2 ?_))
      all_goals
        have HE := hide (hO2.base ((unhide HFW).drew))
        clear oC oD hO2 hr2 fC fD fE
        go_wp2_with fail
        go_ret
        first | exact ⟨ao2, cp2, _, by rw [List.length_append]; rfl, unhide HE⟩ | exact ⟨ao2, cp2, _, by simp, unhide HE⟩
set_option maxRecDepth 100000 in
set_option maxHeartbeats 1000000 in
/-- Tree.Peaks. -/
theorem tpeaks_in (tb wi : Nat) (hw1 : 1 ≤ wi) (hw32 : wi ≤ 32) (L : List (List Nat)) (w : World) (hT : Tk w tb wi L) (h0 : 0 < L.length) :
    Calls Tryd.prog 22 #[.pointer (some ⟨tb, 0, none⟩)] w fun e w' => ∃ ao cp vs, e = .returned (.slice ao vs.length cp) ∧ OL w w' ao cp vs (pks wi L 0 L.length) := by
  obtain ⟨c0, c1, htb⟩ := hT.c0
  have hhas : Calls Tryd.prog 55 #[.pointer (some ⟨tb, 0, none⟩), .int .i64 L.length] w fun e w' => e = .returned (.bool true) ∧ w' = w := by
    have := has_any tb L.length wi L.length w c0 c1
    rw [decide_eq_true (by omega)] at this
    exact this
  have hpk := fun w' (hf : Fr (fun _ => False) w w') => peaks_any tb wi hw1 hw32 L _ 0 L.length w' (Nat.le_refl _) h0 (hT.fr0 hf) (al_zero _) (by omega)
  unfold PeaksSays at hpk
  have HG := hide (And.intro hhas hpk)
  have q1 : ¬ L.length = 0 := by omega
  have q2 : ((L.length : Int) == 0) = false := beq_false_of_ne (by omega)
  clear hhas hpk hT htb c0
  generalize pks wi L 0 L.length = PS at *
  have q3 : ¬ L = [] := fun h => q1 (by rw [h]; rfl)
  generalize L.length = N at *
  go_enter Tryd.func22, Tryd.ntmps22
  go_wp2_with fail
  refine (unhide HG).1.mono ?_
  rintro e w0 ⟨rfl, rfl⟩
  go_wp2_with fail
  refine (first_any _ _ _).mono ?_
  rintro e w1 ⟨rfl, hF1⟩
  have H1 := hide hF1
  clear hF1
  go_wp2_with fail
  refine ((unhide HG).2 w1 (unhide H1)).mono ?_
  rintro e w2 ⟨ao, cp, vs, rfl, hO⟩
  have H2 := hide (hO.base (unhide H1))
  clear hO
  go_wp2_with fail
  go_ret
  exact ⟨ao, cp, vs, rfl, unhide H2⟩
set_option maxRecDepth 100000 in
set_option maxHeartbeats 1000000 in
theorem tpeaks_no (tb n : Nat) (wi : Int) (w : World) (c0 : w.cell? ⟨tb, 0, none⟩ = some (.int .i64 wi)) (c1 : w.cell? ⟨tb, 1, none⟩ = some (.int .i64 n)) (h : ¬ (1 ≤ wi ∧ wi ≤ 32) ∨ n = 0) :
    Calls Tryd.prog 22 #[.pointer (some ⟨tb, 0, none⟩)] w fun e w' => e = .returned (.slice none 0 0) ∧ w' = w := by
  have hhas := has_any tb n wi n w c0 c1
  by_cases hh : 1 ≤ wi ∧ wi ≤ 32
  · rw [decide_eq_true (by omega)] at hhas
    have h0 : n = 0 := by
      rcases h with h | h
      · exact absurd hh h
      · exact h
    subst h0
    have e0 : ((0 : Nat) : Int) = 0 := rfl
    simp only [e0] at hhas c1
    have HG := hide hhas
    clear hhas h hh c0 e0
    go_enter Tryd.func22, Tryd.ntmps22
    go_wp2_with fail
    refine (unhide HG).mono ?_
    rintro e w0 ⟨rfl, rfl⟩
    go_wp2_with fail
    go_ret
    exact ⟨rfl, rfl⟩
  · rw [decide_eq_false (by omega)] at hhas
    have HG := hide hhas
    clear hhas h hh c0
    go_enter Tryd.func22, Tryd.ntmps22
    go_wp2_with fail
    refine (unhide HG).mono ?_
    rintro e w0 ⟨rfl, rfl⟩
    go_wp2_with fail
    go_ret
    exact ⟨rfl, rfl⟩
end Go.Proofs.YthamfidjilclpaaDoor

namespace Go.Proofs.YthamfidjilclpaaDoor
open Go.RowKit

theorem own_pre {w : World} {base e g N n cap : Nat} {ys : List Value} (h : w.ownsRow base e 1 (.slice (some ⟨g, 0, none⟩) N cap) N ys) (hn : n ≤ N) : w.ownsRow base e 1 (.slice (some ⟨g, 0, none⟩) n cap) n (ys.take n) := by
  rcases h.2 with ⟨e1, _⟩ | ⟨g', cap', cur, e1, h1, h2, h3, h4, h5, h6⟩
  · simp at e1
  · simp only [Value.slice.injEq, Option.some.injEq, Addr.mk.injEq, and_true, true_and] at e1
    obtain ⟨rfl, rfl⟩ := e1
    have hl : ys.length = N := by simpa using h.1
    refine ⟨by rw [List.length_take, hl]; omega, .inr ⟨g, cap, cur, rfl, h1, h2, by omega, h4, h5, ?_⟩⟩
    rw [← h6, List.take_take]
    congr 1
    omega
/-- What is appended to a row of one's own leaves the row. -/
theorem app_past (w : World) (base t e n cap m : Nat) (i : TypeInfo) (z : Value) (bytes : Nat) (ht : Tryd.prog.underlying t = some (.slice e)) (hi : Tryd.prog.info? e = some i) (hz : i.zero = some z) (hsz : i.size = 1) (hby : i.bytes = bytes) (hzs : z.cells.size = 1) (ao : Option Addr) (xs : List Value)
    (hown : w.ownsRow base e 1 (.slice ao n cap) n xs) (g0 c0 : Nat) (news : List Value) (hl : news.length = m) (hnews : ∀ (j : Nat) u, news[j]? = some u → w.cell? ⟨g0, j, none⟩ = some u) (h1 : ∀ u ∈ news, u.oneCell' = true) (hm : 0 < m) (hb : (n + m) * bytes ≤ 140737488355328) (hb2 : n + m ≤ 1000000000) (hbase : base ≤ w.heap.size) :
    ∃ g cap' w', (Builtin.append_ #[t, t] t #[.slice ao n cap, .slice (some ⟨g0, 0, none⟩) m c0]).run Tryd.prog w = .ok (.slice (some ⟨g, 0, none⟩) (n + m) cap') w' ∧ w'.ownsRow base e 1 (.slice (some ⟨g, 0, none⟩) (n + m) cap') (n + m) (xs ++ news) ∧ w.grownBy w' (Value.slice ao n cap).ownBlock ∧
      ((ao = some ⟨g, 0, none⟩ ∧ cap' = cap) ∨ (g = w.heap.size ∧ ∀ k, k < w.heap.size → w'.heap[k]? = w.heap[k]?)) := by
  have hn' : ∀ (j : Nat) u, news[j]? = some u → w.cell? ((⟨g0, 0, none⟩ : Addr).add j) = some u := fun j u hu => by rw [add_at]; exact hnews j u hu
  obtain ⟨v', w', hr, h2, h3, _, h5⟩ := run_append_own_at (P := Tryd.prog) w base t t e i z 1 bytes ht hi hz hsz hby hzs (by decide) (.slice ao n cap) n xs hown ⟨g0, 0, none⟩ m c0 news (by rw [hl, Nat.mul_one]) hn' h1 (by simp only [maxLen]; omega) hb hbase
  obtain ⟨g, cap', rfl, _, hlt⟩ := h2.form (by omega)
  refine ⟨g, cap', w', hr, h2, h3, ?_⟩
  have hxl : xs.length = n := by simpa using hown.1
  rcases hown.2 with ⟨e1, e2⟩ | ⟨q, cap2, cur, e1, k1, k2, k3, k4, k5, k6⟩
  · simp only [Value.slice.injEq] at e1
    obtain ⟨rfl, rfl, rfl⟩ := e1
    right
    have hr2 := run_append_nil (P := Tryd.prog) w t t e i z ht hi hz ⟨g0, 0, none⟩ m c0 news (by rw [hl, hsz, Nat.mul_one]) hn' hm (by omega) (by rw [hby]; rw [Nat.zero_add] at hb; omega)
    rw [hr] at hr2
    injection hr2 with f1 f2
    injection f1 with f1 _ _
    injection f1 with f1
    injection f1 with f1 _ _
    refine ⟨f1, fun k hk => ?_⟩
    rw [f2]
    exact Below.heap_alloc _ _ _ hk
  · simp only [Value.slice.injEq, true_and] at e1
    obtain ⟨rfl, rfl⟩ := e1
    by_cases hroom : n + m ≤ cap
    · left
      have hr2 := run_append_room (P := Tryd.prog) w t t e i ht hi q n cap cur k2 ⟨g0, 0, none⟩ m c0 news (by rw [hl, hsz, Nat.mul_one]) hn' h1 hroom (by rw [hsz, hl, Nat.mul_one]; omega)
      rw [hr] at hr2
      injection hr2 with f1 f2
      injection f1 with f1 _ f3
      injection f1 with f1
      injection f1 with f1 _ _
      subst f1 f3
      exact ⟨rfl, rfl⟩
    · right
      have hr2 := run_append_grow (P := Tryd.prog) w t t e i z ht hi hz ⟨q, 0, none⟩ n cap xs (by rw [hxl, hsz, Nat.mul_one]) (hown.cells (g := q) rfl) ⟨g0, 0, none⟩ m c0 news (by rw [hl, hsz, Nat.mul_one]) hn' (by omega) (by omega) (by rw [hby]; exact growslice_fits (by omega) hb)
      rw [hr] at hr2
      injection hr2 with f1 f2
      injection f1 with f1 _ _
      injection f1 with f1
      injection f1 with f1 _ _
      refine ⟨f1, fun k hk => ?_⟩
      rw [f2]
      exact Below.heap_alloc _ _ _ hk
/-- A byte of one hash written. -/
theorem OL.setB {w wr : World} {ao : Option Addr} {cp : Nat} {vs : List Value} {ps : List (List Nat)} (h : OL w wr ao cp vs ps) (i j g c u : Nat) (p : List Nat) (hv : vs[i]? = some (.slice (some ⟨g, 0, none⟩) p.length c)) (hp : ps[i]? = some p) (hu : u < 256) :
    OL w (wr.setCell ⟨g, j, none⟩ (.int .u8 (u : Int))) ao cp vs (ps.set i (p.set j u)) := by
  have hil : i < ps.length := (List.getElem?_eq_some_iff.1 hp).1
  obtain ⟨bo, c', e, hO⟩ := h.row i _ p hv hp
  simp only [Value.slice.injEq, true_and] at e
  obtain ⟨rfl, rfl⟩ := e
  have hg := hO.lt
  refine ⟨⟨ownsRow_of_block h.own.own (fun q hq => heap_setCell_other _ _ _ _ (fun e => ?_)), h.own.fr.setCell (.inr hg.1) _⟩, by rw [List.length_set]; exact h.len, fun j' v p' hv' hp' => ?_, h.apart, fun p' hp' => ?_⟩
  · subst e; exact own_ne h.own.own hO _ hq rfl
  · by_cases hji : j' = i
    · subst hji
      rw [List.getElem?_set_self hil] at hp'
      cases hp'
      rw [hv] at hv'
      cases hv'
      exact ⟨_, c, by rw [List.length_set], hO.set j u hu⟩
    · rw [List.getElem?_set_ne (fun e => hji e.symm)] at hp'
      obtain ⟨bo, c2, e, hO2⟩ := h.row j' v p' hv' hp'
      refine ⟨bo, c2, e, ownsRow_of_block hO2 (fun q hq => heap_setCell_other _ _ _ _ (fun e2 => ?_))⟩
      exact h.apart j' i v _ q g hji hv' hv (by rw [e]; exact hq) rfl e2
  · rcases List.mem_or_eq_of_mem_set hp' with h1 | h1
    · exact h.byt p' h1
    · subst h1; exact set_lt p j u hu (h.byt p (List.mem_of_getElem? hp))
end Go.Proofs.YthamfidjilclpaaDoor

namespace Go.Proofs.YthamfidjilclpaaDoor
open Go.RowKit

def lit9 : Array Value := #[.int .u8 98, .int .u8 98, .int .u8 98, .int .u8 98, .int .u8 98, .int .u8 98, .int .u8 98, .int .u8 98, .int .u8 98]
def lit5 : Array Value := #[.slice none 0 0, .slice none 0 0, .slice none 0 0, .slice none 0 0, .slice none 0 0]
theorem OL.blocks {w wr wq : World} {ao : Option Addr} {cp : Nat} {vs : List Value} {ps : List (List Nat)} (h : OL w wr ao cp vs ps) (hf : Fr (fun _ => False) w wq) (hb : ∀ k, k < wr.heap.size → wq.heap[k]? = wr.heap[k]?) : OL w wq ao cp vs ps :=
  ⟨⟨ownsRow_of_block h.own.own (fun g hg => hb g (h.own.own.lt g hg).2), hf⟩, h.len, fun j v p hv hp => by
    obtain ⟨bo, c, e, hO⟩ := h.row j v p hv hp
    exact ⟨bo, c, e, ownsRow_of_block hO (fun g hg => hb g (World.ownsRow.lt hO g hg).2)⟩, h.apart, h.byt⟩
/-- A hash grown by nine, and the last of them written. -/
theorem OL.past {w wr : World} {ao : Option Addr} {cp : Nat} {vs : List Value} {ps : List (List Nat)} (h : OL w wr ao cp vs ps) (i n c H : Nat) (bo : Option Addr) (p : List Nat) (hv : vs[i]? = some (.slice bo n c)) (hp : ps[i]? = some p) (hn : p.length = n) (hnb : n ≤ 1000000) (hH : ∀ v ∈ vs, ∀ g, v.ownBlock = some g → g < H) :
    ∃ g cap' w2, (Builtin.append_ #[26, 26] 26 #[.slice bo n c, .slice (some ⟨wr.heap.size, 0, none⟩) 9 9]).run Tryd.prog (wr.alloc (.cells lit9 5)) = .ok (.slice (some ⟨g, 0, none⟩) (n + 9) cap') w2 ∧ (∃ u, w2.cell? ⟨g, n + 8, none⟩ = some u) ∧ w2.frozen? ⟨g, n + 8, none⟩ = false ∧
      OL w (w2.setCell ⟨g, n + 8, none⟩ (.int .u8 97)) ao cp vs ps ∧ Fr (fun k => k < H) wr (w2.setCell ⟨g, n + 8, none⟩ (.int .u8 97)) := by
  subst hn
  obtain ⟨bo', c', e, hO⟩ := h.row i _ p hv hp
  simp only [Value.slice.injEq, true_and] at e
  obtain ⟨rfl, rfl⟩ := e
  obtain ⟨i0, hi, hz0, hz1, hz2⟩ := info_parts Tryd.infoU8
  have hFa : Fr (fun _ => False) wr (wr.alloc (.cells lit9 5)) := (Fr.refl _ _).alloc _
  have hOa : (wr.alloc (.cells lit9 5)).ownsRow w.heap.size 5 1 (.slice bo p.length c) p.length (cellsOf p) := hO.fr0 hFa
  have hbo : ∀ q, (Value.slice bo p.length c).ownBlock = some q → q < H ∧ w.heap.size ≤ q ∧ q < wr.heap.size := fun q hq => ⟨hH _ (List.mem_of_getElem? hv) q hq, (World.ownsRow.lt hO q hq).1, (World.ownsRow.lt hO q hq).2⟩
  obtain ⟨g, cap', w2, hr, hown, hg, hat⟩ := app_past (wr.alloc (.cells lit9 5)) w.heap.size 26 5 p.length c 9 i0 (.int .u8 0) 1 Tryd.underlying26 hi hz0 hz1 hz2 rfl bo (cellsOf p) hOa wr.heap.size 9 lit9.toList rfl (fun j u hu => by
    rw [World.cell?_alloc_at _ _ _ _ rfl]; simpa using hu) (fun u hu => by simp [lit9] at hu; subst hu; rfl) (by decide) (by omega) (by omega) (by have := h.own.fr.size; simp; omega)
  have hsz : w.heap.size ≤ wr.heap.size := h.own.fr.size
  have hcell : w2.cell? ⟨g, p.length + 8, none⟩ = _ := hown.cellAt (p.length + 8) (by omega)
  obtain ⟨u, hu⟩ : ∃ u, (cellsOf p ++ lit9.toList)[p.length + 8]? = some u := ⟨_, List.getElem?_eq_getElem (by rw [List.length_append, cellsOf_length]; simp [lit9])⟩
  have hst := (World.ownsRow.stored hown (p.length + 8) (.int .u8 97)).1
  have hgl : g < w2.heap.size := (hown.lt g rfl).2
  have hgb : w.heap.size ≤ g := (hown.lt g rfl).1
  have hF2 : Fr (fun k => (Value.slice bo p.length c).ownBlock = some k) wr w2 := ((Fr.refl _ _).alloc _).grown hg (fun q hq => .inl hq)
  refine ⟨g, cap', w2, hr, ⟨u, hcell.trans hu⟩, hown.frozenAt _, ?_, ?_⟩
  · rcases hat with ⟨rfl, rfl⟩ | ⟨hgn, hbl⟩
    · have hne : ∀ q, (Value.slice ao vs.length cp).ownBlock = some q → q ≠ g := fun q hq e => own_ne h.own.own hO q hq (by rw [e]; rfl)
      have hkeep : ∀ q, q < wr.heap.size → q ≠ g → (w2.setCell ⟨g, p.length + 8, none⟩ (.int .u8 97)).heap[q]? = wr.heap[q]? := fun q hq hqg => by
        rw [heap_setCell_other _ _ _ _ hqg]
        exact hF2.block q hq (fun e => hqg (by simp only [Value.ownBlock, Option.some.injEq] at e; exact e.symm))
      refine ⟨⟨ownsRow_of_block h.own.own (fun q hq => hkeep q (h.own.own.lt q hq).2 (hne q hq)), ?_⟩, h.len, fun j v p' hv' hp' => ?_, h.apart, h.byt⟩
      · exact (h.own.fr.trans hF2 (fun k hk e => by have := (hbo k e).2.1; omega)).setCell (.inr hgb) _
      · by_cases hji : j = i
        · subst hji
          rw [hv] at hv'
          rw [hp] at hp'
          cases hv'
          cases hp'
          refine ⟨_, _, rfl, ?_⟩
          have := own_pre hst (n := p.length) (by omega)
          have e2 : ((cellsOf p ++ lit9.toList).set (p.length + 8) (.int .u8 97)).take p.length = cellsOf p := by
            rw [List.set_append_right _ _ (by rw [cellsOf_length]; omega), List.take_left' (cellsOf_length p)]
          rw [e2] at this
          exact this
        · obtain ⟨bo2, c2, e, hO2⟩ := h.row j v p' hv' hp'
          exact ⟨bo2, c2, e, ownsRow_of_block hO2 (fun q hq => hkeep q (World.ownsRow.lt hO2 q hq).2 (h.apart j i v _ q g hji hv' hv (by rw [e]; exact hq) rfl))⟩
    · have hge : wr.heap.size ≤ g := by rw [hgn]; simp
      refine h.blocks ((h.own.fr.trans hF2 (fun k hk e => by have := (hbo k e).2.1; omega)).setCell (.inr hgb) _) (fun q hq => ?_)
      rw [heap_setCell_other _ _ _ _ (by simp only; omega), hbl q (by simp; omega)]
      exact Below.heap_alloc _ _ _ hq
  · have hF3 : Fr (fun k => k < H) wr w2 := hF2.mono (fun q _ e => (hbo q e).1)
    refine hF3.setCell ?_ _
    rcases hat with ⟨rfl, rfl⟩ | ⟨hgn, hbl⟩
    · exact .inl (hbo g rfl).1
    · right
      show wr.heap.size ≤ g
      rw [hgn]; simp
/-- The list grown by five, and the last of them written. -/
theorem OL.past2 {w wr : World} {ao : Option Addr} {cp : Nat} {vs : List Value} {ps : List (List Nat)} (h : OL w wr ao cp vs ps) (H N : Nat) (hN : vs.length = N) (hnb : N ≤ 16000000) (hH : ∀ g, (Value.slice ao vs.length cp).ownBlock = some g → g < H) :
    ∃ g cap' w2, (Builtin.append_ #[22, 22] 22 #[.slice ao N cp, .slice (some ⟨wr.heap.size, 0, none⟩) 5 5]).run Tryd.prog (wr.alloc (.cells lit5 26)) = .ok (.slice (some ⟨g, 0, none⟩) (N + 5) cap') w2 ∧ (∃ u, w2.cell? ⟨g, N + 4, none⟩ = some u) ∧ w2.frozen? ⟨g, N + 4, none⟩ = false ∧ g < w2.heap.size ∧
      ∀ o za zn zc, OL w ((w2.alloc o).setCell ⟨g, N + 4, none⟩ (.slice za zn zc)) ao cp vs ps ∧ Fr (fun k => k < H) wr ((w2.alloc o).setCell ⟨g, N + 4, none⟩ (.slice za zn zc)) := by
  subst hN
  obtain ⟨i0, hi, hz0, hz1, hz2⟩ := info_parts Tryd.infoSl
  have hFa : Fr (fun _ => False) wr (wr.alloc (.cells lit5 26)) := (Fr.refl _ _).alloc _
  have hOa := (h.fr0 hFa).own.own
  have hbo : ∀ q, (Value.slice ao vs.length cp).ownBlock = some q → q < H ∧ w.heap.size ≤ q ∧ q < wr.heap.size := fun q hq => ⟨hH q hq, (h.own.own.lt q hq).1, (h.own.own.lt q hq).2⟩
  obtain ⟨g, cap', w2, hr, hown, hg, hat⟩ := app_past (wr.alloc (.cells lit5 26)) w.heap.size 22 26 vs.length cp 5 i0 (.slice none 0 0) 24 Tryd.underlying22 hi hz0 hz1 hz2 rfl ao vs hOa wr.heap.size 5 lit5.toList rfl (fun j u hu => by
    rw [World.cell?_alloc_at _ _ _ _ rfl]; simpa using hu) (fun u hu => by simp [lit5] at hu; subst hu; rfl) (by decide) (by omega) (by omega) (by have := h.own.fr.size; simp; omega)
  have hsz : w.heap.size ≤ wr.heap.size := h.own.fr.size
  have hcell : w2.cell? ⟨g, vs.length + 4, none⟩ = _ := hown.cellAt (vs.length + 4) (by omega)
  obtain ⟨u, hu⟩ : ∃ u, (vs ++ lit5.toList)[vs.length + 4]? = some u := ⟨_, List.getElem?_eq_getElem (by rw [List.length_append]; simp [lit5])⟩
  have hgl : g < w2.heap.size := (hown.lt g rfl).2
  have hgb : w.heap.size ≤ g := (hown.lt g rfl).1
  have hF2 : Fr (fun k => (Value.slice ao vs.length cp).ownBlock = some k) wr w2 := ((Fr.refl _ _).alloc _).grown hg (fun q hq => .inl hq)
  refine ⟨g, cap', w2, hr, ⟨u, hcell.trans hu⟩, hown.frozenAt _, hgl, fun o za zn zc => ⟨?_, ?_⟩⟩
  · have hst := (World.ownsRow.stored (hown.alloc o) (vs.length + 4) (.slice za zn zc)).1
    have hF2o := hF2.alloc o
    rcases hat with ⟨rfl, rfl⟩ | ⟨hgn, hbl⟩
    · have hkeep : ∀ q, q < wr.heap.size → q ≠ g → ((w2.alloc o).setCell ⟨g, vs.length + 4, none⟩ (.slice za zn zc)).heap[q]? = wr.heap[q]? := fun q hq hqg => by
        rw [heap_setCell_other _ _ _ _ hqg]
        exact hF2o.block q hq (fun e => hqg (by simp only [Value.ownBlock, Option.some.injEq] at e; exact e.symm))
      refine ⟨⟨?_, (h.own.fr.trans hF2o (fun k hk e => by have := (hbo k e).2.1; omega)).setCell (.inr hgb) _⟩, h.len, fun j v p' hv' hp' => ?_, h.apart, h.byt⟩
      · have := own_pre hst (n := vs.length) (by omega)
        have e2 : ((vs ++ lit5.toList).set (vs.length + 4) (.slice za zn zc)).take vs.length = vs := by
          rw [List.set_append_right _ _ (by omega), List.take_left' rfl]
        rw [e2] at this
        exact this
      · obtain ⟨bo2, c2, e, hO2⟩ := h.row j v p' hv' hp'
        exact ⟨bo2, c2, e, ownsRow_of_block hO2 (fun q hq => hkeep q (World.ownsRow.lt hO2 q hq).2 (fun e2 => own_ne h.own.own hO2 g rfl (by rw [← e2]; exact hq)))⟩
    · have hge : wr.heap.size ≤ g := by rw [hgn]; simp
      refine h.blocks ((h.own.fr.trans hF2o (fun k hk e => by have := (hbo k e).2.1; omega)).setCell (.inr hgb) _) (fun q hq => ?_)
      have hw2 := hg.size
      rw [heap_setCell_other _ _ _ _ (by simp only; omega), Below.heap_alloc _ _ _ (by simp at hw2; omega), hbl q (by simp; omega)]
      exact Below.heap_alloc _ _ _ hq
  · have hF3 : Fr (fun k => k < H) wr (w2.alloc o) := (hF2.mono (fun q _ e => (hbo q e).1)).alloc o
    refine hF3.setCell ?_ _
    rcases hat with ⟨rfl, rfl⟩ | ⟨hgn, hbl⟩
    · exact .inl (hbo g rfl).1
    · right
      show wr.heap.size ≤ g
      rw [hgn]; simp
end Go.Proofs.YthamfidjilclpaaDoor

namespace Go.Proofs.YthamfidjilclpaaDoor
open Go.RowKit

/-- Each hash that was written over bears its mark. -/
def Mkd (qs : List (List Nat)) (k : Nat) : Prop := ∀ i q, i < k → qs[i]? = some q → ∀ u ∈ q, u = (99 + i) % 256
theorem OL.at_ {w wr : World} {ao : Option Addr} {cp : Nat} {vs : List Value} {ps : List (List Nat)} (h : OL w wr ao cp vs ps) (i : Nat) (hi : i < ps.length) : ∃ g o bo c, ao = some ⟨g, 0, none⟩ ∧ o = 0 + i ∧ vs[i]? = some (.slice bo ps[i].length c) ∧ wr.cell? ⟨g, i, none⟩ = some (.slice bo ps[i].length c) ∧ Ow wr w.heap.size bo c ps[i] := by
  have hvl : i < vs.length := by rw [h.len]; exact hi
  obtain ⟨bo, c, e, hO⟩ := h.row i vs[i] ps[i] (List.getElem?_eq_getElem hvl) (List.getElem?_eq_getElem hi)
  obtain ⟨g, rfl⟩ : ∃ g, ao = some ⟨g, 0, none⟩ := by
    rcases h.own.own.2 with ⟨_, e⟩ | ⟨g, cap, cur, e, _⟩
    · omega
    · simp only [Value.slice.injEq] at e
      exact ⟨g, e.1⟩
  have hv : vs[i]? = some (.slice bo ps[i].length c) := by rw [List.getElem?_eq_getElem hvl, e]
  exact ⟨g, _, bo, c, rfl, rfl, hv, (h.own.own.cellAt i (by omega)).trans hv, hO⟩
set_option maxRecDepth 100000 in
set_option maxHeartbeats 1000000 in
theorem spoil_any {w wr : World} {ao : Option Addr} {cp : Nat} {vs : List Value} {ps : List (List Nat)} (h : OL w wr ao cp vs ps) (H : Nat) (hB : ∀ p ∈ ps, p.length ≤ 1000) (hn : vs.length ≤ 8000000) (hH : ∀ v ∈ vs, ∀ g, v.ownBlock = some g → g < H) (hH2 : ∀ g, (Value.slice ao vs.length cp).ownBlock = some g → g < H) :
    Calls Tryd.prog 63 #[.slice ao vs.length cp] wr fun e w' => e = .returned (.tuple #[]) ∧ ∃ qs, OL w w' ao cp vs qs ∧ Mkd qs vs.length ∧ Fr (fun k => k < H) wr w' := by
  have HG := hide (And.intro h (And.intro hB (And.intro hn (And.intro hH hH2))))
  clear h hB hn hH hH2
  generalize hN : vs.length = N at *
  go_enter Tryd.func63, Tryd.ntmps63
  go_wp2_with fail
  go_loopw [2] (fun iv wq => ∃ (k : Nat) (qs : List (List Nat)), k ≤ N ∧ iv = .int .i64 (k : Nat) ∧ OL w wq ao cp vs qs ∧ (∀ p ∈ qs, p.length ≤ 1000) ∧ Mkd qs k ∧ Fr (fun k => k < H) wr wq) (fun iv _ => N - (intOf iv).toNat)
  case atStart => exact ⟨0, ps, Nat.zero_le _, rfl, (unhide HG).1, (unhide HG).2.1, fun i q hi => by omega, Fr.refl _ _⟩
  case round =>
    obtain ⟨k, qs, hk, rfl, hO, hB, hM, hF⟩ := hrel
    rename World => wq
    have hN8 := (unhide HG).2.2.1
    have hql : qs.length = N := by rw [← hO.len, hN]
    by_cases hlt : k < N
    · have hlt' : (k : Int) < (N : Int) := by omega
      have hkq : k < qs.length := by omega
      obtain ⟨V, hV⟩ : ∃ V, (99 + k) % 256 = V := ⟨_, rfl⟩
      have hV256 : V < 256 := by omega
      have r1 : IntKind.i64.wrap (99 + (k : Int)) = 99 + (k : Int) := by rw [IntKind.wrap_i64]; omega
      have r2 : IntKind.u8.wrap (99 + (k : Int)) = (V : Int) := by rw [IntKind.wrap_u8]; omega
      have hqb := hB qs[k] (List.getElem_mem hkq)
      obtain ⟨L, hL⟩ : ∃ L, qs[k].length = L := ⟨_, rfl⟩
      have HI := hide (And.intro hO (And.intro hB (And.intro hM (And.intro hF (And.intro hL hV)))))
      clear hO hB hM hF hV
      go_wp2_with fail
      go_loopw [3] (fun jv wz => ∃ (j : Nat) (r : List Nat), j ≤ L ∧ jv = .int .i64 (j : Nat) ∧ r.length = L ∧ (∀ t u, t < j → r[t]? = some u → u = V) ∧ OL w wz ao cp vs (qs.set k r) ∧ Fr (fun k => k < H) wr wz) (fun jv _ => L - (intOf jv).toNat)
      case atStart => exact ⟨0, qs[k], Nat.zero_le _, rfl, hL, fun t u ht => by omega, by rw [List.set_getElem_self]; exact (unhide HI).1, (unhide HI).2.2.2.1⟩
      case round =>
        obtain ⟨j, r, hj, rfl, hrl, hrm, hO, hF⟩ := hrel
        rename World => wz
        obtain ⟨g, o, bo, c, rfl, -, hv, hcell, hOw⟩ := hO.at_ k (by rw [List.length_set]; exact hkq)
        simp only [List.getElem_set_self] at hv hcell hOw
        rw [hrl] at hv hcell
        by_cases hjl : j < L
        · have hjl' : (j : Int) < (L : Int) := by omega
          obtain ⟨gb, rfl⟩ : ∃ gb, bo = some ⟨gb, 0, none⟩ := by
            rcases hOw.2 with ⟨_, e⟩ | ⟨g', cap, cur, e, _⟩
            · omega
            · simp only [Value.slice.injEq] at e
              exact ⟨g', e.1⟩
          have hrb : ∀ v ∈ r, v < 256 := hO.byt r (List.mem_of_getElem? (List.getElem?_set_self hkq))
          have hcb := hOw.cell j (by omega) hrb
          have hfz := hOw.fz j
          have hO2 := hO.setB k j gb c V r (by rw [hrl]; exact hv) (List.getElem?_set_self hkq) hV256
          rw [List.set_set] at hO2
          have hgH : gb < H := (unhide HG).2.2.2.1 _ (List.mem_of_getElem? hv) gb rfl
          have hF2 := hF.setCell (p := ⟨gb, j, none⟩) (.inl hgH) (.int .u8 (V : Int))
          have hr2 : (r.set j V).length = L := by rw [List.length_set]; exact hrl
          have hrm2 : ∀ t u, t < j + 1 → (r.set j V)[t]? = some u → u = V := fun t u ht hu => by
            by_cases e : j = t
            · subst e
              rw [List.getElem?_set_self (by omega)] at hu
              exact (Option.some.inj hu).symm
            · rw [List.getElem?_set_ne e] at hu
              exact hrm t u (by omega) hu
          have HN := hide (And.intro hO2 (And.intro hF2 (And.intro hr2 hrm2)))
          clear hO2 hF2 hr2 hrm2 hO hF hOw hrm hrb hgH
          have w3 : IntKind.i64.wrap ((j : Int) + 1) = (j : Int) + 1 := by rw [IntKind.wrap_i64]; omega
          go_wp2_with fail
          exact ⟨⟨j + 1, r.set j V, by omega, by go_num, (unhide HN).2.2.1, (unhide HN).2.2.2, (unhide HN).1, (unhide HN).2.1⟩, by simp [intOf]; omega⟩
        · have hjL : j = L := by omega
          have hjl' : ¬ (j : Int) < (L : Int) := by omega
          obtain ⟨g9, cap9, w9, hr9, ⟨u9, hu9⟩, hz9, hO9, hF9⟩ := hO.past k L c H bo r hv (List.getElem?_set_self hkq) hrl (by omega) (unhide HG).2.2.2.1
          have hF9' := hF.trans hF9 (fun _ _ h => h)
          have hB9 : ∀ p ∈ qs.set k r, p.length ≤ 1000 := fun p hp => by
            rcases List.mem_or_eq_of_mem_set hp with h1 | h1
            · exact (unhide HI).2.1 p h1
            · subst h1; omega
          have hM9 : Mkd (qs.set k r) (k + 1) := fun i q hi hq u hu => by
            by_cases e : k = i
            · subst e
              rw [List.getElem?_set_self hkq] at hq
              cases hq
              obtain ⟨t, ht, rfl⟩ := List.getElem_of_mem hu
              rw [(unhide HI).2.2.2.2.2]
              exact hrm t _ (by omega) (List.getElem?_eq_getElem ht)
            · rw [List.getElem?_set_ne e] at hq
              exact (unhide HI).2.2.1 i q (by omega) hq u hu
          have HN := hide (And.intro hO9 (And.intro hF9' (And.intro hB9 hM9)))
          have HR9 := hide hr9
          clear hO9 hF9 hF9' hB9 hM9 hO hF hOw hrm hr9 hjL
          have w3 : IntKind.i64.wrap ((k : Int) + 1) = (k : Int) + 1 := by rw [IntKind.wrap_i64]; omega
          have w4 : IntKind.i64.wrap ((L : Int) + 9 - 1) = (L : Int) + 8 := by rw [IntKind.wrap_i64]; omega
          go_wp2_with (at_builtin; refine wpList_app rfl (.tmp 33) (.tmp 34) 26 26 rfl _ _ _ rfl rfl (unhide HR9) ?_)
          exact ⟨⟨k + 1, qs.set k r, by omega, by go_num, (unhide HN).1, (unhide HN).2.2.1, (unhide HN).2.2.2, (unhide HN).2.1⟩, by simp [intOf]; omega⟩
    · have hkN : k = N := by omega
      have hlt' : ¬ (k : Int) < (N : Int) := by omega
      obtain ⟨g9, cap9, w9, hr9, ⟨u9, hu9⟩, hz9, hg9, hO9⟩ := hO.past2 H N hN (by omega) (by rw [hN]; exact (unhide HG).2.2.2.2)
      have h10 := hO9 (.cells #[.int .u8 1] 5) (some ⟨w9.heap.size, 0, none⟩) 1 1
      have e10 : (w9.alloc (.cells #[.int .u8 1] 5)).setCell ⟨g9, N + 4, none⟩ (.slice (some ⟨w9.heap.size, 0, none⟩) 1 1) = (w9.setCell ⟨g9, N + 4, none⟩ (.slice (some ⟨w9.heap.size, 0, none⟩) 1 1)).alloc (.cells #[.int .u8 1] 5) := by simp [hg9, go_sem]
      rw [e10] at h10
      clear e10
      have hF10 := hF.trans h10.2 (fun _ _ h => h)
      have HN := hide (And.intro h10.1 (And.intro hF10 (And.intro hM hkN)))
      have HR9 := hide hr9
      clear hO9 h10 hF10 hO hF hM hr9 hkN
      have w4 : IntKind.i64.wrap ((N : Int) + 5 - 1) = (N : Int) + 4 := by rw [IntKind.wrap_i64]; omega
      go_wp2_with (at_builtin; refine wpList_app rfl (.tmp 41) (.tmp 42) 22 22 rfl _ _ _ rfl rfl (unhide HR9) ?_)
      go_end0
      exact ⟨rfl, qs, (unhide HN).1, by rw [← (unhide HN).2.2.2]; exact (unhide HN).2.2.1, (unhide HN).2.1⟩
end Go.Proofs.YthamfidjilclpaaDoor

namespace Go.Proofs.YthamfidjilclpaaDoor
open Go.RowKit

set_option maxRecDepth 100000 in
set_option maxHeartbeats 1000000 in
/-- same, of lists that are the same. -/
theorem msame_T (x y : Value) (vs us : List Value) (ps : List (List Nat)) (w : World) (hx : Pcs w x vs ps) (hy : Pcs w y us ps) (hB : ∀ p ∈ ps, p.length ≤ 1000000) (hn : ps.length ≤ 16000000) :
    Calls Tryd.prog 15 #[x, y] w fun e w' => e = .returned (.bool true) ∧ Fr (fun _ => False) w w' := by
  obtain ⟨xo, xc, rfl⟩ := hx.form
  obtain ⟨yo, yc, rfl⟩ := hy.form
  have HG := hide (And.intro hx (And.intro hy (And.intro hB hn)))
  clear hx hy hB hn
  generalize hN : ps.length = N at *
  go_enter Tryd.func15, Tryd.ntmps15
  go_wp2_with fail
  go_loopw [5] (fun iv wr => ∃ (k : Nat), k ≤ N ∧ iv = .int .i64 (k : Nat) ∧ Fr (fun _ => False) w wr) (fun iv _ => N - (intOf iv).toNat)
  case atStart => exact ⟨0, Nat.zero_le _, rfl, Fr.refl _ _⟩
  case round =>
    obtain ⟨k, hk, rfl, hF⟩ := hrel
    have hN8 := (unhide HG).2.2.2
    by_cases hlt : k < N
    · have hlt' : (k : Int) < (N : Int) := by omega
      have hke : k < ps.length := by omega
      obtain ⟨g, o, vo, vc, rfl, c1, s1⟩ := (unhide HG).1.nth hF k hke
      obtain ⟨g2, o2, uo, uc, rfl, c2, s2⟩ := (unhide HG).2.1.nth hF k hke
      have hpb := (unhide HG).2.2.1 ps[k] (List.getElem_mem hke)
      have hsm : sameB ps[k] ps[k] = true := sameB_refl _
      have hsame := fun (w' : World) (hf : Fr (fun _ => False) wr w') => same_T (s1.s.fr0 hf) (s2.s.fr0 hf) (by omega) hsm
      generalize ps[k].length = PL at *
      have HS := hide (And.intro hsame hF)
      clear hsame hF s1 s2 hsm
      have w5 : IntKind.i64.wrap ((k : Int) + 1) = (k : Int) + 1 := by rw [IntKind.wrap_i64]; omega
      have hS : ∀ w', Fr (fun _ => False) wr w' → w'.cell? ⟨g, o + k, none⟩ = some (.slice vo PL vc) ∧ w'.cell? ⟨g2, o2 + k, none⟩ = some (.slice uo PL uc) := fun w' hf => ⟨(hf.cell (lt_of_cell c1) (fun h => h)).trans c1, (hf.cell (lt_of_cell c2) (fun h => h)).trans c2⟩
      have HSS := hide hS
      clear hS
      go_wp2_with fail
      go_region_held3 (fun w' => w'.cell? ⟨g, o + k, none⟩ = some (.slice vo PL vc) ∧ w'.cell? ⟨g2, o2 + k, none⟩ = some (.slice uo PL uc))
        (first | assumption | exact (unhide HSS) _ (Fr.refl _ _).drew | exact (unhide HSS) _ fC)
        (first | (go_at_call 11; refine ((unhide HS).1 _ (by exact (Fr.refl _ _).drew)).mono ?_; rintro e wC ⟨rfl, hC⟩; have fC : Fr (fun _ => False) wr wC := (Fr.refl _ _).drew.trans hC (fun _ _ h => h)))
      have HE := hide ((unhide HS).2.trans fC (fun _ _ h => h))
      clear fC hC
      go_wp2_with fail
      exact ⟨⟨k + 1, by omega, by go_num, unhide HE⟩, by simp [intOf]; omega⟩
    · have hlt' : ¬ (k : Int) < (N : Int) := by omega
      have HE := hide hF
      clear hF
      go_wp2_with fail
      go_ret
      exact ⟨rfl, unhide HE⟩
set_option maxRecDepth 100000 in
set_option maxHeartbeats 1000000 in
/-- apart, of hashes that bear their marks. -/
theorem apart_T (x : Value) (vs : List Value) (qs : List (List Nat)) (w : World) (hx : Pcs w x vs qs) (hm : Mkd qs qs.length) (hB : ∀ p ∈ qs, p.length ≤ 1000000) (hn : qs.length ≤ 16000000) :
    Calls Tryd.prog 64 #[x] w fun e w' => e = .returned (.bool true) ∧ w' = w := by
  obtain ⟨xo, xc, rfl⟩ := hx.form
  have HG := hide (And.intro hx (And.intro hm (And.intro hB hn)))
  clear hx hm hB hn
  generalize hN : qs.length = N at *
  go_enter Tryd.func64, Tryd.ntmps64
  go_wp2_with fail
  go_loopw [3] (fun iv wr => ∃ (k : Nat), k ≤ N ∧ iv = .int .i64 (k : Nat) ∧ wr = w) (fun iv _ => N - (intOf iv).toNat)
  case atStart => exact ⟨0, Nat.zero_le _, rfl, rfl⟩
  case round =>
    obtain ⟨k, hk, rfl, rfl⟩ := hrel
    have hN8 := (unhide HG).2.2.2
    by_cases hlt : k < N
    · have hlt' : (k : Int) < (N : Int) := by omega
      have hke : k < qs.length := by omega
      obtain ⟨g, o, vo, vc, rfl, c1, s1⟩ := (unhide HG).1.nth (Fr.refl _ _) k hke
      have hpb := (unhide HG).2.2.1 qs[k] (List.getElem_mem hke)
      have hmk := (unhide HG).2.1 k qs[k] hlt (List.getElem?_eq_getElem hke)
      generalize qs[k] = q at *
      have HS := hide (And.intro s1 hmk)
      clear s1 hmk
      generalize hL : q.length = L at *
      obtain ⟨V, hV⟩ : ∃ V, (99 + k) % 256 = V := ⟨_, rfl⟩
      have r1 : IntKind.i64.wrap (99 + (k : Int)) = 99 + (k : Int) := by rw [IntKind.wrap_i64]; omega
      have r2 : IntKind.u8.wrap (99 + (k : Int)) = (V : Int) := by rw [IntKind.wrap_u8]; omega
      have w3 : IntKind.i64.wrap ((k : Int) + 1) = (k : Int) + 1 := by rw [IntKind.wrap_i64]; omega
      have HV := hide hV
      clear hV
      go_wp2_with fail
      go_loopw [4] (fun jv wz => ∃ (j : Nat), j ≤ L ∧ jv = .int .i64 (j : Nat) ∧ wz = wr) (fun jv _ => L - (intOf jv).toNat)
      case atStart => exact ⟨0, Nat.zero_le _, rfl, rfl⟩
      case round =>
        obtain ⟨j, hj, rfl, rfl⟩ := hrel
        by_cases hjl : j < L
        · have hjl' : (j : Int) < (L : Int) := by omega
          obtain ⟨g1, o1, rfl, b1⟩ := src_cell (unhide HS).1.s j (by omega) (unhide HS).1.b
          have hu : q.getD j 0 = V := by
            rw [List.getD, List.getElem?_eq_getElem (by omega), Option.getD_some, ← unhide HV]
            exact (unhide HS).2 _ (List.getElem_mem _)
          rw [hu] at b1
          have w4 : IntKind.i64.wrap ((j : Int) + 1) = (j : Int) + 1 := by rw [IntKind.wrap_i64]; omega
          clear hu
          go_wp2_with fail
          exact ⟨⟨j + 1, by omega, by go_num, by first | rfl | trivial⟩, by simp [intOf]; omega⟩
        · have hjl' : ¬ (j : Int) < (L : Int) := by omega
          go_wp2_with fail
          exact ⟨⟨k + 1, by omega, by go_num, by first | rfl | trivial⟩, by simp [intOf]; omega⟩
    · have hlt' : ¬ (k : Int) < (N : Int) := by omega
      go_wp2_with fail
      go_ret
      exact ⟨rfl, by first | rfl | trivial⟩
/-- Hashes made later stay where what was made before them is written. -/
theorem OL.pcs_ge {w wr wq : World} {ao : Option Addr} {cp : Nat} {vs : List Value} {ps : List (List Nat)} (h : OL w wr ao cp vs ps) (hf : Fr (fun k => k < w.heap.size) wr wq) : Pcs wq (.slice ao vs.length cp) vs ps := by
  have hp := h.pcs
  refine ⟨hp.len, ?_, fun j v p hv hpp => ?_, hp.byt⟩
  · rcases h.own.own.2 with ⟨e, e0⟩ | ⟨g, cap, cur, e, h1, _⟩
    · simp only [Value.slice.injEq] at e
      obtain ⟨rfl, _, rfl⟩ := e
      exact .inl ⟨by rw [e0], List.length_eq_zero_iff.1 e0⟩
    · simp only [Value.slice.injEq, true_and] at e
      obtain ⟨rfl, rfl⟩ := e
      have hg := h.own.own.lt g rfl
      refine .inr (.inr ⟨g, 0, cp, rfl, Nat.lt_of_lt_of_le hg.2 hf.size, fun j v hv => ?_⟩)
      have hj : j < vs.length := (List.getElem?_eq_some_iff.1 hv).1
      rw [Nat.zero_add, hf.cell (p := ⟨g, j, none⟩) hg.2 (by simp only; omega), h.own.own.cellAt j (by omega), hv]
  · obtain ⟨bo, c, rfl, hO⟩ := h.row j v p hv hpp
    have hO2 : Ow wq w.heap.size bo c p := hO.fr hf (fun k hk h => by omega)
    have := hO2.sl (h.byt p (List.mem_of_getElem? hpp))
    exact ⟨this.s, this.cap, this.lt⟩
theorem OL.inner_lt' {w wr : World} {ao : Option Addr} {cp : Nat} {vs : List Value} {ps : List (List Nat)} (h : OL w wr ao cp vs ps) : (∀ v ∈ vs, ∀ g, v.ownBlock = some g → g < wr.heap.size) ∧ ∀ g, (Value.slice ao vs.length cp).ownBlock = some g → g < wr.heap.size :=
  ⟨fun v hv g hg => (h.inner_lt v hv g hg).2, fun g hg => (h.own.own.lt g hg).2⟩
set_option maxRecDepth 100000 in
set_option maxHeartbeats 1000000 in
theorem held_T {w2 w3 w4 : World} {ao bo : Option Addr} {cp bc : Nat} {vs us ts : List Value} {ps : List (List Nat)} {z : Value} (ha : OL w2 w3 ao cp vs ps) (hb : OL w3 w4 bo bc us ps) (hz : Pcs w2 z ts ps) (c : Int) (hB : ∀ p ∈ ps, p.length ≤ 1000) (hn : ps.length ≤ 8000000) :
    Calls Tryd.prog 32 #[.slice ao vs.length cp, .int .i64 c, .slice bo us.length bc, .int .i64 c, z, .int .i64 c] w4 fun e w' => e = .returned (.bool true) ∧ Fr (fun _ => False) w2 w' := by
  have hB2 : ∀ p ∈ ps, p.length ≤ 1000000 := fun p hp => by have := hB p hp; omega
  have ha4 := ha.fr0 hb.own.fr
  have h1 := fun w' (hf : Fr (fun _ => False) w4 w') => msame_T _ _ vs ts ps w' (ha4.fr0 hf).pcs (((hz.fr0 ha.own.fr).fr0 hb.own.fr).fr0 hf) hB2 (by omega)
  have h2 := fun w' (hf : Fr (fun _ => False) w4 w') => msame_T _ _ us ts ps w' (hb.fr0 hf).pcs (((hz.fr0 ha.own.fr).fr0 hb.own.fr).fr0 hf) hB2 (by omega)
  have hl := ha.inner_lt'
  have hsp := fun w' (hf : Fr (fun _ => False) w4 w') => spoil_any (ha4.fr0 hf) w3.heap.size hB (by rw [ha.len]; exact hn) hl.1 hl.2
  have hap : ∀ w' qs, OL w2 w' ao cp vs qs → Mkd qs vs.length → Calls Tryd.prog 64 #[.slice ao vs.length cp] w' fun e w'' => e = .returned (.bool true) ∧ w'' = w' := fun w' qs hq hm => by
    refine apart_T _ vs qs w' hq.pcs (by rw [← hq.len]; exact hm) (fun q hqm => ?_) (by rw [← hq.len, ha.len]; omega)
    obtain ⟨j, hj, rfl⟩ := List.getElem_of_mem hqm
    have hjv : j < vs.length := by rw [hq.len]; exact hj
    have hjp : j < ps.length := by rw [← ha.len]; exact hjv
    obtain ⟨b1, c1, e1, _⟩ := hq.row j vs[j] qs[j] (List.getElem?_eq_getElem hjv) (List.getElem?_eq_getElem hj)
    obtain ⟨b2, c2, e2, _⟩ := ha.row j vs[j] ps[j] (List.getElem?_eq_getElem hjv) (List.getElem?_eq_getElem hjp)
    rw [e1] at e2
    simp only [Value.slice.injEq] at e2
    rw [e2.2.1]
    exact hB2 _ (List.getElem_mem _)
  have h3 := fun w' w'' (hf : Fr (fun _ => False) w4 w') (hf2 : Fr (fun k => k < w3.heap.size) w' w'') (hf3 : Fr (fun _ => False) w2 w'') => msame_T _ _ us ts ps w'' ((hb.fr0 hf).pcs_ge hf2) (hz.fr0 hf3) hB2 (by omega)
  have HC := hide (And.intro h1 (And.intro h2 (And.intro hsp (And.intro hap h3))))
  obtain ⟨zo, zc, rfl⟩ := hz.form
  clear h1 h2 hsp hap h3 hl ha4 hB2 hB hn ha hb hz
  generalize vs.length = VL at *
  generalize us.length = UL at *
  generalize ps.length = PL at *
  go_enter Tryd.func32, Tryd.ntmps32
  go_wp2_with fail
  refine ((unhide HC).1 w4 (Fr.refl _ _)).mono ?_
  rintro e w5 ⟨rfl, hF⟩
  have H5 := hide hF
  clear hF
  go_wp2_with fail
  refine ((unhide HC).2.1 w5 (unhide H5)).mono ?_
  rintro e w6 ⟨rfl, hF⟩
  have H6 := hide ((unhide H5).trans hF (fun _ _ h => h))
  clear hF
  go_wp2_with fail
  refine ((unhide HC).2.2.1 w6 (unhide H6)).mono ?_
  rintro e w7 ⟨rfl, qs, hq, hm, hF⟩
  have H7 := hide (And.intro hq (And.intro hm hF))
  clear hq hm hF
  go_wp2_with fail
  refine ((unhide HC).2.2.2.1 w7 qs (unhide H7).1 (unhide H7).2.1).mono ?_
  rintro e w8 ⟨rfl, rfl⟩
  go_wp2_with fail
  refine ((unhide HC).2.2.2.2 w6 w8 (unhide H6) (unhide H7).2.2 (unhide H7).1.own.fr).mono ?_
  rintro e w9 ⟨rfl, hF⟩
  have H9 := hide ((unhide H7).1.own.fr.trans hF (fun _ _ h => h))
  clear hF
  go_wp2_with fail
  go_ret
  exact ⟨rfl, unhide H9⟩
end Go.Proofs.YthamfidjilclpaaDoor

namespace Go.Proofs.YthamfidjilclpaaDoor
open Go.RowKit

def LL : List (List Nat) := tes.map (lf ((32 : Nat) : Int))
/-- The root of the examples' entries from a on, below b. -/
def prt (a b : Nat) : List Nat := mth ((32 : Nat) : Int) (blk LL a (b - a))
theorem LL_wid : ∀ p ∈ LL, p.length = 32 := map_lf_len 32 (by decide) (by decide) tes
theorem LL_lt : ∀ p ∈ LL, ∀ v ∈ p, v < 256 := fun p hp => by
  obtain ⟨e, _, rfl⟩ := List.mem_map.1 hp
  exact lf_lt _ _
theorem prt_len (a b : Nat) : (prt a b).length = 32 := mth_wid 32 (by decide) (by decide) _ (fun p hp => LL_wid p (blk_mem _ _ _ p hp))
theorem prt_lt (a b : Nat) : ∀ v ∈ prt a b, v < 256 := mth_lt _ _ _ (Nat.le_refl _) (fun p hp => LL_lt p (blk_mem _ _ _ p hp))
theorem h8 : hf 8 = 4 := by decide +kernel
theorem h7 : hf 7 = 4 := by decide +kernel
theorem h5 : hf 5 = 4 := by decide +kernel
theorem h4 : hf 4 = 2 := by decide +kernel
theorem h3 : hf 3 = 2 := by decide +kernel
theorem h2 : hf 2 = 1 := by decide +kernel
theorem kp0 : bes 32 LL 0 8 0 1 = [prt 1 2, prt 2 4, prt 4 8] := by
  rw [bes_l (by decide) (by decide) (by rw [h8]; decide), h8, bes_l (by decide) (by decide) (by rw [h4]; decide), h4, bes_l (by decide) (by decide) (by rw [h2]; decide), h2, bes_eq]
  rfl
theorem kp2 : bes 32 ((tes.take 3).map (lf ((32 : Nat) : Int))) 0 3 2 1 = [prt 0 2] := by
  rw [bes_r (by decide) (by decide) (by rw [h3]; decide), h3, bes_eq]
  rfl
theorem kp4 : bes 32 ((tes.take 5).map (lf ((32 : Nat) : Int))) 0 5 4 1 = [prt 0 4] := by
  rw [bes_r (by decide) (by decide) (by rw [h5]; decide), h5, bes_eq]
  rfl
theorem kf1 : prf 32 LL 8 1 = [prt 1 2, prt 2 4, prt 4 8] := by
  have e : endF 0 8 1 = (0, 1) := by
    rw [endF_l (by decide) (by decide) (by rw [h8]; decide), h8, endF_l (by decide) (by decide) (by rw [h4]; decide), h4, endF_l (by decide) (by decide) (by rw [h2]; decide), h2, endF_eq (by decide)]
  rw [prf, e, if_neg (by decide), if_pos rfl]
  exact kp0
theorem kf6 : prf 32 LL 8 6 = [prt 4 6, prt 6 8, prt 0 4] := by
  have e : endF 0 8 6 = (4, 2) := by
    rw [endF_r (by decide) (by decide) (by rw [h8]; decide), h8, endF_l (by decide) (by decide) (by rw [h4]; decide), h4, endF_eq (by decide)]
  rw [prf, e, if_neg (by decide), if_neg (by decide), bes_r (by decide) (by decide) (by rw [h8]; decide), h8, bes_l (by decide) (by decide) (by rw [h4]; decide), h4, bes_eq]
  rfl
theorem kf2 : prf 32 ((tes.take 5).map (lf ((32 : Nat) : Int))) 5 2 = [prt 2 4, prt 4 5] := by
  have e : endF 0 5 2 = (0, 2) := by
    rw [endF_l (by decide) (by decide) (by rw [h5]; decide), h5, endF_l (by decide) (by decide) (by rw [h4]; decide), h4, endF_eq (by decide)]
  rw [prf, e, if_neg (by decide), if_pos rfl, bes_l (by decide) (by decide) (by rw [h5]; decide), h5, bes_l (by decide) (by decide) (by rw [h4]; decide), h4, bes_eq]
  rfl
theorem kf0 : prf 32 LL 8 0 = [] := by rw [prf, if_pos rfl]
theorem mny_s {wi : Nat} {L : List (List Nat)} {f n h c : Nat} {zs z1 z2 : List Int} (hz : zs ≠ []) (h2 : 2 ≤ n) (hh : hf n = h) (hc : zs.countP (· < ((f + h : Nat) : Int)) = c) (e1 : zs.take c = z1) (e2 : zs.drop c = z2) : mny wi L f n zs = mny wi L f h z1 ++ mny wi L (f + h) (n - h) z2 := by
  rw [mny_two hz h2, hh, hc, e1, e2]
theorem km2 : mny 32 LL 0 8 [0, 5] = [prt 1 2, prt 2 4, prt 4 5, prt 6 8] := by
  rw [mny_s (z1 := [0]) (z2 := [5]) (c := 1) (by simp) (by decide) h8 (by decide) rfl rfl,
    mny_s (z1 := [0]) (z2 := []) (c := 1) (by simp) (by decide) h4 (by decide) rfl rfl,
    mny_s (z1 := [0]) (z2 := []) (c := 1) (by simp) (by decide) h2 (by decide) rfl rfl,
    mny_s (z1 := [5]) (z2 := []) (c := 1) (by simp) (by decide) h4 (by decide) rfl rfl,
    mny_s (z1 := []) (z2 := [5]) (c := 0) (by simp) (by decide) h2 (by decide) rfl rfl]
  rw [mny_one (zs := [0]) (by simp) (by decide), mny_one (zs := [5]) (by simp) (by decide)]
  simp only [mny_nil]
  rfl
theorem km0 : mny 32 LL 0 8 [] = [rootB] := by
  rw [mny_nil, ← root_tests]
  rfl
theorem km8 : mny 32 LL 0 8 [0, 1, 2, 3, 4, 5, 6, 7] = [] := by
  rw [mny_s (z1 := [0, 1, 2, 3]) (z2 := [4, 5, 6, 7]) (c := 4) (by simp) (by decide) h8 (by decide) rfl rfl,
    mny_s (z1 := [0, 1]) (z2 := [2, 3]) (c := 2) (by simp) (by decide) h4 (by decide) rfl rfl,
    mny_s (z1 := [4, 5]) (z2 := [6, 7]) (c := 2) (by simp) (by decide) h4 (by decide) rfl rfl,
    mny_s (z1 := [0]) (z2 := [1]) (c := 1) (by simp) (by decide) h2 (by decide) rfl rfl,
    mny_s (z1 := [2]) (z2 := [3]) (c := 1) (by simp) (by decide) h2 (by decide) rfl rfl,
    mny_s (z1 := [4]) (z2 := [5]) (c := 1) (by simp) (by decide) h2 (by decide) rfl rfl,
    mny_s (z1 := [6]) (z2 := [7]) (c := 1) (by simp) (by decide) h2 (by decide) rfl rfl]
  simp [mny_one]
theorem kk7 : pks 32 ((tes.take 7).map (lf ((32 : Nat) : Int))) 0 7 = [prt 0 4, prt 4 6, prt 6 7] := by
  rw [pks_two (by decide +kernel) (by decide), h7, pks_two (by decide +kernel) (by decide), h3, pks_one (by decide +kernel)]
  rfl
def nonB : List Nat := [227, 176, 196, 66, 152, 252, 28, 20, 154, 251, 244, 200, 153, 111, 185, 36, 39, 174, 65, 228, 100, 155, 147, 76, 164, 149, 153, 27, 120, 82, 184, 85]
def twoB : List Nat := [250, 197, 66, 3, 231, 204, 105, 108, 240, 223, 203, 66, 201, 42, 29, 157, 186, 247, 10, 217, 230, 33, 244, 189, 141, 152, 102, 47, 0, 227, 193, 37]
theorem nonB_hex : hxl (bytesOf ⟨#[101, 51, 98, 48, 99, 52, 52, 50, 57, 56, 102, 99, 49, 99, 49, 52, 57, 97, 102, 98, 102, 52, 99, 56, 57, 57, 54, 102, 98, 57, 50, 52, 50, 55, 97, 101, 52, 49, 101, 52, 54, 52, 57, 98, 57, 51, 52, 99, 97, 52, 57, 53, 57, 57, 49, 98, 55, 56, 53, 50, 98, 56, 53, 53]⟩) = nonB := by decide +kernel
theorem twoB_hex : hxl (bytesOf ⟨#[102, 97, 99, 53, 52, 50, 48, 51, 101, 55, 99, 99, 54, 57, 54, 99, 102, 48, 100, 102, 99, 98, 52, 50, 99, 57, 50, 97, 49, 100, 57, 100, 98, 97, 102, 55, 48, 97, 100, 57, 101, 54, 50, 49, 102, 52, 98, 100, 56, 100, 57, 56, 54, 54, 50, 102, 48, 48, 101, 51, 99, 49, 50, 53]⟩) = twoB := by decide +kernel
theorem sm_non : sm 32 [] = nonB := by decide +kernel
theorem prt00 : prt 0 0 = nonB := by
  have e : blk LL 0 (0 - 0) = [] := rfl
  rw [prt, e, mth_nil]
  exact sm_non
theorem two_k : mthF 32 3 ((tes.take 2).map (lf 32)) = twoB := by decide +kernel
theorem prt02 : prt 0 2 = twoB := by
  have e : blk LL 0 (2 - 0) = (tes.take 2).map (lf 32) := rfl
  rw [prt, e, ← two_k]
  exact (mthF_eq 32 3 _ (by decide)).symm
theorem oB : rootB.length = 32 := rfl
/-- The examples' entries stand. -/
structure Kn (w : World) (g : Nat) (vs : List Value) : Prop where
  gs : GS w
  gt : GT w
  at_ : Pcs w (.slice (some ⟨g, 0, none⟩) 8 8) vs tes
theorem Kn.fr0 {w w' : World} {g : Nat} {vs : List Value} (h : Kn w g vs) (hf : Fr (fun _ => False) w w') : Kn w' g vs := ⟨h.gs.fr0 hf, h.gt.fr0 hf, h.at_.fr0 hf⟩
theorem tes_le : ∀ e ∈ tes, e.length ≤ 16000000 := by decide
theorem Kn.sub {w : World} {g : Nat} {vs : List Value} (h : Kn w g vs) (a b : Nat) (ha : a < 8) (hb : b ≤ 8) : Pcs w (.slice (some ⟨g, a, none⟩) (b - a) (8 - a)) ((vs.drop a).take (b - a)) ((tes.drop a).take (b - a)) := by
  have := (h.at_.drop a ha).take (b - a) (by omega)
  rw [Nat.zero_add] at this
  exact this
set_option maxRecDepth 100000 in
set_option maxHeartbeats 1000000 in
theorem part_any (a b : Nat) (ai bi : Int) (hai : ai = a) (hbi : bi = b) (ha : a < 8) (hab : a ≤ b) (hb : b ≤ 8) (w : World) (g : Nat) (vs : List Value) (h : Kn w g vs) :
    Calls Tryd.prog 12 #[.slice (some ⟨g, 0, none⟩) 8 8, .int .i64 ai, .int .i64 bi] w fun e w' => ∃ yo yc, e = .returned (.slice yo 32 yc) ∧ Sl w' (.slice yo 32 yc) (prt a b) ∧ Fr (fun _ => False) w w' := by
  subst hai hbi
  have hl : ((tes.drop a).take (b - a)).length = b - a := by rw [List.length_take, List.length_drop]; show min _ (8 - a) = _; omega
  have e : ((tes.drop a).take (b - a)).map (lf ((32 : Nat) : Int)) = blk LL a (b - a) := by rw [blk, LL, List.map_take, List.map_drop]
  have hro := fun w' (hf' : Fr (fun _ => False) w w') => mroot_in 32 (by decide) (by decide) _ _ _ w' (h.gs.fr0 hf') (h.gt.fr0 hf') ((h.sub a b ha hb).fr0 hf') (fun e he => tes_le e (List.mem_of_mem_drop (List.mem_of_mem_take he))) (by omega)
  rw [e] at hro
  have hP := prt_lt a b
  have hM := prt_len a b
  unfold prt at hP hM ⊢
  generalize mth ((32 : Nat) : Int) (blk LL a (b - a)) = M at *
  have HG := hide (And.intro hro (And.intro hP hM))
  clear hro hP hM e hl h
  have q1 : (a : Int) ≤ (b : Int) := by omega
  have q2 : (b : Int) ≤ 8 := by omega
  have q3 : ¬ 8 = a := by omega
  have q4 : ¬ a = 8 := by omega
  go_enter Tryd.func12, Tryd.ntmps12
  go_wp2_with fail
  refine ((unhide HG).1 _ (by first | exact Fr.refl _ _ | exact (Fr.refl _ _).drew)).mono ?_
  rintro e w1 ⟨yo, yc, rfl, hO⟩
  have hs := hO.sl (unhide HG).2.1
  rw [(unhide HG).2.2] at hs
  have HS := hide (And.intro hs hO.fr)
  clear hs
  clear hO
  go_wp2_with fail
  go_ret
  exact ⟨yo, yc, rfl, (unhide HS).1, by first | exact (unhide HS).2 | exact ((Fr.refl _ _).drew).trans (unhide HS).2 (fun _ _ h => h)⟩
end Go.Proofs.YthamfidjilclpaaDoor

namespace Go.Proofs.YthamfidjilclpaaDoor
open Go.RowKit

set_option maxRecDepth 100000 in
set_option maxHeartbeats 1000000 in
/-- The ref's with. -/
theorem with_any (x y : Value) (vs : List Value) (ps : List (List Nat)) (h : List Nat) (w : World) (hx : Pcs w x vs ps) (hy : Sl w y h) (hn : ps.length ≤ 8000000) :
    Calls Tryd.prog 91 #[x, y] w fun e w' => ∃ ao cp, e = .returned (.slice ao (ps.length + 1) cp) ∧ Pcs w' (.slice ao (ps.length + 1) cp) (vs ++ [y]) (ps ++ [h]) ∧ Fr (fun _ => False) w w' := by
  obtain ⟨xo, xc, rfl⟩ := hx.form
  obtain ⟨yo, yc, rfl⟩ := hy.form
  have hvl : vs.length = ps.length := hx.len
  have HG := hide (And.intro hx (And.intro hy (And.intro hn hvl)))
  clear hx hy hn hvl
  generalize hN : ps.length = N at *
  generalize hH : h.length = HL at *
  go_enter Tryd.func91, Tryd.ntmps91
  go_wp2_with fail
  go_loopw [5, 6] (fun ov iv wr => ∃ (k : Nat) (ao : Option Addr) (cp : Nat), k ≤ N ∧ iv = .int .i64 (k : Nat) ∧ ov = .slice ao k cp ∧ OS w wr ao cp (vs.take k)) (fun _ iv _ => N - (intOf iv).toNat)
  case atStart => exact ⟨0, none, 0, Nat.zero_le _, rfl, rfl, OS.nil w⟩
  case round =>
    obtain ⟨k, ao, cp, hk, rfl, rfl, hO⟩ := hrel
    have hN8 := (unhide HG).2.2.1
    have hvl := (unhide HG).2.2.2
    have htl : (vs.take k).length = k := by rw [List.length_take]; omega
    by_cases hlt : k < N
    · have hlt' : (k : Int) < (N : Int) := by omega
      have hke : k < ps.length := by omega
      obtain ⟨g, o, v, rfl, hcell, hsrc, -⟩ := (unhide HG).1.cell hO.fr k hke
      have hvk : vs[k]? = some v := by
        have hkv : k < vs.length := by omega
        rcases (unhide HG).1.at_ with ⟨e', _⟩ | ⟨_, _, e', _⟩ | ⟨g', o', c', e', hg', hc'⟩
        · simp at e'
        · simp only [Value.slice.injEq] at e'; omega
        · simp only [Value.slice.injEq, Option.some.injEq, Addr.mk.injEq, and_true] at e'
          obtain ⟨⟨rfl, rfl⟩, _⟩ := e'
          have h1 := (hO.fr.cell (p := ⟨g, o + k, none⟩) hg' (fun h => h)).trans (hc' k _ (List.getElem?_eq_getElem hkv))
          rw [h1] at hcell
          rw [List.getElem?_eq_getElem hkv, Option.some.inj hcell]
      obtain ⟨vo, vc, rfl⟩ := hsrc.form
      obtain ⟨a2, c2, w2, hr2, hO2, -, -⟩ := hO.app1 vo ps[k].length vc (by omega)
      have htk : vs.take k ++ [.slice vo ps[k].length vc] = vs.take (k + 1) := by
        rw [List.take_add_one, hvk]; rfl
      rw [htk] at hO2
      rw [htl] at hr2
      have HR2 := hide hr2
      have HO2 := hide hO2
      clear hr2 hO2 hO hsrc htk hvk htl
      generalize ps[k].length = PL at *
      go_wp2_with (at_builtin; refine wpList_app rfl (.tmp 13) (.tmp 18) 22 22 rfl _ _ _ rfl rfl (unhide HR2) ?_)
      exact ⟨⟨k + 1, a2, c2, by omega, by go_num, rfl, unhide HO2⟩, by simp [intOf]; omega⟩
    · have hkN : k = N := by omega
      have hlt' : ¬ (k : Int) < (N : Int) := by omega
      have htk : vs.take k = vs := List.take_of_length_le (by omega)
      rw [htk] at hO htl
      obtain ⟨a2, c2, w2, hr2, hO2, -, -⟩ := hO.app1 yo HL yc (by omega)
      rw [htl] at hr2
      have hpc : Pcs w2 (.slice a2 (vs ++ [Value.slice yo HL yc]).length c2) (vs ++ [.slice yo HL yc]) (ps ++ [h]) := hO2.pcs (by rw [List.length_append, List.length_append, hvl, hN]; rfl) (fun j v p hv hp => by
        by_cases hj : j < vs.length
        · rw [List.getElem?_append_left hj] at hv
          rw [List.getElem?_append_left (by omega)] at hp
          exact ((unhide HG).1.sl j v p hv hp).fr0 hO2.fr
        · have hje : j = vs.length := by
            have := (List.getElem?_eq_some_iff.1 hv).1
            rw [List.length_append, List.length_singleton] at this
            omega
          subst hje
          rw [List.getElem?_append_right (Nat.le_refl _), Nat.sub_self] at hv
          rw [List.getElem?_append_right (by omega), show vs.length - ps.length = 0 by omega] at hp
          simp only [List.getElem?_cons_zero, Option.some.injEq] at hv hp
          subst hv hp
          exact (unhide HG).2.1.fr0 hO2.fr)
      rw [List.length_append, htl] at hpc
      have HR2 := hide hr2
      have HO2 := hide (And.intro hpc (And.intro hO2.fr hkN))
      clear hr2 hO2 hO hpc htk htl hkN
      go_wp2_with (at_builtin; refine wpList_app rfl (.tmp 20) (.tmp 22) 22 22 rfl _ _ _ rfl rfl (unhide HR2) ?_)
      go_ret
      obtain ⟨h1, h2, h3⟩ := unhide HO2
      subst h3
      exact ⟨a2, c2, rfl, h1, h2⟩
theorem pth_le (wi : Nat) (m : Nat) : ∀ (ls : List (List Nat)) (i : Nat), ls.length ≤ m → (pth wi ls i).length ≤ ls.length := by
  induction m with
  | zero => intro ls i h; rw [pth_short _ _ _ (by omega)]; exact Nat.zero_le _
  | succ m ih =>
    intro ls i h
    by_cases h2 : ls.length < 2
    · rw [pth_short _ _ _ h2]; exact Nat.zero_le _
    · have h3 := hf_lt ls.length (by omega)
      have h4 := hf_pos ls.length
      by_cases hi : i < hf ls.length
      · rw [pth_l (by omega) hi, List.length_append]
        have := ih (ls.take (hf ls.length)) i (by rw [List.length_take]; omega)
        rw [List.length_take] at this
        simp; omega
      · rw [pth_r (by omega) hi, List.length_append]
        have := ih (ls.drop (hf ls.length)) (i - hf ls.length) (by rw [List.length_drop]; omega)
        rw [List.length_drop] at this
        simp; omega
def PathSays (wi : Nat) (ls : List (List Nat)) (I : Nat) (x : Value) (w : World) : Prop :=
  Calls Tryd.prog 62 #[.int .i64 wi, x, .int .i64 I] w fun e w' => ∃ yo yc us, e = .returned (.slice yo (pth wi ls I).length yc) ∧ Pcs w' (.slice yo (pth wi ls I).length yc) us (pth wi ls I) ∧ Fr (fun _ => False) w w'
set_option maxRecDepth 100000 in
theorem gpath_short (wi : Nat) (ps : List (List Nat)) (I : Nat) (x : Value) (vs : List Value) (w : World) (hp : Pcs w x vs ps) (h : ps.length < 2) : PathSays wi ps I x w := by
  unfold PathSays
  rw [pth_short _ _ _ h]
  obtain ⟨xo, xc, rfl⟩ := hp.form
  have q1 : (ps.length : Int) < 2 := by omega
  clear hp
  generalize ps.length = N at *
  go_enter Tryd.func62, Tryd.ntmps62
  go_wp2_with fail
  go_ret
  exact ⟨none, 0, [], rfl, ⟨rfl, .inl ⟨rfl, rfl⟩, (fun j v p h => by simp at h), (fun p h => by cases h)⟩, Fr.refl _ _⟩
set_option maxRecDepth 100000 in
set_option maxHeartbeats 1000000 in
/-- The ref's PathOf. -/
theorem gpath_any (wi : Nat) (n : Nat) : ∀ (ps : List (List Nat)) (I : Nat) (x : Value) (vs : List Value) (w : World), ps.length ≤ n → ps.length ≤ 8000000 → I < ps.length → GR w → Pcs w x vs ps → Cp x → (∀ p ∈ ps, p.length ≤ 4000000) → PathSays wi ps I x w := by
  induction n with
  | zero => intro ps I x vs w hl _ hI; omega
  | succ n ih =>
    intro ps I x vs w hl hl8 hIl hr hp hcx hB
    by_cases h2 : ps.length < 2
    · exact gpath_short wi ps I x vs w hp h2
    · obtain ⟨xo, xc, rfl⟩ := hp.form
      obtain ⟨g, o, v, rfl, -⟩ := hp.cell (Fr.refl _ _) 0 (by omega)
      have hk1 := hf_lt ps.length (by omega)
      have hk2 := hf_pos ps.length
      have hle : vs.length = ps.length := hp.len
      have hcapx : ps.length ≤ xc := hcx _ _ _ rfl
      have cp1 : Cp (.slice (some ⟨g, o, none⟩) (hf ps.length) xc) := fun _ _ _ e => by cases e; omega
      have cp2 : Cp (.slice (some ⟨g, o + hf ps.length, none⟩) (ps.length - hf ps.length) (xc - hf ps.length)) := fun _ _ _ e => by cases e; omega
      have hP1 := hp.take (hf ps.length) (by omega)
      have hP2 := hp.drop (hf ps.length) hk1
      have hB1 : ∀ p ∈ ps.take (hf ps.length), p.length ≤ 4000000 := fun p h => hB p (List.mem_of_mem_take h)
      have hB2 : ∀ p ∈ ps.drop (hf ps.length), p.length ≤ 4000000 := fun p h => hB p (List.mem_of_mem_drop h)
      have hl1 : (ps.take (hf ps.length)).length = hf ps.length := by rw [List.length_take]; omega
      have hl2 : (ps.drop (hf ps.length)).length = ps.length - hf ps.length := by rw [List.length_drop]
      have hha := half_any ps.length w (by omega) (by omega)
      by_cases hI : I < hf ps.length
      · have hmt := pth_l (wi := wi) (ls := ps) (i := I) (by omega) hI
        have c1 : ∀ w', Fr (fun _ => False) w w' → PathSays wi (ps.take (hf ps.length)) I (.slice (some ⟨g, o, none⟩) (hf ps.length) xc) w' := fun w' hfr => ih _ _ _ _ w' (by omega) (by omega) (by omega) (hr.fr0 hfr) (hP1.fr0 hfr) cp1 hB1
        have c2 : ∀ w', Fr (fun _ => False) w w' → OfSays wi (ps.drop (hf ps.length)) (.slice (some ⟨g, o + hf ps.length, none⟩) (ps.length - hf ps.length) (xc - hf ps.length)) w' := fun w' hfr => of_any wi _ _ _ _ w' (Nat.le_refl _) (by omega) (hr.fr0 hfr) (hP2.fr0 hfr) cp2 hB2
        have hplen : (pth wi (ps.take (hf ps.length)) I).length ≤ 8000000 := Nat.le_trans (pth_le wi _ _ _ (Nat.le_refl _)) (by omega)
        unfold PathSays at c1 ⊢
        unfold OfSays at c2
        rw [hmt]
        generalize pth wi (ps.take (hf ps.length)) I = P1 at *
        generalize mth wi (ps.drop (hf ps.length)) = M2 at *
        have hwith : ∀ (x y : Value) us w', Pcs w' x us P1 → Sl w' y M2 → _ := fun x y us w' h1 h2 => with_any x y us P1 M2 w' h1 h2 hplen
        have HG := hide (And.intro c1 (And.intro c2 (And.intro hwith hha)))
        clear hr hP1 hP2 c1 c2 hha hmt hB hB1 hB2 hp hl1 hl2 ih cp1 cp2 hcx hwith hplen
        generalize hK : hf ps.length = K at *
        have q1 : (K : Int) ≤ (ps.length : Int) := by omega
        have q2 : (K : Int) ≤ (xc : Int) := by omega
        have q3 : ¬ (ps.length : Int) < 2 := by omega
        have q4 : ¬ ps.length < 2 := by omega
        have q7 : (I : Int) < (K : Int) := by omega
        have q8 : IntKind.i64.wrap ((I : Int) - (K : Int)) = ((I - K : Nat) : Int) ∨ True := .inr trivial
        clear q8 hK
        generalize ps.length = N at *
        go_enter Tryd.func62, Tryd.ntmps62
        go_wp2_with fail
        refine (unhide HG).2.2.2.mono ?_
        rintro e w0 ⟨rfl, rfl⟩
        go_wp2_with fail
        have q5 : ¬ xc = K := by omega
        have q6 : ¬ K = xc := by omega
        go_region_held3 (fun _ => True) (trivial) (first
          | (go_at_call 62; refine ((unhide HG).1 _ ((Fr.refl _ _).drew)).mono ?_; rintro e wA ⟨yA, cA, uA, rfl, sA, fA⟩)
          | (go_at_call 58; refine ((unhide HG).2.1 _ (((Fr.refl _ _).drew).trans fA (fun _ _ h => h))).mono ?_; rintro e wB ⟨yB, cB, rfl, sB, fB⟩)
          | (go_at_call 91; refine ((unhide HG).2.2.1 _ _ _ wB (sA.fr0 fB) sB).mono ?_; rintro e wC ⟨zo, zc, rfl, oC, fC⟩))
        have hFC : Fr (fun _ => False) w0 wC := ((((Fr.refl (fun _ => False) w0).drew).trans fA (fun _ _ h => h)).trans fB (fun _ _ h => h)).trans fC (fun _ _ h => h)
        have HE := hide (And.intro oC hFC)
        clear hFC oC
        go_wp2_with fail
        go_ret
        exact ⟨zo, zc, _, by rw [List.length_append]; rfl, by rw [List.length_append]; exact (unhide HE).1, (unhide HE).2⟩
      · have hmt := pth_r (wi := wi) (ls := ps) (i := I) (by omega) hI
        have c1 : ∀ w', Fr (fun _ => False) w w' → PathSays wi (ps.drop (hf ps.length)) (I - hf ps.length) (.slice (some ⟨g, o + hf ps.length, none⟩) (ps.length - hf ps.length) (xc - hf ps.length)) w' := fun w' hfr => ih _ _ _ _ w' (by omega) (by omega) (by omega) (hr.fr0 hfr) (hP2.fr0 hfr) cp2 hB2
        have c2 : ∀ w', Fr (fun _ => False) w w' → OfSays wi (ps.take (hf ps.length)) (.slice (some ⟨g, o, none⟩) (hf ps.length) xc) w' := fun w' hfr => of_any wi _ _ _ _ w' (Nat.le_refl _) (by omega) (hr.fr0 hfr) (hP1.fr0 hfr) cp1 hB1
        have hplen : (pth wi (ps.drop (hf ps.length)) (I - hf ps.length)).length ≤ 8000000 := Nat.le_trans (pth_le wi _ _ _ (Nat.le_refl _)) (by omega)
        unfold PathSays at c1 ⊢
        unfold OfSays at c2
        rw [hmt]
        generalize pth wi (ps.drop (hf ps.length)) (I - hf ps.length) = P1 at *
        generalize mth wi (ps.take (hf ps.length)) = M2 at *
        have hwith : ∀ (x y : Value) us w', Pcs w' x us P1 → Sl w' y M2 → _ := fun x y us w' h1 h2 => with_any x y us P1 M2 w' h1 h2 hplen
        have HG := hide (And.intro c1 (And.intro c2 (And.intro hwith hha)))
        clear hr hP1 hP2 c1 c2 hha hmt hB hB1 hB2 hp hl1 hl2 ih cp1 cp2 hcx hwith hplen
        generalize hK : hf ps.length = K at *
        have q1 : (K : Int) ≤ (ps.length : Int) := by omega
        have q2 : (K : Int) ≤ (xc : Int) := by omega
        have q3 : ¬ (ps.length : Int) < 2 := by omega
        have q4 : ¬ ps.length < 2 := by omega
        have q7 : ¬ (I : Int) < (K : Int) := by omega
        have q8 : IntKind.i64.wrap ((I : Int) - (K : Int)) = ((I - K : Nat) : Int) ∨ True := .inr trivial
        have q9 : IntKind.i64.wrap ((I : Int) - (K : Int)) = (I : Int) - (K : Int) := by rw [IntKind.wrap_i64]; omega
        have q10 : ((I - K : Nat) : Int) = (I : Int) - (K : Int) := by omega
        rw [q10] at HG
        clear q8 hK q10
        generalize ps.length = N at *
        go_enter Tryd.func62, Tryd.ntmps62
        go_wp2_with fail
        refine (unhide HG).2.2.2.mono ?_
        rintro e w0 ⟨rfl, rfl⟩
        go_wp2_with fail
        have q5 : ¬ xc = K := by omega
        have q6 : ¬ K = xc := by omega
        go_region_held3 (fun _ => True) (trivial) (first
          | (go_at_call 62; refine ((unhide HG).1 _ ((Fr.refl _ _).drew)).mono ?_; rintro e wA ⟨yA, cA, uA, rfl, sA, fA⟩)
          | (go_at_call 58; refine ((unhide HG).2.1 _ (((Fr.refl _ _).drew).trans fA (fun _ _ h => h))).mono ?_; rintro e wB ⟨yB, cB, rfl, sB, fB⟩)
          | (go_at_call 91; refine ((unhide HG).2.2.1 _ _ _ wB (sA.fr0 fB) sB).mono ?_; rintro e wC ⟨zo, zc, rfl, oC, fC⟩))
        have hFC : Fr (fun _ => False) w0 wC := ((((Fr.refl (fun _ => False) w0).drew).trans fA (fun _ _ h => h)).trans fB (fun _ _ h => h)).trans fC (fun _ _ h => h)
        have HE := hide (And.intro oC hFC)
        clear hFC oC
        go_wp2_with fail
        go_ret
        exact ⟨zo, zc, _, by rw [List.length_append]; rfl, by rw [List.length_append]; exact (unhide HE).1, (unhide HE).2⟩
end Go.Proofs.YthamfidjilclpaaDoor

namespace Go.Proofs.YthamfidjilclpaaDoor
open Go.RowKit

/-- SUB. -/
def subF (wi : Nat) (ls : List (List Nat)) (m : Nat) (b : Bool) : List (List Nat) :=
  if _h : m = ls.length ∨ ls.length < 2 then (if b then [] else [mth wi ls])
  else if m ≤ hf ls.length then subF wi (ls.take (hf ls.length)) m b ++ [mth wi (ls.drop (hf ls.length))]
  else subF wi (ls.drop (hf ls.length)) (m - hf ls.length) false ++ [mth wi (ls.take (hf ls.length))]
termination_by ls.length
decreasing_by
  · rw [List.length_take]; have := hf_lt ls.length (by omega); omega
  · rw [List.length_drop]; have := hf_pos ls.length; omega
theorem subF_eq {wi : Nat} {ls : List (List Nat)} {m : Nat} {b : Bool} (h : m = ls.length) : subF wi ls m b = if b then [] else [mth wi ls] := by rw [subF, dif_pos (.inl h)]
theorem subF_l {wi : Nat} {ls : List (List Nat)} {m : Nat} {b : Bool} (h : 2 ≤ ls.length) (hne : ¬ m = ls.length) (hi : m ≤ hf ls.length) : subF wi ls m b = subF wi (ls.take (hf ls.length)) m b ++ [mth wi (ls.drop (hf ls.length))] := by
  conv => lhs; rw [subF, dif_neg (by omega), if_pos hi]
theorem subF_r {wi : Nat} {ls : List (List Nat)} {m : Nat} {b : Bool} (h : 2 ≤ ls.length) (hne : ¬ m = ls.length) (hi : ¬ m ≤ hf ls.length) : subF wi ls m b = subF wi (ls.drop (hf ls.length)) (m - hf ls.length) false ++ [mth wi (ls.take (hf ls.length))] := by
  conv => lhs; rw [subF, dif_neg (by omega), if_neg hi]
theorem subF_le (wi : Nat) (k : Nat) : ∀ (ls : List (List Nat)) (m : Nat) (b : Bool), ls.length ≤ k → (subF wi ls m b).length ≤ ls.length + 1 := by
  induction k with
  | zero => intro ls m b h; rw [subF, dif_pos (by omega)]; split <;> simp
  | succ k ih =>
    intro ls m b h
    by_cases h2 : m = ls.length ∨ ls.length < 2
    · rw [subF, dif_pos h2]; split <;> simp
    · have h3 := hf_lt ls.length (by omega)
      have h4 := hf_pos ls.length
      by_cases hi : m ≤ hf ls.length
      · rw [subF_l (by omega) (by omega) hi, List.length_append]
        have := ih (ls.take (hf ls.length)) m b (by rw [List.length_take]; omega)
        rw [List.length_take] at this
        simp; omega
      · rw [subF_r (by omega) (by omega) hi, List.length_append]
        have := ih (ls.drop (hf ls.length)) (m - hf ls.length) false (by rw [List.length_drop]; omega)
        rw [List.length_drop] at this
        simp; omega
/-- SUB by the part where it ends. -/
theorem sub_bes (wi : Nat) (L : List (List Nat)) (k : Nat) : ∀ f n m, n ≤ k → f + n ≤ L.length → 0 < m → m ≤ n →
    subF wi (blk L f n) m true = (if (endF f n (f + m)).1 = f then bes wi L f n (endF f n (f + m)).1 (endF f n (f + m)).2 else mth wi (blk L (endF f n (f + m)).1 (endF f n (f + m)).2) :: bes wi L f n (endF f n (f + m)).1 (endF f n (f + m)).2) ∧
    subF wi (blk L f n) m false = mth wi (blk L (endF f n (f + m)).1 (endF f n (f + m)).2) :: bes wi L f n (endF f n (f + m)).1 (endF f n (f + m)).2 := by
  induction k with
  | zero => intro f n m h1 _ h2 h3; omega
  | succ k ih =>
    intro f n m h1 hL h2 h3
    have hlen := blk_len L f n hL
    by_cases e : m = n
    · subst e
      rw [endF_eq rfl, subF_eq hlen.symm, subF_eq hlen.symm, if_pos rfl, bes_eq]
      exact ⟨by rw [if_pos rfl], by simp⟩
    · have hlt := hf_lt n (by omega)
      have hp := hf_pos n
      by_cases hl : m ≤ hf n
      · obtain ⟨i1, i2⟩ := ih f (hf n) m (by omega) (by omega) h2 hl
        obtain ⟨o1, o2, o3, o4, o5⟩ := endF_ok (hf n) f (hf n) (f + m) (Nat.le_refl _) (by omega) (by omega)
        have e1 : ∀ b, subF wi (blk L f n) m b = subF wi (blk L f (hf n)) m b ++ [mth wi (blk L (f + hf n) (n - hf n))] := fun b => by
          rw [subF_l (by omega) (by omega) (by rw [hlen]; exact hl), hlen, blk_take _ _ _ _ (by omega), blk_drop]
        have e2 : endF f n (f + m) = endF f (hf n) (f + m) := endF_l (by omega) (by omega) (by omega)
        rw [e1 true, e1 false, i1, i2, e2]
        generalize endF f (hf n) (f + m) = E at *
        have e3 : bes wi L f n E.1 E.2 = bes wi L f (hf n) E.1 E.2 ++ [mth wi (blk L (f + hf n) (n - hf n))] := bes_l (by omega) (by omega) (by omega)
        rw [e3]
        refine ⟨?_, by simp⟩
        split
        · rfl
        · simp
      · obtain ⟨i1, i2⟩ := ih (f + hf n) (n - hf n) (m - hf n) (by omega) (by omega) (by omega) (by omega)
        have ee : f + hf n + (m - hf n) = f + m := by omega
        rw [ee] at i1 i2
        obtain ⟨o1, o2, o3, o4, o5⟩ := endF_ok (n - hf n) (f + hf n) (n - hf n) (f + m) (Nat.le_refl _) (by omega) (by omega)
        have e1 : ∀ b, subF wi (blk L f n) m b = subF wi (blk L (f + hf n) (n - hf n)) (m - hf n) false ++ [mth wi (blk L f (hf n))] := fun b => by
          rw [subF_r (by omega) (by omega) (by rw [hlen]; exact hl), hlen, blk_take _ _ _ _ (by omega), blk_drop]
        have e2 : endF f n (f + m) = endF (f + hf n) (n - hf n) (f + m) := endF_r (by omega) (by omega) (by omega)
        rw [e1 true, e1 false, i2, e2]
        generalize endF (f + hf n) (n - hf n) (f + m) = E at *
        have e3 : bes wi L f n E.1 E.2 = bes wi L (f + hf n) (n - hf n) E.1 E.2 ++ [mth wi (blk L f (hf n))] := bes_r (by omega) (by omega) (by omega)
        rw [e3, if_neg (by omega)]
        exact ⟨by simp, by simp⟩
theorem prf_sub (wi : Nat) (L : List (List Nat)) (m : Nat) (hm : m ≤ L.length) : prf wi L L.length m = if m = 0 ∨ m = L.length then [] else subF wi L m true := by
  rw [prf]
  by_cases h0 : m = 0
  · rw [if_pos h0, if_pos (.inl h0)]
  · rw [if_neg h0]
    by_cases h1 : m = L.length
    · have e1 : (if m = 0 ∨ m = L.length then ([] : List (List Nat)) else subF wi L m true) = [] := if_pos (.inr h1)
      rw [e1, endF_eq (by omega), if_pos rfl, bes_eq]
    · have e1 : (if m = 0 ∨ m = L.length then ([] : List (List Nat)) else subF wi L m true) = subF wi L m true := if_neg (by omega)
      have := (sub_bes wi L L.length 0 L.length m (Nat.le_refl _) (by omega) (by omega) hm).1
      rw [blk_all, Nat.zero_add] at this
      rw [e1]
      exact this.symm
def SubSays (wi : Nat) (ls : List (List Nat)) (I : Nat) (b : Bool) (x : Value) (w : World) : Prop :=
  Calls Tryd.prog 92 #[.int .i64 wi, .int .i64 I, x, .bool b] w fun e w' => ∃ yo yc us, e = .returned (.slice yo (subF wi ls I b).length yc) ∧ Pcs w' (.slice yo (subF wi ls I b).length yc) us (subF wi ls I b) ∧ Fr (fun _ => False) w w'
theorem pcs_nil (w : World) : Pcs w (.slice none 0 0) [] [] := ⟨rfl, .inl ⟨rfl, rfl⟩, (fun j v p h => by simp at h), (fun p h => by cases h)⟩
set_option maxRecDepth 100000 in
set_option maxHeartbeats 1000000 in
theorem gsub_end (wi : Nat) (ps : List (List Nat)) (b : Bool) (x : Value) (vs : List Value) (w : World) (hr : GR w) (hp : Pcs w x vs ps) (hcx : Cp x) (hn : ps.length ≤ 8000000) (hB : ∀ p ∈ ps, p.length ≤ 4000000) : SubSays wi ps ps.length b x w := by
  have hof := of_any wi _ ps x vs w (Nat.le_refl _) hn hr hp hcx hB
  unfold SubSays
  unfold OfSays at hof
  rw [subF_eq rfl]
  obtain ⟨xo, xc, rfl⟩ := hp.form
  generalize mth wi ps = M at *
  have HC := hide hof
  clear hof hp hcx hn hB hr
  generalize ps.length = N at *
  have q1 : ((N : Int) == (N : Int)) = true := by simp
  cases b
  · go_enter Tryd.func92, Tryd.ntmps92
    go_wp2_with fail
    refine (unhide HC).mono ?_
    rintro e w1 ⟨yo, yc, rfl, hS, hF⟩
    obtain ⟨W, hW⟩ : ∃ W, w1.alloc (.cells #[.slice yo M.length yc] 26) = W := ⟨_, rfl⟩
    obtain ⟨hP, hF2⟩ := pcs_lit (w := w1) (vs := [.slice yo M.length yc]) (ps := [M]) rfl (fun j v p hv hp => by
      match j with
      | 0 => simp at hv hp; subst hv hp; exact hS
      | j + 1 => simp at hv) W hW 1 rfl
    have H1 := hide (And.intro hP (hF.trans hF2 (fun _ _ h => h)))
    clear hP hF hF2 hS
    generalize M.length = ML at *
    go_wp2_with fail
    go_ret
    first | exact ⟨_, 1, _, rfl, (unhide H1).1, (unhide H1).2⟩ | exact ⟨_, 1, rfl, ⟨_, (unhide H1).1⟩, (unhide H1).2⟩
  · go_enter Tryd.func92, Tryd.ntmps92
    go_wp2_with fail
    go_ret
    first | exact ⟨none, 0, [], rfl, pcs_nil _, Fr.refl _ _⟩ | exact ⟨none, 0, rfl, ⟨[], pcs_nil _⟩, Fr.refl _ _⟩ | exact ⟨none, 0, rfl, [], pcs_nil _, Fr.refl _ _⟩
set_option maxRecDepth 100000 in
set_option maxHeartbeats 1000000 in
/-- The ref's sub. -/
theorem gsub_any (wi : Nat) (n : Nat) : ∀ (ps : List (List Nat)) (I : Nat) (b : Bool) (x : Value) (vs : List Value) (w : World), ps.length ≤ n → ps.length ≤ 8000000 - 1 → 0 < I → I ≤ ps.length → GR w → Pcs w x vs ps → Cp x → (∀ p ∈ ps, p.length ≤ 4000000) → SubSays wi ps I b x w := by
  induction n with
  | zero => intro ps I b x vs w hl _ h0 hI; omega
  | succ n ih =>
    intro ps I b x vs w hl hl8 h0 hIl hr hp hcx hB
    by_cases hne : I = ps.length
    · subst hne
      exact gsub_end wi ps b x vs w hr hp hcx (by omega) hB
    · obtain ⟨xo, xc, rfl⟩ := hp.form
      obtain ⟨g, o, v, rfl, -⟩ := hp.cell (Fr.refl _ _) 0 (by omega)
      have hk1 := hf_lt ps.length (by omega)
      have hk2 := hf_pos ps.length
      have hle : vs.length = ps.length := hp.len
      have hcapx : ps.length ≤ xc := hcx _ _ _ rfl
      have cp1 : Cp (.slice (some ⟨g, o, none⟩) (hf ps.length) xc) := fun _ _ _ e => by cases e; omega
      have cp2 : Cp (.slice (some ⟨g, o + hf ps.length, none⟩) (ps.length - hf ps.length) (xc - hf ps.length)) := fun _ _ _ e => by cases e; omega
      have hP1 := hp.take (hf ps.length) (by omega)
      have hP2 := hp.drop (hf ps.length) hk1
      have hB1 : ∀ p ∈ ps.take (hf ps.length), p.length ≤ 4000000 := fun p h => hB p (List.mem_of_mem_take h)
      have hB2 : ∀ p ∈ ps.drop (hf ps.length), p.length ≤ 4000000 := fun p h => hB p (List.mem_of_mem_drop h)
      have hl1 : (ps.take (hf ps.length)).length = hf ps.length := by rw [List.length_take]; omega
      have hl2 : (ps.drop (hf ps.length)).length = ps.length - hf ps.length := by rw [List.length_drop]
      have hha := half_any ps.length w (by omega) (by omega)
      by_cases hI : I ≤ hf ps.length
      · have hmt := subF_l (wi := wi) (ls := ps) (m := I) (b := b) (by omega) hne hI
        have c1 : ∀ w', Fr (fun _ => False) w w' → SubSays wi (ps.take (hf ps.length)) I b (.slice (some ⟨g, o, none⟩) (hf ps.length) xc) w' := fun w' hfr => ih _ _ _ _ _ w' (by omega) (by omega) (by omega) (by omega) (hr.fr0 hfr) (hP1.fr0 hfr) cp1 hB1
        have c2 : ∀ w', Fr (fun _ => False) w w' → OfSays wi (ps.drop (hf ps.length)) (.slice (some ⟨g, o + hf ps.length, none⟩) (ps.length - hf ps.length) (xc - hf ps.length)) w' := fun w' hfr => of_any wi _ _ _ _ w' (Nat.le_refl _) (by omega) (hr.fr0 hfr) (hP2.fr0 hfr) cp2 hB2
        have hplen : (subF wi (ps.take (hf ps.length)) I b).length ≤ 8000000 := Nat.le_trans (subF_le wi _ _ _ _ (Nat.le_refl _)) (by omega)
        unfold SubSays at c1 ⊢
        unfold OfSays at c2
        rw [hmt]
        generalize subF wi (ps.take (hf ps.length)) I b = P1 at *
        generalize mth wi (ps.drop (hf ps.length)) = M2 at *
        have hwith : ∀ (x y : Value) us w', Pcs w' x us P1 → Sl w' y M2 → _ := fun x y us w' h1 h2 => with_any x y us P1 M2 w' h1 h2 hplen
        have HG := hide (And.intro c1 (And.intro c2 (And.intro hwith hha)))
        clear hr hP1 hP2 c1 c2 hha hmt hB hB1 hB2 hp hl1 hl2 ih cp1 cp2 hcx hwith hplen
        generalize hK : hf ps.length = K at *
        have q1 : (K : Int) ≤ (ps.length : Int) := by omega
        have q2 : (K : Int) ≤ (xc : Int) := by omega
        have q3 : ¬ (I : Int) = (ps.length : Int) := by omega
        have q3b : ((I : Int) == (ps.length : Int)) = false := beq_false_of_ne q3
        have q4 : ¬ ps.length < 2 := by omega
        have q7 : (I : Int) ≤ (K : Int) := by omega
        have q8 : IntKind.i64.wrap ((I : Int) - (K : Int)) = ((I - K : Nat) : Int) ∨ True := .inr trivial
        clear q8 hK
        generalize ps.length = N at *
        go_enter Tryd.func92, Tryd.ntmps92
        go_wp2_with fail
        refine (unhide HG).2.2.2.mono ?_
        rintro e w0 ⟨rfl, rfl⟩
        go_wp2_with fail
        have q5 : ¬ xc = K := by omega
        have q6 : ¬ K = xc := by omega
        go_region_held3 (fun _ => True) (trivial) (first
          | (go_at_call 92; refine ((unhide HG).1 _ ((Fr.refl _ _).drew)).mono ?_; rintro e wA ⟨yA, cA, uA, rfl, sA, fA⟩)
          | (go_at_call 58; refine ((unhide HG).2.1 _ (((Fr.refl _ _).drew).trans fA (fun _ _ h => h))).mono ?_; rintro e wB ⟨yB, cB, rfl, sB, fB⟩)
          | (go_at_call 91; refine ((unhide HG).2.2.1 _ _ _ wB (sA.fr0 fB) sB).mono ?_; rintro e wC ⟨zo, zc, rfl, oC, fC⟩))
        have hFC : Fr (fun _ => False) w0 wC := ((((Fr.refl (fun _ => False) w0).drew).trans fA (fun _ _ h => h)).trans fB (fun _ _ h => h)).trans fC (fun _ _ h => h)
        have HE := hide (And.intro oC hFC)
        clear hFC oC
        go_wp2_with fail
        go_ret
        exact ⟨zo, zc, _, by rw [List.length_append]; rfl, by rw [List.length_append]; exact (unhide HE).1, (unhide HE).2⟩
      · have hmt := subF_r (wi := wi) (ls := ps) (m := I) (b := b) (by omega) hne hI
        have c1 : ∀ w', Fr (fun _ => False) w w' → SubSays wi (ps.drop (hf ps.length)) (I - hf ps.length) false (.slice (some ⟨g, o + hf ps.length, none⟩) (ps.length - hf ps.length) (xc - hf ps.length)) w' := fun w' hfr => ih _ _ _ _ _ w' (by omega) (by omega) (by omega) (by omega) (hr.fr0 hfr) (hP2.fr0 hfr) cp2 hB2
        have c2 : ∀ w', Fr (fun _ => False) w w' → OfSays wi (ps.take (hf ps.length)) (.slice (some ⟨g, o, none⟩) (hf ps.length) xc) w' := fun w' hfr => of_any wi _ _ _ _ w' (Nat.le_refl _) (by omega) (hr.fr0 hfr) (hP1.fr0 hfr) cp1 hB1
        have hplen : (subF wi (ps.drop (hf ps.length)) (I - hf ps.length) false).length ≤ 8000000 := Nat.le_trans (subF_le wi _ _ _ _ (Nat.le_refl _)) (by omega)
        unfold SubSays at c1 ⊢
        unfold OfSays at c2
        rw [hmt]
        generalize subF wi (ps.drop (hf ps.length)) (I - hf ps.length) false = P1 at *
        generalize mth wi (ps.take (hf ps.length)) = M2 at *
        have hwith : ∀ (x y : Value) us w', Pcs w' x us P1 → Sl w' y M2 → _ := fun x y us w' h1 h2 => with_any x y us P1 M2 w' h1 h2 hplen
        have HG := hide (And.intro c1 (And.intro c2 (And.intro hwith hha)))
        clear hr hP1 hP2 c1 c2 hha hmt hB hB1 hB2 hp hl1 hl2 ih cp1 cp2 hcx hwith hplen
        generalize hK : hf ps.length = K at *
        have q1 : (K : Int) ≤ (ps.length : Int) := by omega
        have q2 : (K : Int) ≤ (xc : Int) := by omega
        have q3 : ¬ (I : Int) = (ps.length : Int) := by omega
        have q3b : ((I : Int) == (ps.length : Int)) = false := beq_false_of_ne q3
        have q4 : ¬ ps.length < 2 := by omega
        have q7 : ¬ (I : Int) ≤ (K : Int) := by omega
        have q8 : IntKind.i64.wrap ((I : Int) - (K : Int)) = ((I - K : Nat) : Int) ∨ True := .inr trivial
        have q9 : IntKind.i64.wrap ((I : Int) - (K : Int)) = (I : Int) - (K : Int) := by rw [IntKind.wrap_i64]; omega
        have q10 : ((I - K : Nat) : Int) = (I : Int) - (K : Int) := by omega
        rw [q10] at HG
        clear q8 hK q10
        generalize ps.length = N at *
        go_enter Tryd.func92, Tryd.ntmps92
        go_wp2_with fail
        refine (unhide HG).2.2.2.mono ?_
        rintro e w0 ⟨rfl, rfl⟩
        go_wp2_with fail
        have q5 : ¬ xc = K := by omega
        have q6 : ¬ K = xc := by omega
        go_region_held3 (fun _ => True) (trivial) (first
          | (go_at_call 92; refine ((unhide HG).1 _ ((Fr.refl _ _).drew)).mono ?_; rintro e wA ⟨yA, cA, uA, rfl, sA, fA⟩)
          | (go_at_call 58; refine ((unhide HG).2.1 _ (((Fr.refl _ _).drew).trans fA (fun _ _ h => h))).mono ?_; rintro e wB ⟨yB, cB, rfl, sB, fB⟩)
          | (go_at_call 91; refine ((unhide HG).2.2.1 _ _ _ wB (sA.fr0 fB) sB).mono ?_; rintro e wC ⟨zo, zc, rfl, oC, fC⟩))
        have hFC : Fr (fun _ => False) w0 wC := ((((Fr.refl (fun _ => False) w0).drew).trans fA (fun _ _ h => h)).trans fB (fun _ _ h => h)).trans fC (fun _ _ h => h)
        have HE := hide (And.intro oC hFC)
        clear hFC oC
        go_wp2_with fail
        go_ret
        exact ⟨zo, zc, _, by rw [List.length_append]; rfl, by rw [List.length_append]; exact (unhide HE).1, (unhide HE).2⟩
end Go.Proofs.YthamfidjilclpaaDoor

namespace Go.Proofs.YthamfidjilclpaaDoor
open Go.RowKit

def Sls (w : World) (vs : List Value) (ps : List (List Nat)) : Prop := ∀ (j : Nat) v p, vs[j]? = some v → ps[j]? = some p → Sl w v p
theorem Sls.nil (w : World) : Sls w [] [] := fun j v p h => by simp at h
theorem Sls.cons {w : World} {v : Value} {p : List Nat} {vs : List Value} {ps : List (List Nat)} (h : Sl w v p) (hs : Sls w vs ps) : Sls w (v :: vs) (p :: ps) := fun j v' p' hv hp => by
  match j with
  | 0 => simp at hv hp; subst hv hp; exact h
  | j + 1 => simp at hv hp; exact hs j v' p' hv hp
/-- The list is the same as a literal of the same hashes. -/
theorem ksame {w : World} {x : Value} {us vs : List Value} {ps : List (List Nat)} (hx : Pcs w x us ps) (hs : Sls w vs ps) (hl : vs.length = ps.length) (hlen : ∀ p ∈ ps, p.length = 32) (n : Nat) (hn : vs.length = n) (hn4 : n ≤ 4) :
    Calls Tryd.prog 15 #[x, .slice (some ⟨w.heap.size, 0, none⟩) n n] (w.alloc (.cells vs.toArray 26)) fun e w' => e = .returned (.bool true) ∧ Fr (fun _ => False) w w' := by
  obtain ⟨hP, hF⟩ := pcs_lit (w := w) hl hs _ rfl n hn
  refine (msame_T x _ us vs ps _ (hx.fr0 hF) hP (fun p hp => by rw [hlen p hp]; decide) (by omega)).mono ?_
  rintro e w' ⟨rfl, hF'⟩
  exact ⟨rfl, hF.trans hF' (fun _ _ h => h)⟩
theorem Kn.fst {w : World} {g : Nat} {vs : List Value} (h : Kn w g vs) (n : Nat) (hn : n ≤ 8) : Pcs w (.slice (some ⟨g, 0, none⟩) n 8) (vs.take n) (tes.take n) := h.at_.take n hn
theorem tk_len (n : Nat) (hn : n ≤ 8) : (tes.take n).length = n := by rw [List.length_take]; show min n 8 = n; omega
theorem kpath_in (i n k : Nat) (ii : Int) (hii : ii = i) (hn : n ≤ 8) (hi : i < n) (ps : List (List Nat)) (hps : bes 32 ((tes.take n).map (lf ((32 : Nat) : Int))) 0 n i 1 = ps) (hk : ps.length = k) (wb w : World) (hwb : Fr (fun _ => False) wb w) (g : Nat) (vs : List Value) (h : Kn wb g vs) :
    Calls Tryd.prog 14 #[.int .i64 32, .slice (some ⟨g, 0, none⟩) n 8, .int .i64 ii] w fun e w' => ∃ ao cp us, e = .returned (.tuple #[.slice ao k cp, .int .i64 0]) ∧ Pcs w' (.slice ao k cp) us ps ∧ Fr (fun _ => False) wb w' := by
  subst hii
  have h' := h.fr0 hwb
  have hl := tk_len n hn
  refine (mpath_in 32 (by decide) (by decide) _ _ _ i w h'.gs h'.gt (h'.fst n hn) (fun e he => tes_le e (List.mem_of_mem_take he)) (by omega) (by omega)).mono ?_
  rintro e w' ⟨ao, cp, us, rfl, hO⟩
  rw [hl, hps] at hO
  have hp := hO.pcs
  rw [hO.len, hk] at hp ⊢
  exact ⟨ao, cp, us, rfl, hp, hwb.trans hO.own.fr (fun _ _ h => h)⟩
theorem kproof_in (i n k : Nat) (ii : Int) (hii : ii = i) (hn : n ≤ 8) (hi : i ≤ n) (ps : List (List Nat)) (hps : prf 32 ((tes.take n).map (lf ((32 : Nat) : Int))) n i = ps) (hk : ps.length = k) (wb w : World) (hwb : Fr (fun _ => False) wb w) (g : Nat) (vs : List Value) (h : Kn wb g vs) :
    Calls Tryd.prog 16 #[.int .i64 32, .slice (some ⟨g, 0, none⟩) n 8, .int .i64 ii] w fun e w' => ∃ ao cp us, e = .returned (.tuple #[.slice ao k cp, .int .i64 0]) ∧ Pcs w' (.slice ao k cp) us ps ∧ Fr (fun _ => False) wb w' := by
  subst hii
  have h' := h.fr0 hwb
  have hl := tk_len n hn
  refine (mproof_in 32 (by decide) (by decide) _ _ _ i w h'.gs h'.gt (h'.fst n hn) (fun e he => tes_le e (List.mem_of_mem_take he)) (by omega) (by omega)).mono ?_
  rintro e w' ⟨ao, cp, us, rfl, hO⟩
  rw [hl, hps] at hO
  have hp := hO.pcs
  rw [hO.len, hk] at hp ⊢
  exact ⟨ao, cp, us, rfl, hp, hwb.trans hO.own.fr (fun _ _ h => h)⟩
theorem kpath_no (wb : World) (g : Nat) (vs : List Value) (h : Kn wb g vs) :
    Calls Tryd.prog 14 #[.int .i64 32, .slice (some ⟨g, 0, none⟩) 8 8, .int .i64 8] wb fun e w' => e = .returned (.tuple #[.slice none 0 0, .int .i64 1]) ∧ Fr (fun _ => False) wb w' :=
  mpath_no 32 8 _ _ _ wb h.gs h.at_ tes_le (by decide) (.inr (.inr (by decide)))
/-- A literal of whole numbers. -/
theorem ints_lit (w : World) (zs : List Int) (n : Nat) (hn : zs.length = n) (W : World) (hW : w.alloc (.cells (zs.map (.int .i64 ·)).toArray 3) = W) : Ints W (.slice (some ⟨w.heap.size, 0, none⟩) n n) zs ∧ Fr (fun _ => False) w W := by
  subst hW
  refine ⟨.inr (.inr ⟨w.heap.size, 0, n, by rw [hn], by omega, by simp, fun j hj => ?_⟩), (Fr.refl _ _).alloc _⟩
  rw [Nat.zero_add, World.cell?_alloc_at _ _ _ _ rfl]
  simp [List.getD, hj]
theorem kmany_in (zs : List Int) (k n : Nat) (hn : zs.length = n) (hn8 : n ≤ 8) (hr : rsF 8 0 zs = true) (ps : List (List Nat)) (hps : mny 32 LL 0 8 zs = ps) (hk : ps.length = k) (w : World) (g : Nat) (vs : List Value) (h : Kn w g vs) :
    Calls Tryd.prog 17 #[.int .i64 32, .slice (some ⟨g, 0, none⟩) 8 8, .slice (some ⟨w.heap.size, 0, none⟩) n n] (w.alloc (.cells (zs.map (.int .i64 ·)).toArray 3)) fun e w' => ∃ ao cp us, e = .returned (.tuple #[.slice ao k cp, .int .i64 0]) ∧ Pcs w' (.slice ao k cp) us ps ∧ Fr (fun _ => False) w w' := by
  obtain ⟨hI, hF⟩ := ints_lit w zs n hn _ rfl
  have h' := h.fr0 hF
  refine (mmany_in 32 (by decide) (by decide) _ _ _ _ zs _ h'.gs h'.gt h'.at_ tes_le (by decide) hI (by omega) hr).mono ?_
  rintro e w' ⟨ao, cp, us, rfl, hO⟩
  have e : mny 32 (tes.map (lf ((32 : Nat) : Int))) 0 tes.length zs = ps := hps
  rw [e] at hO
  have hp := hO.pcs
  rw [hO.len, hk] at hp ⊢
  exact ⟨ao, cp, us, rfl, hp, hF.trans hO.own.fr (fun _ _ h => h)⟩
theorem kmany_nil (w : World) (g : Nat) (vs : List Value) (h : Kn w g vs) :
    Calls Tryd.prog 17 #[.int .i64 32, .slice (some ⟨g, 0, none⟩) 8 8, .slice none 0 0] w fun e w' => ∃ ao cp us, e = .returned (.tuple #[.slice ao 1 cp, .int .i64 0]) ∧ Pcs w' (.slice ao 1 cp) us [rootB] ∧ Fr (fun _ => False) w w' := by
  refine (mmany_in 32 (by decide) (by decide) _ _ _ _ [] _ h.gs h.gt h.at_ tes_le (by decide) (.inl ⟨rfl, rfl⟩) (by decide) rfl).mono ?_
  rintro e w' ⟨ao, cp, us, rfl, hO⟩
  have e : mny 32 (tes.map (lf ((32 : Nat) : Int))) 0 tes.length [] = [rootB] := km0
  rw [e] at hO
  have hp := hO.pcs
  have hl : us.length = 1 := hO.len
  rw [hl] at hp ⊢
  exact ⟨ao, cp, us, rfl, hp, hO.own.fr⟩
theorem kmany_no (w : World) (g : Nat) (vs : List Value) (h : Kn w g vs) :
    Calls Tryd.prog 17 #[.int .i64 32, .slice (some ⟨g, 0, none⟩) 8 8, .slice (some ⟨w.heap.size, 0, none⟩) 2 2] (w.alloc (.cells #[.int .i64 1, .int .i64 1] 3)) fun e w' => e = .returned (.tuple #[.slice none 0 0, .int .i64 1]) ∧ Fr (fun _ => False) w w' := by
  obtain ⟨hI, hF⟩ := ints_lit w [1, 1] 2 rfl _ rfl
  have h' := h.fr0 hF
  refine (mmany_no 32 _ _ _ _ [1, 1] _ h'.gs h'.at_ tes_le (by decide) hI (by decide) (by decide) (.inr rfl)).mono ?_
  rintro e w' ⟨rfl, hF'⟩
  exact ⟨rfl, hF.trans hF' (fun _ _ h => h)⟩
theorem kc1 : chkP 32 (lf 32 []) 0 1 [] (lf 32 []) = true := by
  have hl : (lf 32 []).length = 32 := lf_len 32 (by decide) (by decide) _
  have e : dep 0 (Int.toNat 1) (Int.toNat 0) 1 = 0 := dep_eq 0 1
  have e2 : topv (Int.toNat 32) (lf 32 []) 0 (Int.toNat 1) (Int.toNat 0) 1 [] = lf 32 [] := topv_eq _ _ _ _ _
  rw [chkP, e, e2, wdq_of (fun p hp => by simp at hp; subst hp; rw [hl]; rfl), wdq_of (fun p hp => by cases hp)]
  simp
theorem kc0 : chkP 32 (lf 32 []) 0 0 [] (lf 32 []) = false := by simp [chkP]
theorem kc2 : chkP 32 (lf 32 []) 0 1 [lf 32 []] (lf 32 []) = false := by
  have e : dep 0 (Int.toNat 1) (Int.toNat 0) 1 = 0 := dep_eq 0 1
  rw [chkP, e]
  simp
theorem kleaf (w : World) (h : GS w) : Calls Tryd.prog 18 #[.int .i64 32, .slice none 0 0] w fun e w' => ∃ yo, e = .returned (.slice yo 32 32) ∧ Sl w' (.slice yo 32 32) (lf 32 []) ∧ Fr (fun _ => False) w w' := by
  refine (leaf_any 32 (.slice none 0 0) [] w h (sl_nil _) (by decide)).mono ?_
  rintro e w' ⟨yo, rfl, hO⟩
  have e : (lf 32 []).length = 32 := lf_len 32 (by decide) (by decide) _
  have := hO.sl (lf_lt _ _)
  rw [e] at this ⊢
  exact ⟨yo, rfl, this, hO.fr⟩
theorem kck (n : Int) (hn : n < 9223372036854775808) (yo : Option Addr) (w : World) (hg : GS w) (h : Sl w (.slice yo 32 32) (lf 32 [])) :
    Calls Tryd.prog 19 #[.int .i64 32, .slice yo 32 32, .int .i64 0, .int .i64 n, .slice none 0 0, .slice yo 32 32] w fun e w' => e = .returned (.bool (chkP 32 (lf 32 []) 0 n [] (lf 32 []))) ∧ Fr (fun _ => False) w w' :=
  checkPath_any 32 0 n _ _ _ _ _ [] [] w hg h h ⟨rfl, .inl ⟨rfl, rfl⟩, fun j v p h => by simp at h, fun p h => by cases h⟩ (fun _ _ _ e => by cases e; exact Nat.le_refl _) hn (by decide)
theorem kck1 (yo : Option Addr) (w : World) (hg : GS w) (h : Sl w (.slice yo 32 32) (lf 32 [])) :
    Calls Tryd.prog 19 #[.int .i64 32, .slice yo 32 32, .int .i64 0, .int .i64 1, .slice (some ⟨w.heap.size, 0, none⟩) 1 1, .slice yo 32 32] (w.alloc (.cells #[.slice yo 32 32] 26)) fun e w' => e = .returned (.bool false) ∧ Fr (fun _ => False) w w' := by
  obtain ⟨hP, hF⟩ := pcs_lit (w := w) (vs := [.slice yo 32 32]) (ps := [lf 32 []]) rfl (Sls.cons h (Sls.nil w)) _ rfl 1 rfl
  have h' := h.fr0 hF
  refine (checkPath_any 32 0 1 _ _ _ _ _ _ _ _ (hg.fr0 hF) h' h' hP (fun _ _ _ e => by cases e; exact Nat.le_refl _) (by decide) (by decide)).mono ?_
  rintro e w' ⟨rfl, hF'⟩
  rw [kc2]
  exact ⟨rfl, hF.trans hF' (fun _ _ h => h)⟩
end Go.Proofs.YthamfidjilclpaaDoor

namespace Go.Proofs.YthamfidjilclpaaDoor
open Go.RowKit

set_option maxRecDepth 100000 in
set_option maxHeartbeats 40000000 in
theorem mknown_any (w : World) (hg : GS w) (ht : GT w) : Calls Tryd.prog 3 #[] w fun e w' => e = .returned (.bool true) ∧ Fr (fun _ => False) w w' := by
  have HG := hide (And.intro hg ht)
  clear hg ht
  go_enter Tryd.func3, Tryd.ntmps3
  go_wp2_with fail
  refine (tests_any w).mono ?_
  rintro e w1 ⟨g, vs, rfl, hP, hF⟩
  have D : Hid (Kn w1 g vs) := hide ⟨(unhide HG).1.fr0 hF, (unhide HG).2.fr0 hF, hP⟩
  have FF := hide hF
  clear hF hP HG
  go_wp2_with fail
  refine (mlives_any _ (unhide D).gs (unhide D).gt).mono ?_
  rintro e w2 ⟨rfl, hF⟩
  replace D := hide ((unhide D).fr0 hF)
  replace FF := hide ((unhide FF).trans hF (fun _ _ h => h))
  clear hF
  go_wp2_with fail
  refine (part_any 0 0 0 0 rfl rfl (by decide) (by decide) (by decide) _ _ _ (unhide D)).mono ?_
  rintro e w3 ⟨yo2, yc2, rfl, hS, hF⟩
  rw [prt00] at hS
  replace D := hide ((unhide D).fr0 hF)
  replace FF := hide ((unhide FF).trans hF (fun _ _ h => h))
  have Q0 := hide hS
  clear hF hS
  go_wp2_with fail
  refine (hex_lit ⟨#[101, 51, 98, 48, 99, 52, 52, 50, 57, 56, 102, 99, 49, 99, 49, 52, 57, 97, 102, 98, 102, 52, 99, 56, 57, 57, 54, 102, 98, 57, 50, 52, 50, 55, 97, 101, 52, 49, 101, 52, 54, 52, 57, 98, 57, 51, 52, 99, 97, 52, 57, 53, 57, 57, 49, 98, 55, 56, 53, 50, 98, 56, 53, 53]⟩ nonB _ (by decide) nonB_hex 32 rfl (by decide)).mono ?_
  rintro e w4 ⟨yo3, yc3, rfl, hS, hF⟩
  replace D := hide ((unhide D).fr0 hF)
  replace Q0 := hide ((unhide Q0).fr0 hF)
  replace FF := hide ((unhide FF).trans hF (fun _ _ h => h))
  have Q1 := hide hS
  clear hF hS
  go_wp2_with fail
  refine (same_T (unhide Q0).s (unhide Q1).s (by decide) (sameB_refl _)).mono ?_
  rintro e w5 ⟨rfl, hF⟩
  replace D := hide ((unhide D).fr0 hF)
  replace Q0 := hide ((unhide Q0).fr0 hF)
  replace Q1 := hide ((unhide Q1).fr0 hF)
  replace FF := hide ((unhide FF).trans hF (fun _ _ h => h))
  clear hF
  go_wp2_with fail
  clear Q0 Q1
  refine (part_any 0 2 0 2 rfl rfl (by decide) (by decide) (by decide) _ _ _ (unhide D)).mono ?_
  rintro e w6 ⟨yo5, yc5, rfl, hS, hF⟩
  rw [prt02] at hS
  replace D := hide ((unhide D).fr0 hF)
  replace FF := hide ((unhide FF).trans hF (fun _ _ h => h))
  have Q0 := hide hS
  clear hF hS
  go_wp2_with fail
  refine (hex_lit ⟨#[102, 97, 99, 53, 52, 50, 48, 51, 101, 55, 99, 99, 54, 57, 54, 99, 102, 48, 100, 102, 99, 98, 52, 50, 99, 57, 50, 97, 49, 100, 57, 100, 98, 97, 102, 55, 48, 97, 100, 57, 101, 54, 50, 49, 102, 52, 98, 100, 56, 100, 57, 56, 54, 54, 50, 102, 48, 48, 101, 51, 99, 49, 50, 53]⟩ twoB _ (by decide) twoB_hex 32 rfl (by decide)).mono ?_
  rintro e w7 ⟨yo6, yc6, rfl, hS, hF⟩
  replace D := hide ((unhide D).fr0 hF)
  replace Q0 := hide ((unhide Q0).fr0 hF)
  replace FF := hide ((unhide FF).trans hF (fun _ _ h => h))
  have Q1 := hide hS
  clear hF hS
  go_wp2_with fail
  refine (same_T (unhide Q0).s (unhide Q1).s (by decide) (sameB_refl _)).mono ?_
  rintro e w8 ⟨rfl, hF⟩
  replace D := hide ((unhide D).fr0 hF)
  replace Q0 := hide ((unhide Q0).fr0 hF)
  replace Q1 := hide ((unhide Q1).fr0 hF)
  replace FF := hide ((unhide FF).trans hF (fun _ _ h => h))
  clear hF
  go_wp2_with fail
  clear Q0 Q1
  refine (kpath_in 0 8 3 0 rfl (by decide) (by decide) [prt 1 2, prt 2 4, prt 4 8] kp0 rfl _ _ (by first | exact Fr.refl _ _ | exact (Fr.refl _ _).drew) _ _ (unhide D)).mono ?_
  rintro e w9 ⟨ao8, cp8, us8, rfl, hP, hF⟩
  replace D := hide ((unhide D).fr0 hF)
  replace FF := hide ((unhide FF).trans hF (fun _ _ h => h))
  have A := hide hP
  clear hF hP
  go_wp2_with fail
  refine (kpath_in 2 3 1 2 rfl (by decide) (by decide) [prt 0 2] kp2 rfl _ _ (by first | exact Fr.refl _ _ | exact (Fr.refl _ _).drew) _ _ (unhide D)).mono ?_
  rintro e w10 ⟨ao9, cp9, us9, rfl, hP, hF⟩
  replace D := hide ((unhide D).fr0 hF)
  replace A := hide ((unhide A).fr0 hF)
  replace FF := hide ((unhide FF).trans hF (fun _ _ h => h))
  have B := hide hP
  clear hF hP
  go_wp2_with fail
  refine (kpath_in 4 5 1 4 rfl (by decide) (by decide) [prt 0 4] kp4 rfl _ _ (by first | exact Fr.refl _ _ | exact (Fr.refl _ _).drew) _ _ (unhide D)).mono ?_
  rintro e w11 ⟨ao10, cp10, us10, rfl, hP, hF⟩
  replace D := hide ((unhide D).fr0 hF)
  replace A := hide ((unhide A).fr0 hF)
  replace B := hide ((unhide B).fr0 hF)
  replace FF := hide ((unhide FF).trans hF (fun _ _ h => h))
  have C := hide hP
  clear hF hP
  go_wp2_with fail
  refine (kpath_no _ _ _ (unhide D)).mono ?_
  rintro e w12 ⟨rfl, hF⟩
  replace D := hide ((unhide D).fr0 hF)
  replace A := hide ((unhide A).fr0 hF)
  replace B := hide ((unhide B).fr0 hF)
  replace C := hide ((unhide C).fr0 hF)
  replace FF := hide ((unhide FF).trans hF (fun _ _ h => h))
  clear hF
  go_wp2_with fail
  refine (part_any 1 2 1 2 rfl rfl (by decide) (by decide) (by decide) _ _ _ (unhide D)).mono ?_
  rintro e w13 ⟨yo12, yc12, rfl, hS, hF⟩
  replace D := hide ((unhide D).fr0 hF)
  replace A := hide ((unhide A).fr0 hF)
  replace B := hide ((unhide B).fr0 hF)
  replace C := hide ((unhide C).fr0 hF)
  replace FF := hide ((unhide FF).trans hF (fun _ _ h => h))
  have Q0 := hide hS
  clear hF hS
  go_wp2_with fail
  refine (part_any 2 4 2 4 rfl rfl (by decide) (by decide) (by decide) _ _ _ (unhide D)).mono ?_
  rintro e w14 ⟨yo13, yc13, rfl, hS, hF⟩
  replace D := hide ((unhide D).fr0 hF)
  replace A := hide ((unhide A).fr0 hF)
  replace B := hide ((unhide B).fr0 hF)
  replace C := hide ((unhide C).fr0 hF)
  replace Q0 := hide ((unhide Q0).fr0 hF)
  replace FF := hide ((unhide FF).trans hF (fun _ _ h => h))
  have Q1 := hide hS
  clear hF hS
  go_wp2_with fail
  refine (part_any 4 8 4 8 rfl rfl (by decide) (by decide) (by decide) _ _ _ (unhide D)).mono ?_
  rintro e w15 ⟨yo14, yc14, rfl, hS, hF⟩
  replace D := hide ((unhide D).fr0 hF)
  replace A := hide ((unhide A).fr0 hF)
  replace B := hide ((unhide B).fr0 hF)
  replace C := hide ((unhide C).fr0 hF)
  replace Q0 := hide ((unhide Q0).fr0 hF)
  replace Q1 := hide ((unhide Q1).fr0 hF)
  replace FF := hide ((unhide FF).trans hF (fun _ _ h => h))
  have Q2 := hide hS
  clear hF hS
  go_wp2_with fail
  refine (ksame (vs := [.slice yo12 32 yc12, .slice yo13 32 yc13, .slice yo14 32 yc14]) (ps := [prt 1 2, prt 2 4, prt 4 8]) (unhide A) (Sls.cons (unhide Q0) (Sls.cons (unhide Q1) (Sls.cons (unhide Q2) (Sls.nil _)))) rfl (by intro p hp; simp only [List.mem_cons, List.not_mem_nil, or_false] at hp; rcases hp with rfl | rfl | rfl <;> first | exact prt_len _ _ | rfl) 3 rfl (by decide)).mono ?_
  rintro e w16 ⟨rfl, hF⟩
  replace D := hide ((unhide D).fr0 hF)
  replace A := hide ((unhide A).fr0 hF)
  replace B := hide ((unhide B).fr0 hF)
  replace C := hide ((unhide C).fr0 hF)
  replace Q0 := hide ((unhide Q0).fr0 hF)
  replace Q1 := hide ((unhide Q1).fr0 hF)
  replace Q2 := hide ((unhide Q2).fr0 hF)
  replace FF := hide ((unhide FF).trans hF (fun _ _ h => h))
  clear hF
  go_wp2_with fail
  clear Q0 Q1 Q2
  clear A
  refine (part_any 0 2 0 2 rfl rfl (by decide) (by decide) (by decide) _ _ _ (unhide D)).mono ?_
  rintro e w17 ⟨yo16, yc16, rfl, hS, hF⟩
  replace D := hide ((unhide D).fr0 hF)
  replace B := hide ((unhide B).fr0 hF)
  replace C := hide ((unhide C).fr0 hF)
  replace FF := hide ((unhide FF).trans hF (fun _ _ h => h))
  have Q0 := hide hS
  clear hF hS
  go_wp2_with fail
  refine (ksame (vs := [.slice yo16 32 yc16]) (ps := [prt 0 2]) (unhide B) (Sls.cons (unhide Q0) (Sls.nil _)) rfl (by intro p hp; simp only [List.mem_cons, List.not_mem_nil, or_false] at hp; rcases hp with rfl <;> first | exact prt_len _ _ | rfl) 1 rfl (by decide)).mono ?_
  rintro e w18 ⟨rfl, hF⟩
  replace D := hide ((unhide D).fr0 hF)
  replace B := hide ((unhide B).fr0 hF)
  replace C := hide ((unhide C).fr0 hF)
  replace Q0 := hide ((unhide Q0).fr0 hF)
  replace FF := hide ((unhide FF).trans hF (fun _ _ h => h))
  clear hF
  go_wp2_with fail
  clear Q0
  clear B
  refine (part_any 0 4 0 4 rfl rfl (by decide) (by decide) (by decide) _ _ _ (unhide D)).mono ?_
  rintro e w19 ⟨yo18, yc18, rfl, hS, hF⟩
  replace D := hide ((unhide D).fr0 hF)
  replace C := hide ((unhide C).fr0 hF)
  replace FF := hide ((unhide FF).trans hF (fun _ _ h => h))
  have Q0 := hide hS
  clear hF hS
  go_wp2_with fail
  refine (ksame (vs := [.slice yo18 32 yc18]) (ps := [prt 0 4]) (unhide C) (Sls.cons (unhide Q0) (Sls.nil _)) rfl (by intro p hp; simp only [List.mem_cons, List.not_mem_nil, or_false] at hp; rcases hp with rfl <;> first | exact prt_len _ _ | rfl) 1 rfl (by decide)).mono ?_
  rintro e w20 ⟨rfl, hF⟩
  replace D := hide ((unhide D).fr0 hF)
  replace C := hide ((unhide C).fr0 hF)
  replace Q0 := hide ((unhide Q0).fr0 hF)
  replace FF := hide ((unhide FF).trans hF (fun _ _ h => h))
  clear hF
  go_wp2_with fail
  clear Q0
  clear C
  refine (kproof_in 1 8 3 1 rfl (by decide) (by decide) [prt 1 2, prt 2 4, prt 4 8] kf1 rfl _ _ (by first | exact Fr.refl _ _ | exact (Fr.refl _ _).drew) _ _ (unhide D)).mono ?_
  rintro e w21 ⟨ao20, cp20, us20, rfl, hP, hF⟩
  replace D := hide ((unhide D).fr0 hF)
  replace FF := hide ((unhide FF).trans hF (fun _ _ h => h))
  have A := hide hP
  clear hF hP
  go_wp2_with fail
  refine (kproof_in 6 8 3 6 rfl (by decide) (by decide) [prt 4 6, prt 6 8, prt 0 4] kf6 rfl _ _ (by first | exact Fr.refl _ _ | exact (Fr.refl _ _).drew) _ _ (unhide D)).mono ?_
  rintro e w22 ⟨ao21, cp21, us21, rfl, hP, hF⟩
  replace D := hide ((unhide D).fr0 hF)
  replace A := hide ((unhide A).fr0 hF)
  replace FF := hide ((unhide FF).trans hF (fun _ _ h => h))
  have B := hide hP
  clear hF hP
  go_wp2_with fail
  refine (kproof_in 2 5 2 2 rfl (by decide) (by decide) [prt 2 4, prt 4 5] kf2 rfl _ _ (by first | exact Fr.refl _ _ | exact (Fr.refl _ _).drew) _ _ (unhide D)).mono ?_
  rintro e w23 ⟨ao22, cp22, us22, rfl, hP, hF⟩
  replace D := hide ((unhide D).fr0 hF)
  replace A := hide ((unhide A).fr0 hF)
  replace B := hide ((unhide B).fr0 hF)
  replace FF := hide ((unhide FF).trans hF (fun _ _ h => h))
  have C := hide hP
  clear hF hP
  go_wp2_with fail
  refine (kproof_in 0 8 0 0 rfl (by decide) (by decide) [] kf0 rfl _ _ (by first | exact Fr.refl _ _ | exact (Fr.refl _ _).drew) _ _ (unhide D)).mono ?_
  rintro e w24 ⟨ao23, cp23, us23, rfl, hP, hF⟩
  replace D := hide ((unhide D).fr0 hF)
  replace A := hide ((unhide A).fr0 hF)
  replace B := hide ((unhide B).fr0 hF)
  replace C := hide ((unhide C).fr0 hF)
  replace FF := hide ((unhide FF).trans hF (fun _ _ h => h))
  have N := hide hP
  clear hF hP
  go_wp2_with fail
  clear N
  refine (part_any 1 2 1 2 rfl rfl (by decide) (by decide) (by decide) _ _ _ (unhide D)).mono ?_
  rintro e w25 ⟨yo24, yc24, rfl, hS, hF⟩
  replace D := hide ((unhide D).fr0 hF)
  replace A := hide ((unhide A).fr0 hF)
  replace B := hide ((unhide B).fr0 hF)
  replace C := hide ((unhide C).fr0 hF)
  replace FF := hide ((unhide FF).trans hF (fun _ _ h => h))
  have Q0 := hide hS
  clear hF hS
  go_wp2_with fail
  refine (part_any 2 4 2 4 rfl rfl (by decide) (by decide) (by decide) _ _ _ (unhide D)).mono ?_
  rintro e w26 ⟨yo25, yc25, rfl, hS, hF⟩
  replace D := hide ((unhide D).fr0 hF)
  replace A := hide ((unhide A).fr0 hF)
  replace B := hide ((unhide B).fr0 hF)
  replace C := hide ((unhide C).fr0 hF)
  replace Q0 := hide ((unhide Q0).fr0 hF)
  replace FF := hide ((unhide FF).trans hF (fun _ _ h => h))
  have Q1 := hide hS
  clear hF hS
  go_wp2_with fail
  refine (part_any 4 8 4 8 rfl rfl (by decide) (by decide) (by decide) _ _ _ (unhide D)).mono ?_
  rintro e w27 ⟨yo26, yc26, rfl, hS, hF⟩
  replace D := hide ((unhide D).fr0 hF)
  replace A := hide ((unhide A).fr0 hF)
  replace B := hide ((unhide B).fr0 hF)
  replace C := hide ((unhide C).fr0 hF)
  replace Q0 := hide ((unhide Q0).fr0 hF)
  replace Q1 := hide ((unhide Q1).fr0 hF)
  replace FF := hide ((unhide FF).trans hF (fun _ _ h => h))
  have Q2 := hide hS
  clear hF hS
  go_wp2_with fail
  refine (ksame (vs := [.slice yo24 32 yc24, .slice yo25 32 yc25, .slice yo26 32 yc26]) (ps := [prt 1 2, prt 2 4, prt 4 8]) (unhide A) (Sls.cons (unhide Q0) (Sls.cons (unhide Q1) (Sls.cons (unhide Q2) (Sls.nil _)))) rfl (by intro p hp; simp only [List.mem_cons, List.not_mem_nil, or_false] at hp; rcases hp with rfl | rfl | rfl <;> first | exact prt_len _ _ | rfl) 3 rfl (by decide)).mono ?_
  rintro e w28 ⟨rfl, hF⟩
  replace D := hide ((unhide D).fr0 hF)
  replace A := hide ((unhide A).fr0 hF)
  replace B := hide ((unhide B).fr0 hF)
  replace C := hide ((unhide C).fr0 hF)
  replace Q0 := hide ((unhide Q0).fr0 hF)
  replace Q1 := hide ((unhide Q1).fr0 hF)
  replace Q2 := hide ((unhide Q2).fr0 hF)
  replace FF := hide ((unhide FF).trans hF (fun _ _ h => h))
  clear hF
  go_wp2_with fail
  clear Q0 Q1 Q2
  clear A
  refine (part_any 4 6 4 6 rfl rfl (by decide) (by decide) (by decide) _ _ _ (unhide D)).mono ?_
  rintro e w29 ⟨yo28, yc28, rfl, hS, hF⟩
  replace D := hide ((unhide D).fr0 hF)
  replace B := hide ((unhide B).fr0 hF)
  replace C := hide ((unhide C).fr0 hF)
  replace FF := hide ((unhide FF).trans hF (fun _ _ h => h))
  have Q0 := hide hS
  clear hF hS
  go_wp2_with fail
  refine (part_any 6 8 6 8 rfl rfl (by decide) (by decide) (by decide) _ _ _ (unhide D)).mono ?_
  rintro e w30 ⟨yo29, yc29, rfl, hS, hF⟩
  replace D := hide ((unhide D).fr0 hF)
  replace B := hide ((unhide B).fr0 hF)
  replace C := hide ((unhide C).fr0 hF)
  replace Q0 := hide ((unhide Q0).fr0 hF)
  replace FF := hide ((unhide FF).trans hF (fun _ _ h => h))
  have Q1 := hide hS
  clear hF hS
  go_wp2_with fail
  refine (part_any 0 4 0 4 rfl rfl (by decide) (by decide) (by decide) _ _ _ (unhide D)).mono ?_
  rintro e w31 ⟨yo30, yc30, rfl, hS, hF⟩
  replace D := hide ((unhide D).fr0 hF)
  replace B := hide ((unhide B).fr0 hF)
  replace C := hide ((unhide C).fr0 hF)
  replace Q0 := hide ((unhide Q0).fr0 hF)
  replace Q1 := hide ((unhide Q1).fr0 hF)
  replace FF := hide ((unhide FF).trans hF (fun _ _ h => h))
  have Q2 := hide hS
  clear hF hS
  go_wp2_with fail
  refine (ksame (vs := [.slice yo28 32 yc28, .slice yo29 32 yc29, .slice yo30 32 yc30]) (ps := [prt 4 6, prt 6 8, prt 0 4]) (unhide B) (Sls.cons (unhide Q0) (Sls.cons (unhide Q1) (Sls.cons (unhide Q2) (Sls.nil _)))) rfl (by intro p hp; simp only [List.mem_cons, List.not_mem_nil, or_false] at hp; rcases hp with rfl | rfl | rfl <;> first | exact prt_len _ _ | rfl) 3 rfl (by decide)).mono ?_
  rintro e w32 ⟨rfl, hF⟩
  replace D := hide ((unhide D).fr0 hF)
  replace B := hide ((unhide B).fr0 hF)
  replace C := hide ((unhide C).fr0 hF)
  replace Q0 := hide ((unhide Q0).fr0 hF)
  replace Q1 := hide ((unhide Q1).fr0 hF)
  replace Q2 := hide ((unhide Q2).fr0 hF)
  replace FF := hide ((unhide FF).trans hF (fun _ _ h => h))
  clear hF
  go_wp2_with fail
  clear Q0 Q1 Q2
  clear B
  refine (part_any 2 4 2 4 rfl rfl (by decide) (by decide) (by decide) _ _ _ (unhide D)).mono ?_
  rintro e w33 ⟨yo32, yc32, rfl, hS, hF⟩
  replace D := hide ((unhide D).fr0 hF)
  replace C := hide ((unhide C).fr0 hF)
  replace FF := hide ((unhide FF).trans hF (fun _ _ h => h))
  have Q0 := hide hS
  clear hF hS
  go_wp2_with fail
  refine (part_any 4 5 4 5 rfl rfl (by decide) (by decide) (by decide) _ _ _ (unhide D)).mono ?_
  rintro e w34 ⟨yo33, yc33, rfl, hS, hF⟩
  replace D := hide ((unhide D).fr0 hF)
  replace C := hide ((unhide C).fr0 hF)
  replace Q0 := hide ((unhide Q0).fr0 hF)
  replace FF := hide ((unhide FF).trans hF (fun _ _ h => h))
  have Q1 := hide hS
  clear hF hS
  go_wp2_with fail
  refine (ksame (vs := [.slice yo32 32 yc32, .slice yo33 32 yc33]) (ps := [prt 2 4, prt 4 5]) (unhide C) (Sls.cons (unhide Q0) (Sls.cons (unhide Q1) (Sls.nil _))) rfl (by intro p hp; simp only [List.mem_cons, List.not_mem_nil, or_false] at hp; rcases hp with rfl | rfl <;> first | exact prt_len _ _ | rfl) 2 rfl (by decide)).mono ?_
  rintro e w35 ⟨rfl, hF⟩
  replace D := hide ((unhide D).fr0 hF)
  replace C := hide ((unhide C).fr0 hF)
  replace Q0 := hide ((unhide Q0).fr0 hF)
  replace Q1 := hide ((unhide Q1).fr0 hF)
  replace FF := hide ((unhide FF).trans hF (fun _ _ h => h))
  clear hF
  go_wp2_with fail
  clear Q0 Q1
  clear C
  refine (kmany_in [0, 5] 4 2 rfl (by decide) rfl [prt 1 2, prt 2 4, prt 4 5, prt 6 8] km2 rfl _ _ _ (unhide D)).mono ?_
  rintro e w36 ⟨ao35, cp35, us35, rfl, hP, hF⟩
  replace D := hide ((unhide D).fr0 hF)
  replace FF := hide ((unhide FF).trans hF (fun _ _ h => h))
  have A := hide hP
  clear hF hP
  go_wp2_with fail
  refine (kmany_nil _ _ _ (unhide D)).mono ?_
  rintro e w37 ⟨ao36, cp36, us36, rfl, hP, hF⟩
  replace D := hide ((unhide D).fr0 hF)
  replace A := hide ((unhide A).fr0 hF)
  replace FF := hide ((unhide FF).trans hF (fun _ _ h => h))
  have B := hide hP
  clear hF hP
  go_wp2_with fail
  refine (kmany_in [0, 1, 2, 3, 4, 5, 6, 7] 0 8 rfl (by decide) rfl [] km8 rfl _ _ _ (unhide D)).mono ?_
  rintro e w38 ⟨ao37, cp37, us37, rfl, hP, hF⟩
  replace D := hide ((unhide D).fr0 hF)
  replace A := hide ((unhide A).fr0 hF)
  replace B := hide ((unhide B).fr0 hF)
  replace FF := hide ((unhide FF).trans hF (fun _ _ h => h))
  have C := hide hP
  clear hF hP
  go_wp2_with fail
  clear C
  refine (kmany_no _ _ _ (unhide D)).mono ?_
  rintro e w39 ⟨rfl, hF⟩
  replace D := hide ((unhide D).fr0 hF)
  replace A := hide ((unhide A).fr0 hF)
  replace B := hide ((unhide B).fr0 hF)
  replace FF := hide ((unhide FF).trans hF (fun _ _ h => h))
  clear hF
  go_wp2_with fail
  refine (part_any 1 2 1 2 rfl rfl (by decide) (by decide) (by decide) _ _ _ (unhide D)).mono ?_
  rintro e w40 ⟨yo39, yc39, rfl, hS, hF⟩
  replace D := hide ((unhide D).fr0 hF)
  replace A := hide ((unhide A).fr0 hF)
  replace B := hide ((unhide B).fr0 hF)
  replace FF := hide ((unhide FF).trans hF (fun _ _ h => h))
  have Q0 := hide hS
  clear hF hS
  go_wp2_with fail
  refine (part_any 2 4 2 4 rfl rfl (by decide) (by decide) (by decide) _ _ _ (unhide D)).mono ?_
  rintro e w41 ⟨yo40, yc40, rfl, hS, hF⟩
  replace D := hide ((unhide D).fr0 hF)
  replace A := hide ((unhide A).fr0 hF)
  replace B := hide ((unhide B).fr0 hF)
  replace Q0 := hide ((unhide Q0).fr0 hF)
  replace FF := hide ((unhide FF).trans hF (fun _ _ h => h))
  have Q1 := hide hS
  clear hF hS
  go_wp2_with fail
  refine (part_any 4 5 4 5 rfl rfl (by decide) (by decide) (by decide) _ _ _ (unhide D)).mono ?_
  rintro e w42 ⟨yo41, yc41, rfl, hS, hF⟩
  replace D := hide ((unhide D).fr0 hF)
  replace A := hide ((unhide A).fr0 hF)
  replace B := hide ((unhide B).fr0 hF)
  replace Q0 := hide ((unhide Q0).fr0 hF)
  replace Q1 := hide ((unhide Q1).fr0 hF)
  replace FF := hide ((unhide FF).trans hF (fun _ _ h => h))
  have Q2 := hide hS
  clear hF hS
  go_wp2_with fail
  refine (part_any 6 8 6 8 rfl rfl (by decide) (by decide) (by decide) _ _ _ (unhide D)).mono ?_
  rintro e w43 ⟨yo42, yc42, rfl, hS, hF⟩
  replace D := hide ((unhide D).fr0 hF)
  replace A := hide ((unhide A).fr0 hF)
  replace B := hide ((unhide B).fr0 hF)
  replace Q0 := hide ((unhide Q0).fr0 hF)
  replace Q1 := hide ((unhide Q1).fr0 hF)
  replace Q2 := hide ((unhide Q2).fr0 hF)
  replace FF := hide ((unhide FF).trans hF (fun _ _ h => h))
  have Q3 := hide hS
  clear hF hS
  go_wp2_with fail
  refine (ksame (vs := [.slice yo39 32 yc39, .slice yo40 32 yc40, .slice yo41 32 yc41, .slice yo42 32 yc42]) (ps := [prt 1 2, prt 2 4, prt 4 5, prt 6 8]) (unhide A) (Sls.cons (unhide Q0) (Sls.cons (unhide Q1) (Sls.cons (unhide Q2) (Sls.cons (unhide Q3) (Sls.nil _))))) rfl (by intro p hp; simp only [List.mem_cons, List.not_mem_nil, or_false] at hp; rcases hp with rfl | rfl | rfl | rfl <;> first | exact prt_len _ _ | rfl) 4 rfl (by decide)).mono ?_
  rintro e w44 ⟨rfl, hF⟩
  replace D := hide ((unhide D).fr0 hF)
  replace A := hide ((unhide A).fr0 hF)
  replace B := hide ((unhide B).fr0 hF)
  replace Q0 := hide ((unhide Q0).fr0 hF)
  replace Q1 := hide ((unhide Q1).fr0 hF)
  replace Q2 := hide ((unhide Q2).fr0 hF)
  replace Q3 := hide ((unhide Q3).fr0 hF)
  replace FF := hide ((unhide FF).trans hF (fun _ _ h => h))
  clear hF
  go_wp2_with fail
  clear Q0 Q1 Q2 Q3
  clear A
  refine (hex_lit ⟨#[53, 100, 99, 57, 100, 97, 55, 57, 97, 55, 48, 54, 53, 57, 97, 57, 97, 100, 53, 53, 57, 99, 98, 55, 48, 49, 100, 101, 100, 57, 97, 50, 97, 98, 57, 100, 56, 50, 51, 97, 97, 100, 50, 102, 52, 57, 54, 48, 99, 102, 101, 51, 55, 48, 101, 102, 102, 52, 54, 48, 52, 51, 50, 56]⟩ rootB _ (by decide) rootB_hex 32 rfl (by decide)).mono ?_
  rintro e w45 ⟨yo44, yc44, rfl, hS, hF⟩
  replace D := hide ((unhide D).fr0 hF)
  replace B := hide ((unhide B).fr0 hF)
  replace FF := hide ((unhide FF).trans hF (fun _ _ h => h))
  have Q0 := hide hS
  clear hF hS
  go_wp2_with fail
  refine (ksame (vs := [.slice yo44 32 yc44]) (ps := [rootB]) (unhide B) (Sls.cons (unhide Q0) (Sls.nil _)) rfl (by intro p hp; simp only [List.mem_cons, List.not_mem_nil, or_false] at hp; rcases hp with rfl <;> first | exact prt_len _ _ | rfl) 1 rfl (by decide)).mono ?_
  rintro e w46 ⟨rfl, hF⟩
  replace D := hide ((unhide D).fr0 hF)
  replace B := hide ((unhide B).fr0 hF)
  replace Q0 := hide ((unhide Q0).fr0 hF)
  replace FF := hide ((unhide FF).trans hF (fun _ _ h => h))
  clear hF
  go_wp2_with fail
  clear Q0
  clear B
  refine (kleaf _ (unhide D).gs).mono ?_
  rintro e w47 ⟨lo, rfl, hS, hF⟩
  replace D := hide ((unhide D).fr0 hF)
  replace FF := hide ((unhide FF).trans hF (fun _ _ h => h))
  have L := hide hS
  clear hF hS
  go_wp2_with fail
  refine (kck 1 (by decide) lo _ (unhide D).gs (unhide L)).mono ?_
  rintro e w48 ⟨rfl, hF⟩
  rw [kc1]
  replace D := hide ((unhide D).fr0 hF)
  replace L := hide ((unhide L).fr0 hF)
  replace FF := hide ((unhide FF).trans hF (fun _ _ h => h))
  clear hF
  go_wp2_with fail
  refine (kck 0 (by decide) lo _ (unhide D).gs (unhide L)).mono ?_
  rintro e w49 ⟨rfl, hF⟩
  rw [kc0]
  replace D := hide ((unhide D).fr0 hF)
  replace L := hide ((unhide L).fr0 hF)
  replace FF := hide ((unhide FF).trans hF (fun _ _ h => h))
  clear hF
  go_wp2_with fail
  refine (kck1 lo _ (unhide D).gs (unhide L)).mono ?_
  rintro e w50 ⟨rfl, hF⟩
  replace D := hide ((unhide D).fr0 hF)
  replace L := hide ((unhide L).fr0 hF)
  replace FF := hide ((unhide FF).trans hF (fun _ _ h => h))
  clear hF
  go_wp2_with fail
  clear L
  obtain ⟨TB, hTB⟩ : ∃ TB, w50.heap.size = TB := ⟨_, rfl⟩
  have HTB := hide hTB
  refine (mnew_any 32 w50).mono ?_
  rintro e wn ⟨rfl, hT1, hF1⟩
  rw [hTB] at hT1 ⊢
  have H1 := hide (And.intro hT1 hF1)
  clear hT1 hF1 hTB
  go_wp2_with fail
  go_loopw [12] (fun iv wr => ∃ (k : Nat) (xo : Option Addr) (cp : Nat) (us : List Value) (rs : List (List Nat)), k ≤ 7 ∧ iv = .int .i64 (k : Nat) ∧ TrAt wr TB TB ((32 : Nat) : Int) k xo cp us rs ∧ RowsOf 32 ((tes.take k).map (lf ((32 : Nat) : Int))) 0 rs ∧ Fr (fun _ => False) w50 wr) (fun iv _ => 7 - (intOf iv).toNat)
  case atStart => exact ⟨0, none, 0, [], [], Nat.zero_le _, rfl, (unhide H1).1, rows_nil 32, (unhide H1).2⟩
  case round =>
    obtain ⟨k, xo, cp, us, rs, hk, rfl, hT, hR, hF⟩ := hrel
    have hbase : 6 ≤ TB := by rw [← unhide HTB]; exact (unhide D).gs.1.2
    by_cases hlt : k < 7
    · have hlt' : (k : Int) < 7 := by omega
      have hke : k < tes.length := by show k < 8; omega
      obtain ⟨g', o', v, e', hcell, hsrc, hcap, hltv, hgl⟩ := (unhide D).at_.cell hF k hke
      cases e'
      have hsl : Sl wr v tes[k] := ⟨hsrc, hcap, hltv.imp id (fun hh g o n c e => Nat.lt_of_lt_of_le (hh g o n c e) hF.size), (unhide D).at_.byt tes[k] (List.getElem_mem hke)⟩
      have hLk : ((tes.take k).map (lf ((32 : Nat) : Int))).length = k := by rw [List.length_map, List.length_take]; show min k 8 = k; omega
      obtain ⟨hs1, hs2⟩ := hR.small (by decide) (by decide) (map_lf_len 32 (by decide) (by decide) _) (by omega)
      have hadd := add_in 32 (by decide) (by decide) TB TB k hbase wr xo cp us rs v tes[k] hT ((unhide D).gs.fr0 hF) hsl (tes_le tes[k] (List.getElem_mem hke)) hs1 hs2 (by omega)
      have htk : (tes.take (k + 1)).map (lf ((32 : Nat) : Int)) = (tes.take k).map (lf ((32 : Nat) : Int)) ++ [lf ((32 : Nat) : Int) tes[k]] := by
        rw [List.take_add_one, List.getElem?_eq_getElem hke, Option.toList_some, List.map_append]; rfl
      have hR2 := hR.add (by decide) (by decide) (lf ((32 : Nat) : Int) tes[k]) (by rw [← htk]; exact map_lf_len 32 (by decide) (by decide) _)
      rw [← htk] at hR2
      have hown : ∀ k, TOwn TB xo us k → TB ≤ k := fun j hj => (hT.lt j hj).1
      obtain ⟨vo, vc, rfl⟩ := hsl.form
      have HI := hide (And.intro hadd (And.intro hR2 (And.intro hF hown)))
      clear hadd hR2 hF hsl hsrc hcap hltv hT hR hs1 hs2 htk hLk hbase hown
      generalize tes[k].length = EL at *
      have k8 : k < 8 := by omega
      have hcell2 := hcell
      rw [Nat.zero_add] at hcell2
      have k8' : (k : Int) < 8 := by omega
      go_wp2_with fail
      refine (unhide HI).1.mono ?_
      rintro e w2 ⟨rfl, xo', cp', vs', hT2, hF2, hO2⟩
      have hF3 : Fr (fun _ => False) w50 w2 := (unhide HI).2.2.1.trans hF2 (fun j hj hO => by have h1 := (unhide HI).2.2.2 j hO; have h2 := unhide HTB; omega)
      have H2 := hide (And.intro hT2 hF3)
      clear hT2 hF2 hO2 hF3
      go_wp2_with fail
      exact ⟨⟨k + 1, xo', cp', vs', _, by omega, by go_num, (unhide H2).1, (unhide HI).2.1, (unhide H2).2⟩, by simp [intOf]; omega⟩
    · have hkN : k = 7 := by omega
      subst hkN
      have hD : Kn wr g vs := (unhide D).fr0 hF
      have hTk : Tk wr TB 32 ((tes.take 7).map (lf ((32 : Nat) : Int))) := tk_of (es := tes.take 7) (by decide) (by decide) hT hR (unhide D).gs (unhide D).gt hF (by decide)
      have hpk : Calls Tryd.prog 22 #[.pointer (some ⟨TB, 0, none⟩)] wr fun e w' => ∃ ao cp us, e = .returned (.slice ao 3 cp) ∧ Pcs w' (.slice ao 3 cp) us [prt 0 4, prt 4 6, prt 6 7] ∧ Fr (fun _ => False) wr w' := by
        refine (tpeaks_in TB 32 (by decide) (by decide) _ wr hTk (by decide)).mono ?_
        rintro e w' ⟨ao, cp, us, rfl, hO⟩
        have e7 : ((tes.take 7).map (lf ((32 : Nat) : Int))).length = 7 := rfl
        rw [e7, kk7] at hO
        have hp := hO.pcs
        have hl : us.length = 3 := hO.len
        rw [hl] at hp ⊢
        exact ⟨ao, cp, us, rfl, hp, hO.own.fr⟩
      replace FF := hide ((unhide FF).trans hF (fun _ _ h => h))
      replace D := hide hD
      have HK := hide hpk
      clear hpk hTk hT hR hF hD hbase hlt
      go_wp2_with fail
      refine (unhide HK).mono ?_
      rintro e w51 ⟨ao50, cp50, us50, rfl, hP, hF⟩
      replace D := hide ((unhide D).fr0 hF)
      replace FF := hide ((unhide FF).trans hF (fun _ _ h => h))
      have A := hide hP
      clear hF hP
      go_wp2_with fail
      refine (part_any 0 4 0 4 rfl rfl (by decide) (by decide) (by decide) _ _ _ (unhide D)).mono ?_
      rintro e w52 ⟨yo51, yc51, rfl, hS, hF⟩
      replace D := hide ((unhide D).fr0 hF)
      replace A := hide ((unhide A).fr0 hF)
      replace FF := hide ((unhide FF).trans hF (fun _ _ h => h))
      have Q0 := hide hS
      clear hF hS
      go_wp2_with fail
      refine (part_any 4 6 4 6 rfl rfl (by decide) (by decide) (by decide) _ _ _ (unhide D)).mono ?_
      rintro e w53 ⟨yo52, yc52, rfl, hS, hF⟩
      replace D := hide ((unhide D).fr0 hF)
      replace A := hide ((unhide A).fr0 hF)
      replace Q0 := hide ((unhide Q0).fr0 hF)
      replace FF := hide ((unhide FF).trans hF (fun _ _ h => h))
      have Q1 := hide hS
      clear hF hS
      go_wp2_with fail
      refine (part_any 6 7 6 7 rfl rfl (by decide) (by decide) (by decide) _ _ _ (unhide D)).mono ?_
      rintro e w54 ⟨yo53, yc53, rfl, hS, hF⟩
      replace D := hide ((unhide D).fr0 hF)
      replace A := hide ((unhide A).fr0 hF)
      replace Q0 := hide ((unhide Q0).fr0 hF)
      replace Q1 := hide ((unhide Q1).fr0 hF)
      replace FF := hide ((unhide FF).trans hF (fun _ _ h => h))
      have Q2 := hide hS
      clear hF hS
      go_wp2_with fail
      refine (ksame (vs := [.slice yo51 32 yc51, .slice yo52 32 yc52, .slice yo53 32 yc53]) (ps := [prt 0 4, prt 4 6, prt 6 7]) (unhide A) (Sls.cons (unhide Q0) (Sls.cons (unhide Q1) (Sls.cons (unhide Q2) (Sls.nil _)))) rfl (by intro p hp; simp only [List.mem_cons, List.not_mem_nil, or_false] at hp; rcases hp with rfl | rfl | rfl <;> first | exact prt_len _ _ | rfl) 3 rfl (by decide)).mono ?_
      rintro e w55 ⟨rfl, hF⟩
      replace D := hide ((unhide D).fr0 hF)
      replace A := hide ((unhide A).fr0 hF)
      replace Q0 := hide ((unhide Q0).fr0 hF)
      replace Q1 := hide ((unhide Q1).fr0 hF)
      replace Q2 := hide ((unhide Q2).fr0 hF)
      replace FF := hide ((unhide FF).trans hF (fun _ _ h => h))
      clear hF
      go_wp2_with fail
      clear Q0 Q1 Q2
      go_wp2_with fail
      go_ret
      exact ⟨rfl, unhide FF⟩
end Go.Proofs.YthamfidjilclpaaDoor

namespace Go.Proofs.YthamfidjilclpaaDoor
open Go.ChangeShapes Go.WideShapes Go.ChangeAt Go.RowKit
set_option maxRecDepth 100000

theorem mknown_contract (H : Type) (enc : TypeId × Value → H) (W : World) (args : Array Value) (ds gs : List (DataW H)) (before : List MemPlace)
    (hW : DataW.Whole enc Tryd.prog Tryd.f3.params.toList Rows.merkleKnownSpec.vars false W args.toList ds gs before) (hL : laidMetH Tryd.prog Rows.merkleKnownRow.laid W) (hsh : W.ShapedOpen Tryd.prog) :
    Calls Tryd.prog 3 args W fun e W' => ∃ v, e = .returned v ∧ Rows.merkleKnownSpec.post enc Tryd.prog Tryd.f3 false true false false W args v W' := by
  have hW' := hW
  obtain ⟨p, q, hA0, hV, rfl, hfz, hnd⟩ := hW
  have hA : DataW.TrodAll enc Tryd.prog W 0 (fun _ => true) true Tryd.f3.params.toList args.toList ds p := hA0
  rw [Tryd.params3] at hA
  obtain ⟨hargs, rfl, rfl⟩ := trodAll_nil hA
  obtain rfl : args = #[] := by cases args; simp_all
  obtain ⟨rfl, rfl⟩ := trodVars_none hV
  have hL2 : laidMet Tryd.prog [("math/bits.deBruijn32tab", Rows.laid_math_bits_deBruijn32tab), ("math/bits.deBruijn64tab", Rows.laid_math_bits_deBruijn64tab), ("almoner/sha.start", Rows.laid_almoner_sha_start), ("almoner/sha.k", Rows.laid_almoner_sha_k)] W := hL
  have hg := gs_of_laid hL2 (.tail _ (.tail _ (.head _))) (.tail _ (.tail _ (.tail _ (.head _)))) (heap_enough hsh)
  have ht := gt_of_laid hL2 (.tail _ (.head _)) (heap_enough hsh)
  refine (mknown_any W hg ht).mono fun e W' ⟨he, hf⟩ => ?_
  subst he
  have hb := hf.below
  refine ⟨_, rfl, _, _, _, [], [], [], hW', ?_, ?_, ?_, hb.frame _, fun h => by cases h⟩
  · exact trodAll_cons_mk (shut_bool Tryd.underlying4 true) trodAll_mk0
  · exact trodAll_mk0
  · rfl

theorem mknown_laid_met (os : Os) : laidMetH Tryd.prog Rows.merkleKnownRow.laid ((mWorld os).forCall (fun _ _ => 0) ⟨#[], #[], []⟩).memory :=
  laidMetH_of_parts (laidMet_of_run' 8 (by kernel_rfl) (by kernel_rfl)) (by kernel_rfl)
theorem mknown_reads (os : Os) {H : Type} (enc : TypeId × Value → H) : ∃ places, DataW.whole enc Tryd.prog ((mWorld os).forCall (fun _ _ => 0) ⟨#[], #[], []⟩).memory Tryd.f3.params.toList Rows.merkleKnownSpec.vars false (#[] : Array Value).toList 8 = some ([], [], places) :=
  ⟨[], by kernel_rfl⟩

theorem mknown_lifted (os : Os) (started : os.Started) (H : Type) (enc : TypeId × Value → H) (F : Stop.Interp) :
    ReturnsInHanded {} Tryd.checked os 3 .any ((OpenSpec.ofChange Rows.merkleKnownSpec).preRow enc Tryd.prog Tryd.f3 Rows.merkleKnownRow.domain false Rows.merkleKnownRow.laid) (((OpenSpec.ofChange Rows.merkleKnownSpec).at F).post enc Tryd.prog Tryd.f3 false true false false) := by
  obtain ⟨places, hx⟩ := mknown_reads os enc
  refine returnsInHanded_of_row (C := Tryd.checked) (s := OpenSpec.ofChange Rows.merkleKnownSpec) Tryd.ownKnob started (by kernel_rfl) Tryd.func3
    (witness_row_atRef (enc := enc) (C := Tryd.checked) false (mWorld os) #[] rfl (by kernel_rfl) (by kernel_rfl) (by kernel_rfl)
      (OpenSpec.preRow_of_cond 8 hx (by kernel_rfl) (fun k hk => by cases hk) (by kernel_rfl) (mknown_laid_met os))) ?_
  intro W base args ds gs before _ hW _ _ _ hL hsh _
  exact mknown_contract H enc W args ds gs before hW hL hsh

theorem mknown_said : Rows.MerkleKnownSaid :=
  OpenClaim.holds_of_cond 3 Tryd.f3 rfl rfl rfl rfl rfl rfl rfl ⟨rfl, rfl, rfl, rfl, rfl⟩ rfl rfl rfl rfl rfl (by kernel_rfl) Tryd.func3 (by kernel_rfl)
    (of_decide_eq_true (by kernel_rfl)) (by unfold Func.isWrapper; first | (rw [if_pos (by decide +kernel)]; kernel_rfl) | (rw [if_neg (by decide +kernel)]; exact ⟨rfl, rfl⟩))
    (fun os started H enc _ F => by rw [OpenClaim.pre_eq_preRow]; exact mknown_lifted os started H enc F)

theorem mknown_plain (f : FuncId) (fn : Func) (hf : Tryd.pinned.checked.prog.funcNamed Rows.merkleKnownRow.func = some f) (hfn : Tryd.pinned.checked.prog.funcs[f]? = some fn) :
    false = Tryd.pinned.checked.prog.looks [] ∧ ∀ (j : Nat) t, fn.params[j]? = some t → Tryd.pinned.checked.prog.wantsStandIn t = false := by
  obtain rfl : f = 3 := Option.some.inj ((show Tryd.prog.funcNamed Rows.merkleKnownRow.func = some 3 by kernel_rfl).symm.trans hf) |>.symm
  obtain rfl : fn = Tryd.f3 := (Option.some.inj (Tryd.func3.symm.trans hfn)).symm
  refine ⟨by kernel_rfl, fun j t ht => ?_⟩
  rw [Tryd.params3] at ht
  simp at ht

/-- THE FIRST FORM's CARD. -/
theorem mknown_card : Rows.MerkleKnownCardSaid :=
  Claim7.holds_tied_plain_at .later [] _ _ _ _ mknown_said (fun _ h => by cases h) (by kernel_rfl) (fun _ h => by cases h) merkleKnown_row_tie rfl ⟨rfl, rfl⟩ (by kernel_rfl) rfl mknown_plain (by kernel_rfl)
#print axioms mknown_card
end Go.Proofs.YthamfidjilclpaaDoor

